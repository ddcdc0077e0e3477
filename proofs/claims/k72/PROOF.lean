import PyProof.Rows.All
import Wide.All
import OpenK.AllK
import Wide.FinOn
import Lean
import PyProof.EqAt
import PyProof.EqKinds
import PyProof.TupleCall
import PySem.Challenge.RW_paidspan_k72_what_moved
set_option Elab.async false
set_option linter.all false
set_option maxRecDepth 100000
/-! THE HAND LAYER, for ints, bools, texts, own classes, LISTS and tuples (index, slices, in, append, pop ..), calls, loops. Paste it whole ahead of your own text; what your proof does not reach may be deleted. -/
namespace L2
open PySem PySem.Spec PyProof.Rows

/-- a key: an int or a str -/
abbrev Key := Sum Int Str
def keyIs : Key → Value → Bool
  | .inl k, v => Value.isInt k v
  | .inr x, v => Value.isStrOf x v
def keyH (w : World) : Key → Int
  | .inl k => hashInt k
  | .inr x => hashStr w x
theorem keyIs_shape : ∀ {k : Key} {v : Value}, keyIs k v = true → (∃ i t, k = Sum.inl i ∧ v = Value.int i t) ∨ (∃ x t, k = Sum.inr x ∧ v = Value.str x t)
  | .inl i, v, h => by
    obtain ⟨t, e⟩ := Value.isInt_shape (k := i) (v := v) h
    exact .inl ⟨i, t, rfl, e⟩
  | .inr x, v, h => by
    obtain ⟨t, e⟩ := Value.isStrOf_shape (x := x) (v := v) h
    exact .inr ⟨x, t, rfl, e⟩
theorem keyIs_int (i : Int) (t : Tok) : keyIs (.inl i) (.int i t) = true := by simp [keyIs, Value.isInt]
theorem keyIs_str (x : Str) (t : Tok) : keyIs (.inr x) (.str x t) = true := by simp [keyIs, Value.isStrOf]
theorem key_ll (a b : Int) : decide ((Sum.inl a : Key) = Sum.inl b) = (a == b) := by
  by_cases e : a = b
  · subst e; simp
  · have h : ¬ (Sum.inl a : Key) = Sum.inl b := fun q => e (Sum.inl.inj q)
    rw [decide_eq_false h]
    exact (beq_eq_false_iff_ne.mpr e).symm
theorem key_rr (a b : Str) : decide ((Sum.inr a : Key) = Sum.inr b) = decide (a = b) := by
  by_cases e : a = b
  · subst e; simp
  · have h : ¬ (Sum.inr a : Key) = Sum.inr b := fun q => e (Sum.inr.inj q)
    rw [decide_eq_false h, decide_eq_false e]
theorem key_lr (a : Int) (b : Str) : decide ((Sum.inl a : Key) = Sum.inr b) = false := decide_eq_false (fun q => nomatch q)
theorem key_rl (a : Str) (b : Int) : decide ((Sum.inr a : Key) = Sum.inl b) = false := decide_eq_false (fun q => nomatch q)

def mixKind (prog : Program) (w : World) : PySem.KeyKind prog w Key where
  is := keyIs
  hash := keyH w
  inj := fun v a b ha hb => by
    rcases keyIs_shape ha with ⟨i, t, rfl, rfl⟩ | ⟨x, t, rfl, rfl⟩
    · rcases keyIs_shape hb with ⟨j, u, rfl, e⟩ | ⟨y, u, rfl, e⟩
      · injection e with e1 _; rw [e1]
      · exact nomatch e
    · rcases keyIs_shape hb with ⟨j, u, rfl, e⟩ | ⟨y, u, rfl, e⟩
      · exact nomatch e
      · injection e with e1 _; rw [e1]
  byValue := fun k v h => by
    rcases keyIs_shape h with ⟨i, t, rfl, rfl⟩ | ⟨x, t, rfl, rfl⟩ <;> rfl
  pyHash := fun hv h => by
    rcases keyIs_shape hv with ⟨i, t, rfl, rfl⟩ | ⟨x, t, rfl, rfl⟩
    · exact wpAny_pyHash_int h
    · exact wpAny_pyHash_str h
  eqBool := fun hu hv h => by
    rcases keyIs_shape hu with ⟨i, t, rfl, rfl⟩ | ⟨x, t, rfl, rfl⟩
    · rcases keyIs_shape hv with ⟨j, u, rfl, rfl⟩ | ⟨y, u, rfl, rfl⟩
      · rw [key_ll] at h; exact wpAny_eqBool_int h
      · rw [key_lr] at h; exact SeqAt.EqAt.int_str i t y u _ _ _ _ h
    · rcases keyIs_shape hv with ⟨j, u, rfl, rfl⟩ | ⟨y, u, rfl, rfl⟩
      · rw [key_rl] at h; exact SeqAt.EqAt.str_int x t j u _ _ _ _ h
      · rw [key_rr] at h; exact wpAny_eqBool_str h
  «strs» := fun k x t v h => by
    rcases keyIs_shape h with ⟨i, u, rfl, e⟩ | ⟨y, u, rfl, e⟩
    · exact nomatch e
    · injection e with e1 _
      subst e1
      cases v <;> rfl

theorem mixKind_int (prog : Program) (w : World) (i : Int) (t : Tok) : (mixKind prog w).is (.inl i) (.int i t) = true := keyIs_int i t
theorem mixKind_str (prog : Program) (w : World) (x : Str) (t : Tok) : (mixKind prog w).is (.inr x) (.str x t) = true := keyIs_str x t
end L2

namespace L2
open PySem PySem.Spec PyProof.Rows

/-- a value, without the heap -/
inductive V where
  | non | bl (b : Bool) | int (i : Int) | str (x : Str) | byt (b : Array UInt8) | flt (b : UInt64) | ref (a : Addr) | ty (n : String)
  deriving DecidableEq

def RelV : V → Value → Prop
  | .non, u => u = Value.none
  | .bl b, u => u = Value.bool b
  | .int i, u => ∃ t, u = Value.int i t
  | .str x, u => ∃ t, u = Value.str x t
  | .byt b, u => ∃ t, u = Value.bytes b t
  | .flt b, u => ∃ t, u = Value.float b t
  | .ref a, u => u = Value.ref a
  | .ty n, u => u = Value.type n

abbrev Vals : List V → List Value → Prop := Paired RelV
theorem Vals.length {xs : List V} {us : List Value} (r : Vals xs us) : xs.length = us.length := Paired.length r
theorem Vals.get : ∀ {xs : List V} {us : List Value} {i : Nat} {x : V}, Vals xs us → xs[i]? = some x → ∃ u, us[i]? = some u ∧ RelV x u
  | _, _, _, _, .nil, e => by simp at e
  | _, _, 0, _, .cons r _, e => by simp at e; subst e; exact ⟨_, rfl, r⟩
  | _, _, i + 1, x, .cons _ t, e => by
    obtain ⟨u, h1, h2⟩ := Vals.get (i := i) (x := x) t (by simpa using e)
    exact ⟨u, by simpa using h1, h2⟩
theorem Vals.set {x : V} {u : Value} (r : RelV x u) : ∀ {xs : List V} {us : List Value} (i : Nat), Vals xs us → Vals (xs.set i x) (us.set i u)
  | _, _, _, .nil => .nil
  | _, _, 0, .cons _ t => .cons r t
  | _, _, i + 1, .cons q t => .cons q (Vals.set r i t)
theorem Vals.append : ∀ {xs ys : List V} {us ws : List Value}, Vals xs us → Vals ys ws → Vals (xs ++ ys) (us ++ ws)
  | _, _, _, _, .nil, s => s
  | _, _, _, _, .cons r t, s => .cons r (Vals.append t s)
theorem Vals.take : ∀ {xs : List V} {us : List Value} (n : Nat), Vals xs us → Vals (xs.take n) (us.take n)
  | _, _, 0, _ => .nil
  | _, _, _ + 1, .nil => .nil
  | _, _, n + 1, .cons r t => .cons r (Vals.take n t)
theorem Vals.drop : ∀ {xs : List V} {us : List Value} (n : Nat), Vals xs us → Vals (xs.drop n) (us.drop n)
  | _, _, 0, r => r
  | _, _, _ + 1, .nil => .nil
  | _, _, n + 1, .cons _ t => Vals.drop n t
theorem Vals.none_of : ∀ {xs : List V} {us : List Value} {i : Nat}, Vals xs us → xs[i]? = none → us[i]? = none := fun {xs us i} r e => by
  have h1 := r.length
  have h2 : xs.length ≤ i := List.getElem?_eq_none_iff.mp e
  exact List.getElem?_eq_none_iff.mpr (by omega)

def RelO : Option V → Option Value → Prop
  | some v, some u => RelV v u
  | none, none => True
  | _, _ => False
def KV {κ : Type} : List (κ × V) → List (κ × Value) → Prop := Paired fun (p : κ × V) (q : κ × Value) => p.1 = q.1 ∧ RelV p.2 q.2

/-- a key of a dict (00_mix): an int or a text -/
def kV : Key → V
  | .inl i => .int i
  | .inr x => .str x

/-- what stands at a tracked address -/
inductive HO where
  /-- a list -/
  | lst (xs : List V)
  /-- a tuple (never changes) -/
  | tup (xs : List V)
  /-- a dict whose keys are ints and texts; one whose keys are tuples of ints and texts (the empty one is both) -/
  | dK (kvs : List (Key × V)) | dT (kvs : List (List Key × V))
  /-- a set of ints: its members, its size -/
  | set (S : Int → Bool) (n : Nat)
  /-- an instance of the class at C, its dict at dx, its attributes -/
  | ins (C dx : Addr) (fs : List (Str × V))
  /-- the dict of the instance at x -/
  | own (x : Addr)
  /-- the dict of an exception -/
  | xd (fs : List (Str × V))
  /-- a bound method, f of x -/
  | met (f x : Addr)
  /-- a range object lo, lo + 1, .. below hi -/
  | rng (lo hi : Int)
  /-- a thing that is known to the object (the script; a dict while a loop walks it): read, never written while it is so -/
  | frz (o : Obj) (u : HO)
  /-- a code object's table -/
  | tbl (ps : Array Value)
  /-- any other thing, by what is true of its one object (a def of one's own: SetO a S n := HO.ext fun h => ..) -/
  | ext (φ : Heap → Prop)

abbrev Hp := Addr → Option HO
def upd (H : Hp) (a : Addr) (o : HO) : Hp := fun b => if b = a then some o else H b
theorem upd_same {H : Hp} {a : Addr} {o : HO} : upd H a o a = some o := by unfold upd; rw [if_pos rfl]
theorem upd_ne {H : Hp} {a b : Addr} {o : HO} (h : b ≠ a) : upd H a o b = H b := by unfold upd; rw [if_neg h]
/-- two objects of different content stand apart -/
theorem ne_of {H : Hp} {a b : Addr} {o u : HO} (h : H a = some o) (h' : H b = some u) (d : o ≠ u) : a ≠ b := by
  intro e; subst e; rw [h] at h'; exact d (Option.some.inj h')
theorem ne_of_none {H : Hp} {a b : Addr} {o : HO} (h : H a = some o) (h' : H b = none) : a ≠ b := by
  intro e; subst e; rw [h] at h'; cases h'

section
variable (P : Program) (w : World)
def ObjOk (H : Hp) (h : Heap) (a : Addr) : HO → Prop
  | .lst xs => xs.length ≤ sizeLine ∧ ∃ (its : List Value) (n : Nat), Vals xs its ∧ h.get? a = some { cls := .type "list", data := .seq its.toArray n }
  | .tup xs => xs.length ≤ sizeLine ∧ ∃ its : List Value, Vals xs its ∧ IsTup h a its.toArray
  | .dK kvs => kvs.length ≤ sizeLine ∧ (a == sysModules) = false ∧ ∃ vs, KV kvs vs ∧ h.DictOf (mixKind P w) a vs
  | .dT kvs => kvs.length ≤ sizeLine ∧ (a == sysModules) = false ∧ ∃ xs : List (List Key × Addr × Value),
      Paired (fun (p : List Key × V) (q : List Key × Addr × Value) => p.1 = q.1 ∧ H q.2.1 = some (.tup (p.1.map kV)) ∧ RelV p.2 q.2.2) kvs xs ∧
      ∃ o es ep, h.get? a = some o ∧ o.ExactDict ∧ o.data = .dict es ep ∧ es.toList = xs.map (entryOfKey (tupleKind (mixKind P w))) ∧ (xs.map (·.1)).Nodup
  | .set S n => h.SetOf (intKind P w) a S n
  | .ins C dx fs => H dx = some (.own a) ∧ fs.length ≤ 1000 ∧ dx ≠ a ∧ h.get? a = some (PySem.W.instObj C dx) ∧
      ∃ mA, h.Ns1 dx mA ∧ (∀ f, RelO (fs.lookup f) (mA f)) ∧ PySem.Within mA (fs.map (·.1))
  | .own _ => ∃ o, h.get? a = some o
  | .xd fs => ∃ mA, h.Ns1 a mA ∧ ∀ f, RelO (fs.lookup f) (mA f)
  | .rng lo hi => ∃ t u v, h.get? a = some { cls := .type "range", data := .fields #[.int lo t, .int hi u, .int 1 v] }
  | .frz o u => h.get? a = some o ∧ ObjOk H h a u
  | .tbl ps => h.get? a = some { cls := .none, data := .fields ps }
  | .met f x => h.get? a = some (PySem.W.methodObj (.ref f) (.ref x))
  | .ext φ => φ h ∧ (∃ o, h.get? a = some o) ∧ ∀ h1 h2 : Heap, φ h1 → (∀ o, h1.get? a = some o → h2.get? a = some o) → φ h2
/-- the abstract heap is held -/
def HOk (H : Hp) (h : Heap) : Prop := ∀ a o, H a = some o → ObjOk P w H h a o
end

section
variable {P : Program} {w : World} {H H' : Hp} {h h' : Heap} {a : Addr} {o : HO}
theorem ObjOk.lt (x : ObjOk P w H h a o) : a < h.objs.size := by
  cases o with
  | lst xs => obtain ⟨_, _, _, _, e⟩ := x; exact Heap.lt_size e
  | tup xs => obtain ⟨_, _, _, p⟩ := x; exact p.lt
  | dK kvs => obtain ⟨_, _, _, _, o, _, _, e, _⟩ := x; exact Heap.lt_size e
  | dT kvs => obtain ⟨_, _, _, _, o, _, _, e, _⟩ := x; exact Heap.lt_size e
  | set S n => obtain ⟨o, _, _, _, e, _⟩ := x; exact Heap.lt_size e
  | ins C dx fs => obtain ⟨_, _, _, e, _⟩ := x; exact Heap.lt_size e
  | own y => obtain ⟨_, e⟩ := x; exact Heap.lt_size e
  | xd fs => obtain ⟨_, ⟨_, _, _, e, _⟩, _⟩ := x; exact Heap.lt_size e
  | rng lo hi => obtain ⟨_, _, _, e⟩ := x; exact Heap.lt_size e
  | frz ob u => obtain ⟨e, _⟩ := x; exact Heap.lt_size e
  | tbl ps => exact Heap.lt_size (show h.get? a = some _ from x)
  | met f y => exact Heap.lt_size (show h.get? a = some _ from x)
  | ext φ => obtain ⟨_, ⟨_, e⟩, _⟩ := x; exact Heap.lt_size e
theorem Paired.mapP {α β : Type} {F G : α → β → Prop} : ∀ {l₁ : List α} {l₂ : List β}, Paired F l₁ l₂ → (∀ a b, F a b → G a b) → Paired G l₁ l₂
  | _, _, .nil, _ => .nil
  | _, _, .cons r t, f => .cons (f _ _ r) (Paired.mapP t f)
/-- what an object's description leans on: its own object, its own dict, the tuples -/
theorem ObjOk.stay (x : ObjOk P w H h a o) (k : ∀ b u, (b = a ∨ H b = some (.own a)) → h.get? b = some u → h'.get? b = some u)
    (ho : ∀ b, H b = some (.own a) → H' b = some (.own a)) (ht : ∀ b xs, H b = some (.tup xs) → H' b = some (.tup xs)) : ObjOk P w H' h' a o := by
  induction o with
  | lst xs => obtain ⟨z, its, n, r, e⟩ := x; exact ⟨z, its, n, r, k _ _ (.inl rfl) e⟩
  | tup xs => obtain ⟨z, its, r, ob, e, c⟩ := x; exact ⟨z, its, r, ob, k _ _ (.inl rfl) e, c⟩
  | dK kvs => obtain ⟨z, y, vs, r, ob, es, ep, e, c⟩ := x; exact ⟨z, y, vs, r, ob, es, ep, k _ _ (.inl rfl) e, c⟩
  | dT kvs =>
    obtain ⟨z, y, xs, r, ob, es, ep, e, c⟩ := x
    exact ⟨z, y, xs, Paired.mapP r fun p q z => ⟨z.1, ht _ _ z.2.1, z.2.2⟩, ob, es, ep, k _ _ (.inl rfl) e, c⟩
  | set S n => obtain ⟨ob, es, ep, t, e, c⟩ := x; exact ⟨ob, es, ep, t, k _ _ (.inl rfl) e, c⟩
  | ins C dx fs =>
    obtain ⟨d, z, ne, e, mA, ⟨od, es, ep, e2, c⟩, r⟩ := x
    exact ⟨ho _ d, z, ne, k _ _ (.inl rfl) e, mA, ⟨od, es, ep, k _ _ (.inr d) e2, c⟩, r⟩
  | own y => obtain ⟨ob, e⟩ := x; exact ⟨ob, k _ _ (.inl rfl) e⟩
  | xd fs => obtain ⟨mA, ⟨od, es, ep, e, c⟩, r⟩ := x; exact ⟨mA, ⟨od, es, ep, k _ _ (.inl rfl) e, c⟩, r⟩
  | rng lo hi => obtain ⟨t, u, v, e⟩ := x; exact ⟨t, u, v, k _ _ (.inl rfl) e⟩
  | frz ob u ih => obtain ⟨e, q⟩ := x; exact ⟨k _ _ (.inl rfl) e, ih q⟩
  | tbl ps =>
    have e : h.get? a = some { cls := .none, data := .fields ps } := x
    show h'.get? a = some { cls := .none, data := .fields ps }
    exact k a _ (.inl rfl) e
  | met f y =>
    have e : h.get? a = some (PySem.W.methodObj (.ref f) (.ref y)) := x
    show h'.get? a = some (PySem.W.methodObj (.ref f) (.ref y))
    exact k a _ (.inl rfl) e
  | ext φ => obtain ⟨p, ⟨o, e⟩, st⟩ := x; exact ⟨st _ _ p fun o q => k _ _ (.inl rfl) q, ⟨o, k _ _ (.inl rfl) e⟩, st⟩
theorem HOk.lt (x : HOk P w H h) (e : H a = some o) : a < h.objs.size := (x a o e).lt
theorem HOk.fresh (x : HOk P w H h) (e : h.objs.size ≤ a) : H a = none := by
  cases q : H a with
  | none => rfl
  | some u => exact absurd (Nat.lt_of_lt_of_le (x.lt q) e) (Nat.lt_irrefl _)
/-- every object of the heap is kept -/
theorem HOk.kept (x : HOk P w H h) (k : ∀ b u, h.get? b = some u → h'.get? b = some u) : HOk P w H h' := fun a o e =>
  (x a o e).stay (fun b u _ q => k b u q) (fun _ q => q) fun _ _ q => q
/-- a new object is laid and tracked -/
theorem HOk.laid (x : HOk P w H h) (k : ∀ b u, h.get? b = some u → h'.get? b = some u) (hp : h.objs.size ≤ a) (new : ObjOk P w (upd H a o) h' a o) : HOk P w (upd H a o) h' := fun b u e => by
  have hn := x.fresh hp
  by_cases hb : b = a
  · subst hb; rw [upd_same] at e; cases e; exact new
  · rw [upd_ne hb] at e
    exact (x b u e).stay (fun c v _ q => k c v q) (fun c q => by rw [upd_ne (ne_of_none q hn)]; exact q) fun c xs q => by rw [upd_ne (ne_of_none q hn)]; exact q
end

/-- what may be read as u: it is u, or a known u -/
def Rd (H : Hp) (a : Addr) (u : HO) : Prop := H a = some u ∨ ∃ o, H a = some (.frz o u)
theorem Rd.of {H : Hp} {a : Addr} {u : HO} (h : H a = some u) : Rd H a u := .inl h
theorem Rd.ok {P : Program} {w : World} {H : Hp} {h : Heap} {a : Addr} {u : HO} (r : Rd H a u) (x : HOk P w H h) : ObjOk P w H h a u := by
  rcases r with r | ⟨o, r⟩
  · exact x a u r
  · obtain ⟨_, q⟩ := x a _ r
    exact q
/-- what may be written -/
def Mut : Option HO → Prop
  | some (.lst _) => True
  | some (.dK _) => True
  | some (.dT _) => True
  | some (.set _ _) => True
  | some (.ins _ _ _) => True
  | some (.ext _) => True
  | _ => False
section
variable {P : Program} {w : World} {H : Hp} {h h' : Heap} {x e : Addr} {o' : HO}
/-- the object at e is changed: x itself, or the dict of the instance x -/
theorem HOk.write (ok : HOk P w H h) (mu : Mut (H x)) (he : e = x ∨ H e = some (.own x)) (k : ∀ b u, b ≠ e → h.get? b = some u → h'.get? b = some u) (heo : ∃ u, h'.get? e = some u)
    (new : ObjOk P w (upd H x o') h' x o') : HOk P w (upd H x o') h' := fun b u q => by
  have nown : ∀ c y, H c = some (.own y) → c ≠ x := fun c y r z => by subst z; rw [r] at mu; exact mu
  have ntup : ∀ c xs, H c = some (.tup xs) → c ≠ x := fun c xs r z => by subst z; rw [r] at mu; exact mu
  by_cases hb : b = x
  · subst hb; rw [upd_same] at q; cases q; exact new
  · rw [upd_ne hb] at q
    by_cases hbe : b = e
    · have q' : H b = some (.own x) := by
        rcases he with z | z
        · exact absurd (hbe.trans z) hb
        · rw [hbe]; exact z
      rw [q] at q'; cases q'
      obtain ⟨v, hv⟩ := heo
      exact ⟨v, by rw [hbe]; exact hv⟩
    · refine (ok b u q).stay (fun c v hc r => k c v ?_ r) (fun c r => by rw [upd_ne (nown c b r)]; exact r) fun c xs r => by rw [upd_ne (ntup c xs r)]; exact r
      rcases hc with rfl | hc
      · exact hbe
      · rintro rfl
        rcases he with z | z
        · exact nown c b hc z
        · rw [hc] at z; cases z; exact hb rfl
end

/-! ### kept unless tracked; of the frames at fs (the callers') the slots may change (an exception that passes writes there); of the records at ex (iterators) nothing is said -/
structure Un (fs ex : List Addr) (H H' : Hp) (h h' : Heap) : Prop where
  keep : ∀ b o, h.get? b = some o → H b = none → b ∉ fs → b ∉ ex → h'.get? b = some o
  slot : ∀ b o, h.get? b = some o → H b = none → b ∈ fs → b ∉ ex → ∃ sl, h'.get? b = some { o with slots := sl }
  free : ∀ b o, h.get? b = some o → H b = none → b ∉ ex → H' b = none
  there : ∀ b o, h.get? b = some o → b ∉ ex → ∃ o', h'.get? b = some o'
  tups : ∀ b xs, H b = some (.tup xs) → H' b = some (.tup xs)
  frzs : ∀ b o u, H b = some (.frz o u) → H' b = some (.frz o u)
  tbls : ∀ b ps, H b = some (.tbl ps) → ∃ more, H' b = some (.tbl (ps ++ more))
section
variable {fs fs' ex ex' : List Addr} {H H1 H2 : Hp} {h h1 h2 h' : Heap} {a x e : Addr} {o : HO}
theorem Un.any (u : Un fs ex H H1 h h1) {b : Addr} {ob : Obj} (q : h.get? b = some ob) (n : H b = none) (hx : b ∉ ex) : ∃ sl, h1.get? b = some { ob with slots := sl } := by
  by_cases hb : b ∈ fs
  · exact u.slot b ob q n hb hx
  · exact ⟨ob.slots, u.keep b ob q n hb hx⟩
theorem Un.trans (a : Un fs ex H H1 h h1) (b : Un fs ex H1 H2 h1 h2) : Un fs ex H H2 h h2 where
  keep := fun c ob q n hc hx => b.keep c ob (a.keep c ob q n hc hx) (a.free c ob q n hx) hc hx
  slot := fun c ob q n hc hx => by
    obtain ⟨sl, e1⟩ := a.slot c ob q n hc hx
    obtain ⟨sl', e2⟩ := b.slot c _ e1 (a.free c ob q n hx) hc hx
    exact ⟨sl', e2⟩
  free := fun c ob q n hx => by
    obtain ⟨o', e1⟩ := a.there c ob q hx
    exact b.free c o' e1 (a.free c ob q n hx) hx
  there := fun c ob q hx => by
    obtain ⟨o', e1⟩ := a.there c ob q hx
    exact b.there c o' e1 hx
  tups := fun c xs q => b.tups c xs (a.tups c xs q)
  frzs := fun c ob xs q => b.frzs c ob xs (a.frzs c ob xs q)
  tbls := fun c ps q => by
    obtain ⟨m1, e1⟩ := a.tbls c ps q
    obtain ⟨m2, e2⟩ := b.tbls c _ e1
    exact ⟨m1 ++ m2, by rw [e2, Array.append_assoc]⟩
theorem Un.kept (k : ∀ b u, h.get? b = some u → h'.get? b = some u) : Un fs ex H H h h' :=
  ⟨fun b ob q _ _ _ => k b ob q, fun b ob q _ _ _ => ⟨ob.slots, k b ob q⟩, fun _ _ _ n _ => n, fun b ob q _ => ⟨ob, k b ob q⟩, fun _ _ q => q, fun _ _ _ q => q, fun _ ps q => ⟨#[], by rw [q]; simp⟩⟩
theorem Un.refl : Un fs ex H H h h := Un.kept fun _ _ q => q
theorem Un.laid (k : ∀ b u, h.get? b = some u → h'.get? b = some u) (hp : h.objs.size ≤ a) (hn : H a = none) : Un fs ex H (upd H a o) h h' where
  keep := fun b u q _ _ _ => k b u q
  slot := fun b u q _ _ _ => ⟨u.slots, k b u q⟩
  free := fun b u q n _ => by rw [upd_ne (Nat.ne_of_lt (Nat.lt_of_lt_of_le (Heap.lt_size q) hp))]; exact n
  there := fun b u q _ => ⟨u, k b u q⟩
  tups := fun b xs q => by rw [upd_ne (ne_of_none q hn)]; exact q
  frzs := fun b u xs q => by rw [upd_ne (ne_of_none q hn)]; exact q
  tbls := fun b ps q => ⟨#[], by rw [upd_ne (ne_of_none q hn), q]; simp⟩
theorem Un.write (mu : Mut (H x)) (he : e = x ∨ H e = some (.own x)) (k : ∀ b u, b ≠ e → h.get? b = some u → h'.get? b = some u) (heo : ∃ u, h'.get? e = some u) : Un fs ex H (upd H x o) h h' := by
  have hx : ∀ b, H b = none → b ≠ x := fun b n z => by subst z; rw [n] at mu; exact mu
  have hb : ∀ b, H b = none → b ≠ e := fun b n z => by
    subst z
    rcases he with r | r
    · exact hx b n r
    · rw [n] at r; cases r
  have hm : ∀ b u, H b = some u → ¬ Mut (some u) → b ≠ x := fun b u q nm z => by subst z; rw [q] at mu; exact nm mu
  refine ⟨fun b u q n _ _ => k b u (hb b n) q, fun b u q n _ _ => ⟨u.slots, k b u (hb b n) q⟩, fun b u q n _ => by rw [upd_ne (hx b n)]; exact n, fun b u q _ => ?_,
    fun b xs q => by rw [upd_ne (hm b _ q fun z => z)]; exact q, fun b u xs q => by rw [upd_ne (hm b _ q fun z => z)]; exact q, fun b ps q => ⟨#[], by rw [upd_ne (hm b _ q fun z => z), q]; simp⟩⟩
  by_cases hbe : b = e
  · subst hbe; exact heo
  · exact ⟨u, k b u hbe q⟩
theorem Un.mono (u : Un fs ex H H1 h h1) (hs : ∀ b ∈ fs, b ∈ fs') (hx : ∀ b ∈ ex, b ∈ ex') : Un fs' ex' H H1 h h1 :=
  ⟨fun b ob q n hb he => u.keep b ob q n (fun z => hb (hs b z)) fun z => he (hx b z), fun _ _ q n _ he => u.any q n fun z => he (hx _ z), fun b ob q n he => u.free b ob q n fun z => he (hx b z), fun b ob q he => u.there b ob q fun z => he (hx b z), u.tups, u.frzs, u.tbls⟩
end

/-! ### the heap without what is tracked -/
def trk (h : Heap) (H : Hp) : List Addr := (List.range h.objs.size).filter fun a => (H a).isSome
def hidT (h : Heap) (H : Hp) : Heap := PySem.W.hideAll h (trk h H)
theorem hidT_size (h : Heap) (H : Hp) : (hidT h H).objs.size = h.objs.size := PySem.W.hideAll_size _ _
theorem hidT_get {h : Heap} {H : Hp} {b : Addr} {o : Obj} (e : h.get? b = some o) (n : H b = none) : (hidT h H).get? b = some o :=
  PySem.W.hideAll_get _ e fun hm => by
    have q : (H b).isSome = true := (List.mem_filter.mp hm).2
    rw [n] at q; simp at q
theorem of_hidT {h : Heap} {H : Hp} {b : Addr} {o : Obj} (e : (hidT h H).get? b = some o) : h.get? b = some o ∧ H b = none := by
  have e' : h.get? b = some o := PySem.W.of_hideAll (trk h H) e
  refine ⟨e', ?_⟩
  cases q : H b with
  | none => rfl
  | some x =>
    have hm : b ∈ trk h H := List.mem_filter.mpr ⟨List.mem_range.mpr (Heap.lt_size e'), by simp [q]⟩
    have z : (hidT h H).get? b = none := PySem.W.hideAll_none (trk h H) hm
    rw [z] at e; cases e

/-! ### OpenK's ledger, filled with every new object but one -/
def allNews (g h : Heap) (L : Addr) : List (Addr × Obj) := (List.range h.objs.size).filterMap fun a => if a = L ∨ (g.get? a).isSome = true then none else (h.get? a).map fun o => (a, o)
def rest (g h : Heap) (L d : Addr) : List (Addr × Obj) := (allNews g h L).filter fun p => decide (p.1 ≠ d)
end L2

namespace L2
open PySem PySem.Spec PyProof.Rows

/-- the module's facts, over the base: the heap at the law's entry without what is tracked there -/
structure Mod (K : PySem.W.Frag) (mg : Str → Option Value) (base : Heap) : Prop where
  kin : K.In base
  glob : base.Ns mainGlobals mg
  blt : ∃ mb, base.Ns builtinsNs mb ∧ ∀ x : Str, x ≠ "__name__" → mb x = bootBuiltins x
  nolimit : base.NoLimit

/-- the context: a def's body (or a comprehension's block) running. base: fixed through the whole law; s₀, H₀: the entry; outer: the frames whose slots others may change (a def's callers); stack: all frames that run;
   ex: iterators that were made ahead of the entry and are walked here (a comprehension's); fn: the names whose cells were made at the entry (a def: all; a comprehension's block: its own); calm: not within an except suite; pn: pins that every state bears; xe: what is wanted of an exception that leaves the code -/
structure Cx where
  prog : Program
  w : World
  K : PySem.W.Frag
  mg : Str → Option Value
  base : Heap
  A : Around
  N : List Str
  s₀ : Shared
  H₀ : Hp
  env : Env
  outer : List Env
  stack : List Env
  ex : List Addr
  fn : Str → Bool
  calm : Bool
  pn : List (Addr × Obj)
  xe : Value → Shared → Prop
/-- the callers' frames -/
def frs (l : List Env) : List Addr := l.filterMap (·.frame)
abbrev Cx.fs (X : Cx) : List Addr := frs X.outer

def Vis (sc : Scope) (x : Str) : Prop := sc.names.lookup x = some .local ∨ sc.names.lookup x = some .cell ∨ sc.names.lookup x = some .free
def Loc (sc : Scope) (x : Str) : Prop := sc.names.lookup x = some .local ∨ sc.names.lookup x = some .cell
def Look (env : Env) (h : Heap) (m : Str → Option Value) (x : Str) (u : Value) : Prop :=
  (env.kindOf x = some .local ∧ m x = some u) ∨ ((env.kindOf x = some .cell ∨ env.kindOf x = some .free) ∧ ∃ c, env.cells.lookup x = some c ∧ h.IsCell c (some u))

structure Cx.Ok (X : Cx) : Prop where
  mod : Mod X.K X.mg X.base
  kind : X.env.scope.kind = .function
  glob : X.env.globals = mainGlobals
  blt : X.env.builtins = builtinsNs
  above : X.s₀.heap.objs.size ≤ X.env.locals
  inj : ∀ x y c, X.env.cells.lookup x = some c → X.env.cells.lookup y = some c → x = y
  has : ∀ x, (X.env.kindOf x = some .cell ∨ X.env.kindOf x = some .free) → ∃ c, X.env.cells.lookup x = some c
  cab : ∀ x c, X.fn x = true → X.env.cells.lookup x = some c → X.s₀.heap.objs.size ≤ c
  hd : X.calm = true → X.A.handled = none
  frames : X.A.frames = some X.stack
  stk : X.stack = X.outer ∨ (X.stack = X.env :: X.outer ∧ X.env.frame = some X.env.locals)
  exf : ∀ b ∈ X.ex, b ≠ X.env.locals ∧ ∀ x c, X.env.cells.lookup x = some c → c ≠ b
  bs : ∀ b o, X.base.get? b = some o → X.s₀.heap.get? b = some o ∧ X.H₀ b = none
  bsz : X.base.objs.size ≤ X.s₀.heap.objs.size
  noex : ∀ b o, X.base.get? b = some o → b ∉ X.ex
  exfs : ∀ b ∈ X.ex, b ∉ X.fs
  funs : X.s₀.heap.FunFrames X.base X.outer
  frf : ∀ b ∈ X.fs, X.H₀ b = none

structure Inv (X : Cx) (pins : List (Addr × Obj)) (σ : List (Option V)) (H : Hp) (s : Shared) : Prop where
  ok : X.Ok
  os : s.os = X.s₀.os
  bare : AllBare s.gens
  base : Un X.fs X.ex X.H₀ H X.s₀.heap s.heap
  loc : ∃ m, s.heap.Ns X.env.locals m ∧ ∀ (i : Nat) (x : Str) (v : V), X.N[i]? = some x → σ[i]? = some (some v) → Vis X.env.scope x → ∃ u, RelV v u ∧ Look X.env s.heap m x u
  cell : ∀ x c, X.env.cells.lookup x = some c → ∃ v, s.heap.IsCell c v
  free : H X.env.locals = none
  freeC : ∀ x c, X.env.cells.lookup x = some c → H c = none
  pin : ∀ p ∈ X.pn ++ pins, s.heap.get? p.1 = some p.2 ∧ H p.1 = none ∧ p.1 ≠ X.env.locals ∧ p.1 ∉ X.fs ∧ ∀ v, p.2.data ≠ .cell v
  hok : HOk X.prog X.w H s.heap
  len : σ.length = X.N.length

section
variable {X : Cx} {pins : List (Addr × Obj)} {σ : List (Option V)} {H H' : Hp} {s : Shared} {h' : Heap}

theorem Cx.Ok.nofr (ok : X.Ok) {b : Addr} {o : Obj} (e : X.base.get? b = some o) : b ∉ X.fs := fun hb => by
  have := (ok.funs.mem hb).1
  rw [e] at this; cases this
theorem Inv.bs (I : Inv X pins σ H s) : ∀ b o, X.base.get? b = some o → s.heap.get? b = some o ∧ H b = none := fun b o e =>
  ⟨I.base.keep b o (I.ok.bs b o e).1 (I.ok.bs b o e).2 (I.ok.nofr e) (I.ok.noex b o e), I.base.free b o (I.ok.bs b o e).1 (I.ok.bs b o e).2 (I.ok.noex b o e)⟩
theorem Inv.bk (I : Inv X pins σ H s) : ∀ b o, X.base.get? b = some o → s.heap.get? b = some o := fun b o e => (I.bs b o e).1
theorem Inv.mod (I : Inv X pins σ H s) : Mod X.K X.mg X.base := I.ok.mod
theorem Inv.kIn (I : Inv X pins σ H s) : X.K.In s.heap := I.ok.mod.kin.keeps I.bk
theorem Inv.nolimit (I : Inv X pins σ H s) : s.heap.NoLimit := I.ok.mod.nolimit.keeps I.bk
/-- the frame over the base: for OpenK's rules (K.In X.base is I.mod.kin) -/
theorem Inv.fr (I : Inv X pins σ H s) : ∃ m, Fr X.base X.env.locals s.heap m :=
  let ⟨m, hn, _⟩ := I.loc
  ⟨m, hn, I.bk, Nat.le_trans I.ok.bsz I.ok.above⟩
theorem Inv.lt (I : Inv X pins σ H s) : X.env.locals < s.heap.objs.size := let ⟨_, hn, _⟩ := I.loc; hn.lt
theorem Inv.sz (I : Inv X pins σ H s) : X.s₀.heap.objs.size ≤ s.heap.objs.size := Nat.le_trans I.ok.above (Nat.le_of_lt I.lt)
theorem Inv.nofs (I : Inv X pins σ H s) {a : Addr} (h : s.heap.objs.size ≤ a) : a ∉ X.fs := fun hb => by
  obtain ⟨_, o, ho, _⟩ := I.ok.funs.mem hb
  exact absurd (Nat.lt_of_lt_of_le (Heap.lt_size ho) (Nat.le_trans I.sz h)) (Nat.lt_irrefl _)
theorem Inv.cne (I : Inv X pins σ H s) : ∀ x c, X.env.cells.lookup x = some c → c ≠ X.env.locals := fun x c e z => by
  obtain ⟨v, o, ho, hd⟩ := I.cell x c e
  obtain ⟨m, ⟨o', es, ep, ho', hd', _⟩, _⟩ := I.loc
  rw [z, ho'] at ho; cases ho; rw [hd'] at hd; cases hd
theorem Inv.funs (I : Inv X pins σ H s) : s.heap.FunFrames X.base X.outer := by
  have all : ∀ (l : List Env), (∀ b ∈ frs l, b ∈ X.fs) → X.s₀.heap.FunFrames X.base l → s.heap.FunFrames X.base l := by
    intro l
    induction l with
    | nil => intro _ _; trivial
    | cons env r ih =>
      intro hs hl
      obtain ⟨hk, ⟨L, o, hf, hn, ho, hd⟩, hr⟩ := hl
      have hL : L ∈ X.fs := hs L (by unfold frs; rw [List.filterMap_cons, hf]; exact List.mem_cons_self)
      obtain ⟨sl, e⟩ := I.base.slot L o ho (I.ok.frf L hL) hL fun z => I.ok.exfs L z hL
      exact ⟨hk, ⟨L, _, hf, hn, e, hd⟩, ih (fun b hb => hs b (by unfold frs; rw [List.filterMap_cons, hf]; exact List.mem_cons_of_mem _ hb)) hr⟩
  exact all X.outer (fun _ hb => hb) I.ok.funs

/-- the frames that run, for a call -/
theorem Inv.stack (I : Inv X pins σ H s) : s.heap.FunFrames X.base X.stack := by
  rcases I.ok.stk with e | ⟨e, hf⟩
  · rw [e]; exact I.funs
  · rw [e]
    obtain ⟨m, hn, _⟩ := I.loc
    refine .cons (by rw [I.ok.kind]; decide) hf hn ?_ I.funs
    exact Heap.get?_none_of_le (Nat.le_trans I.ok.bsz I.ok.above)
theorem Inv.stkSub (I : Inv X pins σ H s) : ∀ b ∈ frs X.stack, b ∈ X.env.locals :: X.fs := fun b hb => by
  rcases I.ok.stk with e | ⟨e, hf⟩
  · rw [e] at hb; exact List.mem_cons_of_mem _ hb
  · rw [e] at hb
    unfold frs at hb
    rw [List.filterMap_cons, hf] at hb
    exact hb
theorem Inv.stkFree (I : Inv X pins σ H s) : ∀ b ∈ frs X.stack, H b = none := fun b hb => by
  rcases List.mem_cons.mp (I.stkSub b hb) with e | hb
  · rw [e]; exact I.free
  · obtain ⟨_, o, ho, _⟩ := I.ok.funs.mem hb
    exact I.base.free b o ho (I.ok.frf b hb) fun z => I.ok.exfs b z hb

/-- THE STEP: the untracked objects but the frame and the records at ch are kept (the callers' frames up to slots), the frame's map is kept, the new abstract heap is held -/
theorem Inv.step {g' : Array GenState} {t' : Nat} {d' : Drawn} {ch : List Addr} (I : Inv X pins σ H s)
    (hch : ∀ b ∈ ch, (b ∈ X.ex ∨ X.s₀.heap.objs.size ≤ b) ∧ b ≠ X.env.locals ∧ (∀ x c, X.env.cells.lookup x = some c → c ≠ b) ∧ ∀ p ∈ X.pn ++ pins, p.1 ≠ b)
    (keep : ∀ b o, b ≠ X.env.locals → b ∉ X.fs → b ∉ ch → s.heap.get? b = some o → H b = none → h'.get? b = some o)
    (slot : ∀ b o, b ≠ X.env.locals → b ∈ X.fs → b ∉ ch → s.heap.get? b = some o → H b = none → ∃ sl, h'.get? b = some { o with slots := sl }) (free : ∀ b o, b ∉ ch → s.heap.get? b = some o → H b = none → H' b = none)
    (there : ∀ b o, b ∉ ch → s.heap.get? b = some o → ∃ o', h'.get? b = some o')
    (tups : ∀ b xs, H b = some (.tup xs) → H' b = some (.tup xs)) (frzs : ∀ b o u, H b = some (.frz o u) → H' b = some (.frz o u)) (tbls : ∀ b ps, H b = some (.tbl ps) → ∃ more, H' b = some (.tbl (ps ++ more)))
    (ns : ∀ m, s.heap.Ns X.env.locals m → h'.Ns X.env.locals m) (hok : HOk X.prog X.w H' h') (hg : AllBare g') :
    Inv X pins σ H' { s with heap := h', gens := g', drawn := d', toks := t' } := by
  have neL : ∀ b o, X.s₀.heap.get? b = some o → b ≠ X.env.locals := fun b o e => Nat.ne_of_lt (Nat.lt_of_lt_of_le (Heap.lt_size e) I.ok.above)
  have neC : ∀ b o, X.s₀.heap.get? b = some o → b ∉ X.ex → b ∉ ch := fun b o e hx hb => by
    rcases (hch b hb).1 with z | z
    · exact hx z
    · exact absurd (Nat.lt_of_lt_of_le (Heap.lt_size e) z) (Nat.lt_irrefl _)
  have cellK : ∀ x c, X.env.cells.lookup x = some c → ∀ v, s.heap.IsCell c v → h'.IsCell c v := fun x c e v ⟨o, ho, hd⟩ => by
    have nch : c ∉ ch := fun z => (hch c z).2.2.1 x c e rfl
    by_cases hc : c ∈ X.fs
    · obtain ⟨sl, q⟩ := slot c o (I.cne x c e) hc nch ho (I.freeC x c e)
      exact ⟨_, q, hd⟩
    · exact ⟨o, keep c o (I.cne x c e) hc nch ho (I.freeC x c e), hd⟩
  refine ⟨I.ok, I.os, hg, ⟨fun b o e n hb hx => ?_, fun b o e n hb hx => ?_, fun b o e n hx => ?_, fun b o e hx => ?_, fun b xs e => tups b xs (I.base.tups b xs e), fun b o xs e => frzs b o xs (I.base.frzs b o xs e), fun b ps e => ?_⟩, ?_, fun x c e => ?_, ?_, fun x c e => ?_, fun p hp => ?_, hok, I.len⟩
  · exact keep b o (neL b o e) hb (neC b o e hx) (I.base.keep b o e n hb hx) (I.base.free b o e n hx)
  · obtain ⟨sl, e1⟩ := I.base.slot b o e n hb hx
    obtain ⟨sl', e2⟩ := slot b _ (neL b o e) hb (neC b o e hx) e1 (I.base.free b o e n hx)
    exact ⟨sl', e2⟩
  · obtain ⟨o', e1⟩ := I.base.there b o e hx
    exact free b o' (neC b o e hx) e1 (I.base.free b o e n hx)
  · obtain ⟨o', e1⟩ := I.base.there b o e hx
    exact there b o' (neC b o e hx) e1
  · obtain ⟨m1, e1⟩ := I.base.tbls b ps e
    obtain ⟨m2, e2⟩ := tbls b _ e1
    exact ⟨m1 ++ m2, by rw [e2, Array.append_assoc]⟩
  · obtain ⟨m, hn, hl⟩ := I.loc
    refine ⟨m, ns m hn, fun i x v e1 e2 e3 => ?_⟩
    obtain ⟨u, r, l⟩ := hl i x v e1 e2 e3
    refine ⟨u, r, ?_⟩
    rcases l with l | ⟨k, c, e, z⟩
    · exact .inl l
    · exact .inr ⟨k, c, e, cellK x c e _ z⟩
  · obtain ⟨v, z⟩ := I.cell x c e
    exact ⟨v, cellK x c e v z⟩
  · obtain ⟨m, ⟨o, _, _, ho, _⟩, _⟩ := I.loc
    exact free _ o (fun z => (hch _ z).2.1 rfl) ho I.free
  · obtain ⟨v, o, ho, hd⟩ := I.cell x c e
    exact free c o (fun z => (hch c z).2.2.1 x c e rfl) ho (I.freeC x c e)
  · obtain ⟨e, n, ne, nf, d⟩ := I.pin p hp
    have nch : p.1 ∉ ch := fun z => (hch p.1 z).2.2.2 p hp rfl
    exact ⟨keep p.1 p.2 ne nf nch e n, free p.1 p.2 nch e n, ne, nf, d⟩
/-- .. where the frame's own object is kept too -/
theorem Inv.un {t' : Nat} (I : Inv X pins σ H s) (u : Un X.fs [] H H' s.heap h') (hok : HOk X.prog X.w H' h') : Inv X pins σ H' { s with heap := h', toks := t' } := by
  obtain ⟨m, ⟨o, es, ep, ho, r⟩, _⟩ := id I.loc
  obtain ⟨sl, hL⟩ := u.any ho I.free (by simp)
  exact I.step (g' := s.gens) (d' := s.drawn) (ch := []) (fun _ z => nomatch z) (fun b o _ hb _ e n => u.keep b o e n hb (by simp)) (fun b o _ hb _ e n => u.slot b o e n hb (by simp)) (fun b o _ e n => u.free b o e n (by simp)) (fun b o _ e => u.there b o e (by simp)) u.tups u.frzs u.tbls (fun m' hm => by
    obtain ⟨o', es', ep', ho', r'⟩ := hm
    rw [ho] at ho'; cases ho'
    exact ⟨_, es', ep', hL, r'⟩) hok I.bare
/-- behind a call (or a comprehension's block): the slots of this frame may have changed too, the records at ch may have turned -/
theorem Inv.call {g' : Array GenState} {t' : Nat} {d' : Drawn} {ch : List Addr} (I : Inv X pins σ H s) (u : Un (frs X.stack) ch H H' s.heap h') (hok : HOk X.prog X.w H' h') (hg : AllBare g')
    (hch : ∀ b ∈ ch, (b ∈ X.ex ∨ X.s₀.heap.objs.size ≤ b) ∧ b ≠ X.env.locals ∧ (∀ x c, X.env.cells.lookup x = some c → c ≠ b) ∧ ∀ p ∈ X.pn ++ pins, p.1 ≠ b) :
    Inv X pins σ H' { s with heap := h', gens := g', drawn := d', toks := t' } := by
  obtain ⟨m, ⟨o, es, ep, ho, r⟩, _⟩ := id I.loc
  obtain ⟨sl, hL⟩ := u.any ho I.free fun z => (hch _ z).2.1 rfl
  exact I.step (ch := ch) hch (fun b o hL hb hc e n => u.keep b o e n (fun z => (List.mem_cons.mp (I.stkSub b z)).elim hL hb) hc) (fun b o _ _ hc e n => u.any e n hc) (fun b o hc e n => u.free b o e n hc) (fun b o hc e => u.there b o e hc) u.tups u.frzs u.tbls (fun m' hm => by
    obtain ⟨o', es', ep', ho', r'⟩ := hm
    rw [ho] at ho'; cases ho'
    exact ⟨_, es', ep', hL, r'⟩) hok hg
/-- an untracked record of ours (an iterator) has turned -/
theorem Inv.turned {t' : Nat} {it : Addr} (I : Inv X pins σ H s) (k : ∀ b o, b ≠ it → s.heap.get? b = some o → h'.get? b = some o) (hn : H it = none) (hL : it ≠ X.env.locals)
    (h1 : it ∈ X.ex ∨ X.s₀.heap.objs.size ≤ it) (h2 : ∀ x c, X.env.cells.lookup x = some c → c ≠ it) (h3 : ∀ p ∈ X.pn ++ pins, p.1 ≠ it) : Inv X pins σ H { s with heap := h', toks := t' } := by
  have nit : ∀ b u, H b = some u → b ≠ it := fun b u e z => by rw [z, hn] at e; cases e
  refine I.step (g' := s.gens) (d' := s.drawn) (ch := [it]) (fun b hb => ?_) (fun b o _ _ hc e _ => k b o (fun z => hc (by simp [z])) e) (fun b o _ _ hc e _ => ⟨o.slots, k b o (fun z => hc (by simp [z])) e⟩) (fun _ _ _ _ n => n)
    (fun b o hc e => ⟨o, k b o (fun z => hc (by simp [z])) e⟩) (fun _ _ e => e) (fun _ _ _ e => e) (fun b ps e => ⟨#[], by rw [e]; simp⟩) (fun m hm => ?_) (fun b u e => ?_) I.bare
  · have e : b = it := by simpa using hb
    subst e
    exact ⟨h1, hL, h2, h3⟩
  · obtain ⟨o, es, ep, ho, r⟩ := hm
    exact ⟨o, es, ep, k _ o (Ne.symm hL) ho, r⟩
  · refine (I.hok b u e).stay (fun c v hc q => k c v ?_ q) (fun _ q => q) fun _ _ q => q
    rcases hc with z | z
    · rw [z]; exact nit b u e
    · exact nit c _ z
theorem Inv.tok (I : Inv X pins σ H s) (t : Nat) : Inv X pins σ H { s with toks := t } := I.un (h' := s.heap) (t' := t) Un.refl I.hok
/-- all objects kept -/
theorem Inv.kept {t' : Nat} (I : Inv X pins σ H s) (k : ∀ b u, s.heap.get? b = some u → h'.get? b = some u) : Inv X pins σ H { s with heap := h', toks := t' } := I.un (Un.kept k) (I.hok.kept k)
/-- a new object laid and tracked -/
theorem Inv.laid {a : Addr} {o : HO} {t' : Nat} (I : Inv X pins σ H s) (k : ∀ b u, s.heap.get? b = some u → h'.get? b = some u) (hp : s.heap.objs.size ≤ a) (new : ObjOk X.prog X.w (upd H a o) h' a o) :
    Inv X pins σ (upd H a o) { s with heap := h', toks := t' } := I.un (Un.laid k hp (I.hok.fresh hp)) (I.hok.laid k hp new)
/-- an object written -/
theorem Inv.write {x e : Addr} {o : HO} {t' : Nat} (I : Inv X pins σ H s) (mu : Mut (H x)) (he : e = x ∨ H e = some (.own x)) (k : ∀ b u, b ≠ e → s.heap.get? b = some u → h'.get? b = some u) (heo : ∃ u, h'.get? e = some u)
    (new : ObjOk X.prog X.w (upd H x o) h' x o) : Inv X pins σ (upd H x o) { s with heap := h', toks := t' } := I.un (Un.write mu he k heo) (I.hok.write mu he k heo new)
/-- forgetting slots, pins -/
theorem Inv.weak {σ' : List (Option V)} (I : Inv X pins σ H s) (hl : σ'.length = σ.length) (w : ∀ (i : Nat) v, σ'[i]? = some (some v) → σ[i]? = some (some v)) : Inv X pins σ' H s :=
  ⟨I.ok, I.os, I.bare, I.base, let ⟨m, hn, hl'⟩ := I.loc; ⟨m, hn, fun i x v e1 e2 e3 => hl' i x v e1 (w i v e2) e3⟩, I.cell, I.free, I.freeC, I.pin, I.hok, hl.trans I.len⟩
theorem Inv.pins_of {pins' : List (Addr × Obj)} (I : Inv X pins σ H s) (h : ∀ p ∈ pins', s.heap.get? p.1 = some p.2 ∧ H p.1 = none ∧ p.1 ≠ X.env.locals ∧ p.1 ∉ X.fs ∧ ∀ v, p.2.data ≠ .cell v) : Inv X pins' σ H s :=
  ⟨I.ok, I.os, I.bare, I.base, I.loc, I.cell, I.free, I.freeC, fun p hp => (List.mem_append.mp hp).elim (fun z => I.pin p (List.mem_append_left _ z)) (h p), I.hok, I.len⟩

theorem nodup_ix {N : List Str} (hN : N.Nodup) {i j : Nat} {x : Str} (a : N[i]? = some x) (b : N[j]? = some x) : i = j := by
  obtain ⟨h1, e1⟩ := List.getElem?_eq_some_iff.mp a
  obtain ⟨h2, e2⟩ := List.getElem?_eq_some_iff.mp b
  exact (List.getElem_inj hN).mp (e1.trans e2.symm)

/-- a name is stored; what changed -/
theorem store_ok2 {M : Model} {A : Around} {E : Value → Shared → Prop} {i : Nat} {x : Str} {v : V} {u : Value} {Q : Unit → Shared → Prop} (I : Inv X pins σ H s) (hN : X.N.Nodup) (hi : X.N[i]? = some x) (hx : Loc X.env.scope x) (r : RelV v u)
    (h : ∀ s', Inv X pins (σ.set i (some v)) H s' → (∃ a, Heap.SameBut a s.heap s'.heap ∧ (a = X.env.locals ∨ X.env.cells.lookup x = some a)) → Q () s') (hf : X.fn x = true ∨ X.env.scope.names.lookup x = some .local := by first | exact .inl rfl | exact .inr rfl | assumption) : wpAny M A (storeName X.env x u) Q E s := by
  obtain ⟨m, hn, hl⟩ := id I.loc
  have hcls : (X.env.scope.kind == .class || (X.env.scope.kind == .module && X.env.locals != X.env.globals)) = false := by rw [I.ok.kind]; rfl
  have hiσ : i < σ.length := by rw [I.len]; exact (List.getElem?_eq_some_iff.mp hi).1
  have cne := I.cne
  have tracked : ∀ {a : Addr} {h' : Heap}, (∃ o, s.heap.get? a = some o ∧ H a = none) → Heap.SameBut a s.heap h' → HOk X.prog X.w H h' := fun {a h'} ha hs b ob e => by
    obtain ⟨_, _, hfree⟩ := ha
    refine (I.hok b ob e).stay (fun c w' hc q => (hs.2 c ?_).trans q) (fun _ q => q) fun _ _ q => q
    rintro rfl
    rcases hc with rfl | hc
    · rw [hfree] at e; cases e
    · rw [hfree] at hc; cases hc
  rcases hx with hk | hk
  · refine wpAny_storeName_local hk hn (fun h' hn' hs => ?_) hcls
    obtain ⟨oL, _, _, hoL, _⟩ := id hn
    refine h _ ⟨I.ok, I.os, I.bare, ⟨fun b o e n hb hx => ?_, fun b o e n hb hx => ?_, I.base.free, fun b o e hx => ?_, I.base.tups, I.base.frzs, I.base.tbls⟩, ⟨_, hn', fun j y v' e1 e2 e3 => ?_⟩, fun y c e => ?_, I.free, I.freeC, fun p hp => ?_, tracked ⟨oL, hoL, I.free⟩ hs, by simpa using I.len⟩ ⟨_, hs, .inl rfl⟩
    · exact (hs.2 b (Nat.ne_of_lt (Nat.lt_of_lt_of_le (Heap.lt_size e) I.ok.above))).trans (I.base.keep b o e n hb hx)
    · obtain ⟨sl, e1⟩ := I.base.slot b o e n hb hx
      exact ⟨sl, (hs.2 b (Nat.ne_of_lt (Nat.lt_of_lt_of_le (Heap.lt_size e) I.ok.above))).trans e1⟩
    · obtain ⟨o', e1⟩ := I.base.there b o e hx
      exact ⟨o', (hs.2 b (Nat.ne_of_lt (Nat.lt_of_lt_of_le (Heap.lt_size e) I.ok.above))).trans e1⟩
    · by_cases hj : j = i
      · subst hj
        rw [hi] at e1; cases e1
        rw [List.getElem?_set_self hiσ] at e2
        cases e2
        exact ⟨u, r, .inl ⟨hk, by simp⟩⟩
      · rw [List.getElem?_set_ne (Ne.symm hj)] at e2
        obtain ⟨u', r', q⟩ := hl j y v' e1 e2 e3
        refine ⟨u', r', ?_⟩
        rcases q with ⟨k, e⟩ | ⟨k, c, e, z⟩
        · refine .inl ⟨k, ?_⟩
          have : y ≠ x := fun e => hj (nodup_ix hN e1 (e ▸ hi))
          simp [this, e]
        · exact .inr ⟨k, c, e, z.sameBut hs (cne y c e)⟩
    · obtain ⟨w', z⟩ := I.cell y c e
      exact ⟨w', z.sameBut hs (cne y c e)⟩
    · obtain ⟨e, n, ne, nf, d⟩ := I.pin p hp
      exact ⟨(hs.2 p.1 ne).trans e, n, ne, nf, d⟩
  · have hfn : X.fn x = true := by
      rcases hf with z | z
      · exact z
      · rw [z] at hk; cases hk
    obtain ⟨c, hc⟩ := I.ok.has x (.inl hk)
    obtain ⟨w', z⟩ := I.cell x c hc
    refine wpAny_storeName_cell I.ok.kind hk hc z (fun h' hc' hs => ?_)
    obtain ⟨oc, hoc, hocd⟩ := id z
    refine h { s with heap := h' } ⟨I.ok, I.os, I.bare, ⟨fun b o e n hb hx => ?_, fun b o e n hb hx => ?_, I.base.free, fun b o e hx => ?_, I.base.tups, I.base.frzs, I.base.tbls⟩, ⟨m, hn.sameBut hs (Ne.symm (cne x c hc)), fun j y v' e1 e2 e3 => ?_⟩, fun y c' e => ?_, I.free, I.freeC, fun p hp => ?_, tracked ⟨oc, hoc, I.freeC x c hc⟩ hs, by simpa using I.len⟩ ⟨c, hs, .inr hc⟩
    · exact (hs.2 b (Nat.ne_of_lt (Nat.lt_of_lt_of_le (Heap.lt_size e) (I.ok.cab x c hfn hc)))).trans (I.base.keep b o e n hb hx)
    · obtain ⟨sl, e1⟩ := I.base.slot b o e n hb hx
      exact ⟨sl, (hs.2 b (Nat.ne_of_lt (Nat.lt_of_lt_of_le (Heap.lt_size e) (I.ok.cab x c hfn hc)))).trans e1⟩
    · obtain ⟨o', e1⟩ := I.base.there b o e hx
      exact ⟨o', (hs.2 b (Nat.ne_of_lt (Nat.lt_of_lt_of_le (Heap.lt_size e) (I.ok.cab x c hfn hc)))).trans e1⟩
    · by_cases hj : j = i
      · subst hj
        rw [hi] at e1; cases e1
        rw [List.getElem?_set_self hiσ] at e2
        cases e2
        exact ⟨u, r, .inr ⟨.inl hk, c, hc, hc'⟩⟩
      · rw [List.getElem?_set_ne (Ne.symm hj)] at e2
        obtain ⟨u', r', q⟩ := hl j y v' e1 e2 e3
        refine ⟨u', r', ?_⟩
        rcases q with q | ⟨k, c', e, z'⟩
        · exact .inl q
        · refine .inr ⟨k, c', e, z'.sameBut hs ?_⟩
          rintro rfl
          exact hj (nodup_ix hN e1 (I.ok.inj _ _ _ e hc ▸ hi))
    · by_cases hcc : c' = c
      · subst hcc; exact ⟨_, hc'⟩
      · obtain ⟨w2, z2⟩ := I.cell y c' e
        exact ⟨w2, z2.sameBut hs hcc⟩
    · obtain ⟨e, n, ne, nf, d⟩ := I.pin p hp
      refine ⟨(hs.2 p.1 ?_).trans e, n, ne, nf, d⟩
      intro q
      rw [q, hoc] at e
      have q' : oc = p.2 := Option.some.inj e
      exact d w' (by rw [← q']; exact hocd)
theorem store_ok {M : Model} {A : Around} {E : Value → Shared → Prop} {i : Nat} {x : Str} {v : V} {u : Value} {Q : Unit → Shared → Prop} (I : Inv X pins σ H s) (hN : X.N.Nodup) (hi : X.N[i]? = some x) (hx : Loc X.env.scope x) (r : RelV v u)
    (h : ∀ s', Inv X pins (σ.set i (some v)) H s' → Q () s') (hf : X.fn x = true ∨ X.env.scope.names.lookup x = some .local := by first | exact .inl rfl | exact .inr rfl | assumption) : wpAny M A (storeName X.env x u) Q E s :=
  store_ok2 I hN hi hx r (fun s' I' _ => h s' I') hf
/-- behind a call or a block, the state as it is -/
theorem Inv.call' {s' : Shared} {ch : List Addr} (I : Inv X pins σ H s) (ho : s'.os = s.os) (u : Un (frs X.stack) ch H H' s.heap s'.heap) (hok : HOk X.prog X.w H' s'.heap) (hg : AllBare s'.gens)
    (hch : ∀ b ∈ ch, (b ∈ X.ex ∨ X.s₀.heap.objs.size ≤ b) ∧ b ≠ X.env.locals ∧ (∀ x c, X.env.cells.lookup x = some c → c ≠ b) ∧ ∀ p ∈ X.pn ++ pins, p.1 ≠ b) : Inv X pins σ H' s' := by
  obtain ⟨h', g', d', t', o'⟩ := s'
  have e : o' = s.os := ho
  subst e
  exact I.call (g' := g') (t' := t') (d' := d') u hok hg hch
end

/-! ### the judgements -/
/-- an exception: its class, its own dict's address (where it has one), the abstract heap behind it -/
abbrev XK := Value → Option Addr → Hp → Prop
abbrev St := List (Option V)
abbrev VK := V → Hp → Prop
/-- an expression's reading; a test's; an argument list's -/
abbrev TE := St → Hp → VK → Prop
abbrev TT := St → Hp → (Bool → Hp → Prop) → Prop
abbrev TA := St → Hp → (List V → Hp → Prop) → Prop
/-- what is wanted behind a statement -/
structure Ends where
  nx : St → Hp → Prop
  rt : VK
  bk : St → Hp → Prop := fun _ _ => False
  ct : St → Hp → Prop := fun _ _ => False
abbrev TS := Ends → St → Hp → Prop

def EP (X : Cx) (pins : List (Addr × Obj)) (σ : St) (Q : VK) (u : Value) (s' : Shared) : Prop := ∃ v H', Inv X pins σ H' s' ∧ RelV v u ∧ Q v H'
def TP (X : Cx) (pins : List (Addr × Obj)) (σ : St) (Q : Bool → Hp → Prop) (b : Bool) (s' : Shared) : Prop := ∃ H', Inv X pins σ H' s' ∧ Q b H'
def AP (X : Cx) (pins : List (Addr × Obj)) (σ : St) (Q : List V → Hp → Prop) (us : List Value) (s' : Shared) : Prop := ∃ vs H', Inv X pins σ H' s' ∧ Vals vs us ∧ Q vs H'
def SP (X : Cx) (pins : List (Addr × Obj)) (D : Ends) (f : Flow) (s' : Shared) : Prop :=
  match f with
  | .next => ∃ σ' H', Inv X pins σ' H' s' ∧ D.nx σ' H'
  | .brk => ∃ σ' H', Inv X pins σ' H' s' ∧ D.bk σ' H'
  | .cont => ∃ σ' H', Inv X pins σ' H' s' ∧ D.ct σ' H'
  | .ret u => ∃ v σ' H', Inv X pins σ' H' s' ∧ RelV v u ∧ D.rt v H'

def PE (X : Cx) (e : Expr) (t : TE) : Prop :=
  ∀ (pins : List (Addr × Obj)) (s : Shared) (σ : St) (H : Hp) (Q : VK), Inv X pins σ H s → t σ H Q → wpAny (model X.prog X.w) X.A (eval e X.env) (EP X pins σ Q) X.xe s
def PT (X : Cx) (e : Expr) (t : TT) : Prop :=
  ∀ (pins : List (Addr × Obj)) (s : Shared) (σ : St) (H : Hp) (Q : Bool → Hp → Prop), Inv X pins σ H s → t σ H Q → wpAny (model X.prog X.w) X.A (isTrue e X.env (eval e X.env)) (TP X pins σ Q) X.xe s
/-- a test whatever its 'whole' is (and, or) -/
def PW (X : Cx) (e : Expr) (t : TT) : Prop :=
  ∀ (whole : Sem Value) (pins : List (Addr × Obj)) (s : Shared) (σ : St) (H : Hp) (Q : Bool → Hp → Prop), Inv X pins σ H s → t σ H Q → wpAny (model X.prog X.w) X.A (isTrue e X.env whole) (TP X pins σ Q) X.xe s
theorem PW.pt {X : Cx} {e : Expr} {t : TT} (h : PW X e t) : PT X e t := h _
/-- an argument list (no star), from the left -/
def PA (X : Cx) (es : List Expr) (t : TA) : Prop :=
  ∀ (pos : Pos) (pins : List (Addr × Obj)) (s : Shared) (σ : St) (H : Hp) (Q : List V → Hp → Prop), Inv X pins σ H s → t σ H Q → wpAny (model X.prog X.w) X.A (spliced (backTo pos (starEach es X.env))) (AP X pins σ Q) X.xe s
def PS (X : Cx) (st : Stmt) (t : TS) : Prop :=
  ∀ (pins : List (Addr × Obj)) (s : Shared) (σ : St) (H : Hp) (D : Ends), Inv X pins σ H s → t D σ H → wpAny (model X.prog X.w) X.A (exec st X.env) (SP X pins D) X.xe s
def PSs (X : Cx) (st : List Stmt) (t : TS) : Prop :=
  ∀ (pins : List (Addr × Obj)) (s : Shared) (σ : St) (H : Hp) (D : Ends), Inv X pins σ H s → t D σ H → wpAny (model X.prog X.w) X.A (execs st X.env) (SP X pins D) X.xe s
/-- weaken the end -/
theorem thn {α : Type} {t : Sem α} {Q Q' : α → Shared → Prop} {M : Model} {A : Around} {E : Value → Shared → Prop} {s : Shared} (h : wpAny M A t Q E s) (hQ : ∀ a s, Q a s → Q' a s) : wpAny M A t Q' E s := wpAny_mono h hQ fun _ _ x => x
end L2

namespace L2
open PySem PySem.Spec PyProof.Rows
section
variable {X : Cx}

/-! ### names and constants -/
def tVar (i : Nat) : TE := fun σ H Q => ∃ v, σ[i]? = some (some v) ∧ Q v H
def tC (v : V) : TE := fun _ H Q => Q v H
theorem pe_var {i : Nat} {x : Str} {pos : Pos} (hN : X.N[i]? = some x) (hv : Vis X.env.scope x) (hd : (x == ("__debug__" : Str)) = false := by decide) (hcd : (x == ("__classdict__" : Str)) = false := by decide) : PE X (.Name x pos) (tVar i) := by
  intro pins s σ H Q I h
  obtain ⟨v, e, h⟩ := h
  obtain ⟨m, hn, hl⟩ := I.loc
  obtain ⟨u, r, l⟩ := hl i x v hN e hv
  have fin : EP X pins σ Q u s := ⟨v, H, I, r, h⟩
  rcases l with ⟨hk, hm⟩ | ⟨hk, c, hc, hcell⟩
  · exact wpAny_Name (wpAny_loadName_local I.ok.kind hk hn hm fin) hd
  · rcases hk with hk | hk
    · exact wpAny_Name (wpAny_loadName_cell I.ok.kind hk hc hcell fin) hd
    · exact wpAny_Name (wpAny_loadName_free I.ok.kind hk hc hcell fin hcd) hd
theorem pe_int {i j pos} : PE X (.Constant (.int i) j pos) (tC (.int i)) := fun _ _ _ H _ I h => wpAny_Constant_int ⟨.int i, H, I.tok _, ⟨_, rfl⟩, h⟩
theorem pe_bl {b j pos} : PE X (.Constant (.bool b) j pos) (tC (.bl b)) := fun _ _ _ H _ I h => Constant_bool ⟨.bl b, H, I, rfl, h⟩
theorem pe_non {j pos} : PE X (.Constant .none j pos) (tC .non) := fun _ _ _ H _ I h => Constant_none ⟨.non, H, I, rfl, h⟩
theorem pe_str {x j pos} : PE X (.Constant (.str x) j pos) (tC (.str x)) := fun _ _ _ H _ I h => Calls.Constant_str ⟨.str x, H, I.tok _, ⟨_, rfl⟩, h⟩

/-- a global name of the def -/
def Gl (X : Cx) (x : Str) : Prop := X.env.kindOf x = some .globalImplicit
theorem ld_glob {E : Value → Shared → Prop} {pins : List (Addr × Obj)} {s : Shared} {σ : St} {H : Hp} {x : Str} {u : Value} {pos : Pos} {Q : Value → Shared → Prop} (I : Inv X pins σ H s) (hg : Gl X x) (hm : X.mg x = some u) (h : Q u s)
    (hd : (x == ("__debug__" : Str)) = false := by decide) : wpAny (model X.prog X.w) X.A (eval (.Name x pos) X.env) Q E s :=
  Calls.Name_function_global I.ok.kind hg (Calls.loadGlobal_global (by rw [I.ok.glob]; exact I.mod.glob.keeps I.bk) hm h) hd
theorem ld_blt {E : Value → Shared → Prop} {pins : List (Addr × Obj)} {s : Shared} {σ : St} {H : Hp} {x : Str} {u : Value} {pos : Pos} {Q : Value → Shared → Prop} (I : Inv X pins σ H s) (hg : Gl X x) (hm : X.mg x = none) (hv : bootBuiltins x = some u) (h : Q u s)
    (hn : x ≠ "__name__" := by decide) (hd : (x == ("__debug__" : Str)) = false := by decide) : wpAny (model X.prog X.w) X.A (eval (.Name x pos) X.env) Q E s := by
  obtain ⟨mb, h1, h2⟩ := I.mod.blt
  exact Calls.Name_function_global I.ok.kind hg (Calls.loadGlobal_builtin (by rw [I.ok.glob]; exact I.mod.glob.keeps I.bk) hm (by rw [I.ok.blt]; exact h1.keeps I.bk) ((h2 x hn).trans hv) h) hd
/-- a module's constant, a class, a function, as a value -/
theorem pe_glob {x : Str} {v : V} {u : Value} {pos : Pos} (hg : Gl X x) (hm : X.mg x = some u) (r : RelV v u) (hd : (x == ("__debug__" : Str)) = false := by decide) : PE X (.Name x pos) (tC v) :=
  fun _ _ _ H _ I h => ld_glob I hg hm ⟨v, H, I, r, h⟩ hd
theorem pe_bltn {x : Str} {v : V} {u : Value} {pos : Pos} (hg : Gl X x) (hm : X.mg x = none) (hv : bootBuiltins x = some u) (r : RelV v u) (hn : x ≠ "__name__" := by decide) (hd : (x == ("__debug__" : Str)) = false := by decide) : PE X (.Name x pos) (tC v) :=
  fun _ _ _ H _ I h => ld_blt I hg hm hv ⟨v, H, I, r, h⟩ hn hd

/-! ### arithmetic -/
variable {a b : Expr} {ta tb : TE} {pos : Pos}
/-! ### comparisons -/
def PC (X : Cx) (op : CmpOp) (a b : Expr) (t : TE) : Prop :=
  ∀ (pins : List (Addr × Obj)) (s : Shared) (σ : St) (H : Hp) (Q : VK), Inv X pins σ H s → t σ H Q →
    wpAny (model X.prog X.w) X.A (eval a X.env) (fun v s₁ => wpAny (model X.prog X.w) X.A (eval b X.env) (fun u s₂ => wpAny (model X.prog X.w) X.A (compareOp op v u) (EP X pins σ Q) X.xe s₂) X.xe s₁) X.xe s
/-- a comparison as a value, as a test -/
def tB (t : TE) : TT := fun σ H Q => t σ H fun x H1 => ∃ c, x = .bl c ∧ Q c H1
/-- an expression whose value is a bool, as a test -/
theorem pt_val {e : Expr} {t : TE} (h : PE X e t) (he : ∀ whole, isTrue e X.env whole = (do let v ← whole; standAt e.pos; holding [v] (truthy v)) := by intro _; rfl) : PT X e (tB t) := by
  intro pins s σ H Q I hw
  refine isTrue_plain (thn (h pins s σ H _ I hw) fun v s1 ⟨x, H1, I1, r1, q1⟩ => ?_) (he _)
  obtain ⟨d, rfl, q⟩ := q1
  cases r1
  exact wpAny_truthy_bool ⟨H1, I1, q⟩

/-! ### and, or, not -/
variable {tA tB' : TT} {rest : List Expr}
def tAnd (t u : TT) : TT := fun σ H Q => t σ H fun c H1 => if c = true then u σ H1 Q else Q false H1
def tOr (t u : TT) : TT := fun σ H Q => t σ H fun c H1 => if c = true then Q true H1 else u σ H1 Q
def tNot (t : TT) : TT := fun σ H Q => t σ H fun c H1 => Q (!c) H1
theorem pw_and1 (ha : PT X a tA) : PW X (.BoolOp .And [a] pos) tA := by
  intro wh pins s σ H Q I h
  refine isTrue_and (thn (ha pins s σ H Q I h) fun c s1 e => ?_)
  cases c with
  | true => exact isTrue_and_nil e
  | false => exact e
theorem pw_or1 (ha : PT X a tA) : PW X (.BoolOp .Or [a] pos) tA := by
  intro wh pins s σ H Q I h
  refine isTrue_or (thn (ha pins s σ H Q I h) fun c s1 e => ?_)
  cases c with
  | false => exact isTrue_or_nil e
  | true => exact e
theorem pw_and (ha : PT X a tA) (hb : PW X (.BoolOp .And (b :: rest) pos) tB') : PW X (.BoolOp .And (a :: b :: rest) pos) (tAnd tA tB') := by
  intro wh pins s σ H Q I h
  refine isTrue_and (thn (ha pins s σ H _ I h) fun c s1 ⟨H1, I1, q1⟩ => ?_)
  cases c with
  | true => exact hb wh pins s1 σ H1 Q I1 q1
  | false => exact ⟨H1, I1, q1⟩
theorem pw_or (ha : PT X a tA) (hb : PW X (.BoolOp .Or (b :: rest) pos) tB') : PW X (.BoolOp .Or (a :: b :: rest) pos) (tOr tA tB') := by
  intro wh pins s σ H Q I h
  refine isTrue_or (thn (ha pins s σ H _ I h) fun c s1 ⟨H1, I1, q1⟩ => ?_)
  cases c with
  | true => exact ⟨H1, I1, q1⟩
  | false => exact hb wh pins s1 σ H1 Q I1 q1
theorem pt_not (ha : PT X a tA) : PT X (.UnaryOp .Not a pos) (tNot tA) := by
  intro pins s σ H Q I h
  exact isTrue_not (ha pins s σ H (fun c H1 => Q (!c) H1) I h)
/-- .. as values (bools) -/
def tAndV (ta tb : TE) : TE := fun σ H Q => ta σ H fun x H1 => ∃ c, x = .bl c ∧ if c = true then tb σ H1 Q else Q (.bl false) H1
def tOrV (ta tb : TE) : TE := fun σ H Q => ta σ H fun x H1 => ∃ c, x = .bl c ∧ if c = true then Q (.bl true) H1 else tb σ H1 Q
def tNotV (ta : TE) : TE := fun σ H Q => ta σ H fun x H1 => ∃ c, x = .bl c ∧ Q (.bl (!c)) H1
theorem pe_one {op} {t : TE} (h : PE X a t) : PE X (.BoolOp op [a] pos) t := fun pins s σ H Q I hw => BoolOp_one (h pins s σ H Q I hw)
theorem pe_and (ha : PE X a ta) (hb : PE X (.BoolOp .And (b :: rest) pos) tb) : PE X (.BoolOp .And (a :: b :: rest) pos) (tAndV ta tb) := by
  intro pins s σ H Q I h
  refine BoolOp_and (thn (ha pins s σ H _ I h) fun v s1 ⟨x, H1, I1, r1, q1⟩ => ?_)
  obtain ⟨c, rfl, q1⟩ := q1
  cases r1
  refine wpAny_truthy_bool ?_
  cases c with
  | true => exact hb pins s1 σ H1 Q I1 q1
  | false => exact ⟨.bl false, H1, I1, rfl, q1⟩
theorem pe_or (ha : PE X a ta) (hb : PE X (.BoolOp .Or (b :: rest) pos) tb) : PE X (.BoolOp .Or (a :: b :: rest) pos) (tOrV ta tb) := by
  intro pins s σ H Q I h
  refine BoolOp_or (thn (ha pins s σ H _ I h) fun v s1 ⟨x, H1, I1, r1, q1⟩ => ?_)
  obtain ⟨c, rfl, q1⟩ := q1
  cases r1
  refine wpAny_truthy_bool ?_
  cases c with
  | false => exact hb pins s1 σ H1 Q I1 q1
  | true => exact ⟨.bl true, H1, I1, rfl, q1⟩
theorem pe_not (ha : PE X a ta) : PE X (.UnaryOp .Not a pos) (tNotV ta) := by
  intro pins s σ H Q I h
  refine UnaryOp_ (thn (ha pins s σ H _ I h) fun v s1 ⟨x, H1, I1, r1, q1⟩ => ?_)
  obtain ⟨c, rfl, q1⟩ := q1
  cases r1
  exact not_of (wpAny_truthy_bool ⟨.bl (!c), H1, I1, rfl, q1⟩)
/-- a if t else b -/
def tIf (t : TT) (ta tb : TE) : TE := fun σ H Q => t σ H fun c H1 => if c = true then ta σ H1 Q else tb σ H1 Q
end
end L2

namespace L2
open PySem PySem.Spec PyProof.Rows

/-! ### a list, a tuple that is read: tracked, frozen, or an object of the module -/
def SqL (K : PySem.W.Frag) (H : Hp) (a : Addr) (xs : List V) : Prop :=
  Rd H a (.lst xs) ∨
    ∃ (o : Obj) (its : Array Value) (n : Nat), K.lookup a = some o ∧ o.cls = .type "list" ∧ o.dict = none ∧ o.data = .seq its n ∧ its.size ≤ sizeLine ∧ Vals xs its.toList
def SqT (K : PySem.W.Frag) (H : Hp) (a : Addr) (xs : List V) : Prop :=
  Rd H a (.tup xs) ∨
    ∃ (o : Obj) (its : Array Value) (n : Nat), K.lookup a = some o ∧ o.cls = .type "tuple" ∧ o.data = .seq its n ∧ its.size ≤ sizeLine ∧ Vals xs its.toList
def absV : Value → Option V
  | .none => some .non
  | .bool b => some (.bl b)
  | .int i _ => some (.int i)
  | .str x _ => some (.str x)
  | .bytes b _ => some (.byt b)
  | .float b _ => some (.flt b)
  | .ref a => some (.ref a)
  | .type n => some (.ty n)
  | _ => none
theorem RelV.abs {x : V} {u : Value} (r : RelV x u) : absV u = some x := by
  cases x with
  | non => cases r; rfl
  | bl _ => cases r; rfl
  | int _ => obtain ⟨t, rfl⟩ := r; rfl
  | str _ => obtain ⟨t, rfl⟩ := r; rfl
  | byt _ => obtain ⟨t, rfl⟩ := r; rfl
  | flt _ => obtain ⟨t, rfl⟩ := r; rfl
  | ref _ => cases r; rfl
  | ty _ => cases r; rfl
theorem RelV.inj {x y : V} {u : Value} (r : RelV x u) (q : RelV y u) : x = y := Option.some.inj (r.abs.symm.trans q.abs)
theorem Vals.inj : ∀ {xs ys : List V} {us : List Value}, Vals xs us → Vals ys us → xs = ys
  | _, _, _, .nil, .nil => rfl
  | _, _, _, .cons r t, .cons r' t' => by rw [r.inj r', Vals.inj t t']
section
variable {X : Cx} {pins : List (Addr × Obj)} {σ : St} {H : Hp} {s : Shared} {a : Addr} {xs ys : List V}
theorem SqL.of {K : PySem.W.Frag} (h : H a = some (.lst xs)) : SqL K H a xs := .inl (.inl h)
theorem SqT.of {K : PySem.W.Frag} (h : H a = some (.tup xs)) : SqT K H a xs := .inl (.inl h)
theorem Inv.list (I : Inv X pins σ H s) (h : SqL X.K H a xs) : ∃ its : List Value, Vals xs its ∧ PlainL s.heap a its.toArray ∧ xs.length ≤ sizeLine := by
  rcases h with h | ⟨o, its, n, hk, hc, hd, hs, hz, r⟩
  · obtain ⟨z, its, n, r, e⟩ := h.ok I.hok
    exact ⟨its, r, ⟨_, n, e, rfl, rfl, rfl⟩, z⟩
  · refine ⟨its.toList, r, ⟨o, n, I.kIn a o hk, hc, hd, by simpa using hs⟩, ?_⟩
    have e := r.length
    simp only [Array.length_toList] at e
    omega
theorem Inv.tuple (I : Inv X pins σ H s) (h : SqT X.K H a xs) : ∃ its : List Value, Vals xs its ∧ IsTup s.heap a its.toArray ∧ xs.length ≤ sizeLine := by
  rcases h with h | ⟨o, its, n, hk, hc, hs, hz, r⟩
  · obtain ⟨z, its, r, p⟩ := h.ok I.hok
    exact ⟨its, r, p, z⟩
  · refine ⟨its.toList, r, ⟨o, I.kIn a o hk, hc, n, by simpa using hs⟩, ?_⟩
    have e := r.length
    simp only [Array.length_toList] at e
    omega
theorem Inv.list_inj (I : Inv X pins σ H s) (h : SqL X.K H a xs) (h' : SqL X.K H a ys) : xs = ys := by
  obtain ⟨its, r, ⟨o, n, e, _, _, d⟩, _⟩ := I.list h
  obtain ⟨its', r', ⟨o', n', e', _, _, d'⟩, _⟩ := I.list h'
  rw [e] at e'; cases e'
  rw [d] at d'
  injection d' with d1 _
  have : its = its' := by simpa using congrArg Array.toList d1
  subst this
  exact r.inj r'
theorem Inv.tuple_inj (I : Inv X pins σ H s) (h : SqT X.K H a xs) (h' : SqT X.K H a ys) : xs = ys := by
  obtain ⟨its, r, ⟨o, e, _, n, d⟩, _⟩ := I.tuple h
  obtain ⟨its', r', ⟨o', e', _, n', d'⟩, _⟩ := I.tuple h'
  rw [e] at e'; cases e'
  rw [d] at d'
  injection d' with d1 _
  have : its = its' := by simpa using congrArg Array.toList d1
  subst this
  exact r.inj r'
end

/-! ### another wish about exceptions -/
abbrev Cx.wish (X : Cx) (E : Value → Shared → Prop) : Cx := { X with xe := E }
/-- no exception leaves -/
abbrev Cx.nox (X : Cx) : Cx := X.wish fun _ _ => False
theorem Cx.Ok.wish {X : Cx} (ok : X.Ok) (E : Value → Shared → Prop) : (X.wish E).Ok :=
  ⟨ok.mod, ok.kind, ok.glob, ok.blt, ok.above, ok.inj, ok.has, ok.cab, ok.hd, ok.frames, ok.stk, ok.exf, ok.bs, ok.bsz, ok.noex, ok.exfs, ok.funs, ok.frf⟩
theorem Cx.Ok.unwish {X : Cx} {E : Value → Shared → Prop} (ok : (X.wish E).Ok) : X.Ok :=
  ⟨ok.mod, ok.kind, ok.glob, ok.blt, ok.above, ok.inj, ok.has, ok.cab, ok.hd, ok.frames, ok.stk, ok.exf, ok.bs, ok.bsz, ok.noex, ok.exfs, ok.funs, ok.frf⟩
section
variable {X : Cx} {pins : List (Addr × Obj)} {σ : St} {H : Hp} {s : Shared} {E : Value → Shared → Prop}
theorem Inv.wish (I : Inv X pins σ H s) (E : Value → Shared → Prop) : Inv (X.wish E) pins σ H s := ⟨I.ok.wish E, I.os, I.bare, I.base, I.loc, I.cell, I.free, I.freeC, I.pin, I.hok, I.len⟩
theorem Inv.unwish (I : Inv (X.wish E) pins σ H s) : Inv X pins σ H s := ⟨I.ok.unwish, I.os, I.bare, I.base, I.loc, I.cell, I.free, I.freeC, I.pin, I.hok, I.len⟩
theorem SP.unwish {D : Ends} {f : Flow} {s' : Shared} (h : SP (X.wish E) pins D f s') : SP X pins D f s' := by
  cases f with
  | next => obtain ⟨σ', H', I, q⟩ := h; exact ⟨σ', H', I.unwish, q⟩
  | brk => obtain ⟨σ', H', I, q⟩ := h; exact ⟨σ', H', I.unwish, q⟩
  | cont => obtain ⟨σ', H', I, q⟩ := h; exact ⟨σ', H', I.unwish, q⟩
  | ret u => obtain ⟨v, σ', H', I, r, q⟩ := h; exact ⟨v, σ', H', I.unwish, r, q⟩
theorem PE.nox {e : Expr} {t : TE} (h : PE X.nox e t) : PE X e t := fun pins s σ H Q I hw =>
  wpAny_mono (h pins s σ H Q (I.wish _) hw) (fun _ _ ⟨v, H', I', r, q⟩ => ⟨v, H', I'.unwish, r, q⟩) fun _ _ z => False.elim z
theorem PT.nox {e : Expr} {t : TT} (h : PT X.nox e t) : PT X e t := fun pins s σ H Q I hw =>
  wpAny_mono (h pins s σ H Q (I.wish _) hw) (fun _ _ ⟨H', I', q⟩ => ⟨H', I'.unwish, q⟩) fun _ _ z => False.elim z
theorem PSs.nox {st : List Stmt} {t : TS} (h : PSs X.nox st t) : PSs X st t := fun pins s σ H D I hw =>
  wpAny_mono (h pins s σ H D (I.wish _) hw) (fun _ _ q => q.unwish) fun _ _ z => False.elim z
end

/-! ### blocks and small statements -/
section
variable {X : Cx} {st : Stmt} {rest : List Stmt} {t u : TS} {e : Expr} {te : TE} {pos : Pos}
def tNext : TS := fun D σ H => D.nx σ H
def tSeq (t u : TS) : TS := fun D σ H => t { D with nx := u D } σ H
theorem pss_nil : PSs X [] tNext := fun _ _ σ H _ I h => wpAny_execs_nil ⟨σ, H, I, h⟩
theorem pss_cons (h1 : PS X st t) (h2 : PSs X rest u) : PSs X (st :: rest) (tSeq t u) := by
  intro pins s σ H D I h
  refine wpAny_execs_cons (thn (h1 pins s σ H { D with nx := u D } I h) fun f s1 q => ?_)
  cases f with
  | next =>
    obtain ⟨σ', H', I', q⟩ := q
    exact h2 pins s1 σ' H' D I' q
  | ret v => exact q
  | brk => exact q
  | cont => exact q
theorem pss_one (h1 : PS X st t) : PSs X [st] t := by
  intro pins s σ H D I h
  refine wpAny_execs_cons (thn (h1 pins s σ H D I h) fun f s1 q => ?_)
  cases f with
  | next => exact wpAny_execs_nil q
  | ret v => exact q
  | brk => exact q
  | cont => exact q
def tBreak : TS := fun D σ H => D.bk σ H
theorem ps_break : PS X (.Break pos) tBreak := fun _ _ σ H _ I h => wpAny_Break ⟨σ, H, I, h⟩
/-- in a def's body nothing is shown -/
theorem Inv.quiet {pins : List (Addr × Obj)} {σ : St} {H : Hp} {s : Shared} (I : Inv X pins σ H s) : interactive X.env = false := by simp [interactive, I.ok.kind]
/-- an expression whose value is dropped -/
def tDrop (te : TE) : TS := fun D σ H => te σ H fun _ H1 => D.nx σ H1
theorem ps_expr (he : PE X e te) (hs : swapsWith e none pos.line X.env = pure false := by rfl) : PS X (.Expr e pos) (tDrop te) := by
  intro pins s σ H D I h
  exact wpAny_Expr_any (thn (he pins s σ H _ I h) fun v s1 ⟨x, H1, I1, r1, q1⟩ => ⟨σ, H1, I1, q1⟩) I.quiet hs
def tRet (te : TE) : TS := fun D σ H => te σ H D.rt
theorem ps_ret (he : PE X e te) : PS X (.Return (some e) pos) (tRet te) := by
  intro pins s σ H D I h
  exact wpAny_Return_some (thn (he pins s σ H _ I h) fun v s1 ⟨x, H1, I1, r1, q1⟩ => ⟨x, σ, H1, I1, r1, q1⟩)
def tRetN : TS := fun D _ H => D.rt .non H
def tIfS (c : TT) (t u : TS) : TS := fun D σ H => c σ H fun b H1 => if b = true then t D σ H1 else u D σ H1
theorem ps_if {c : Expr} {a b : List Stmt} {tc : TT} (hc : PT X c tc) (ha : PSs X a t) (hb : PSs X b u) : PS X (.If c a b pos) (tIfS tc t u) := by
  intro pins s σ H D I h
  refine wpAny_If (thn (hc pins s σ H _ I h) fun d s1 ⟨H1, I1, q1⟩ => ?_)
  cases d with
  | true => exact ha pins s1 σ H1 D I1 q1
  | false => exact hb pins s1 σ H1 D I1 q1
end

/-! ### targets -/
abbrev TG := V → St → Hp → (St → Hp → Prop) → Prop
abbrev TGs := List V → St → Hp → (St → Hp → Prop) → Prop
def PG (X : Cx) (target : Expr) (t : TG) : Prop :=
  ∀ (pins : List (Addr × Obj)) (s : Shared) (σ : St) (H : Hp) (v : V) (u : Value) (Q : St → Hp → Prop), Inv X pins σ H s → RelV v u → t v σ H Q →
    wpAny (model X.prog X.w) X.A (assign target X.env u) (fun _ s' => ∃ σ' H', Inv X pins σ' H' s' ∧ Q σ' H') X.xe s
/-- several targets, one after another -/
def PGs (X : Cx) (ts : List Expr) (t : TGs) : Prop :=
  ∀ (pins : List (Addr × Obj)) (s : Shared) (σ : St) (H : Hp) (vs : List V) (us : List Value) (Q : St → Hp → Prop), Inv X pins σ H s → Vals vs us → t vs σ H Q →
    wpAny (model X.prog X.w) X.A (assignInOrder ((assignEach ts X.env).map (·.2)) us) (fun _ s' => ∃ σ' H', Inv X pins σ' H' s' ∧ Q σ' H') X.xe s
/-- o[i] = v, by values -/
abbrev TSet := V → V → V → Hp → (Hp → Prop) → Prop
def PSet (X : Cx) (t : TSet) : Prop :=
  ∀ (pins : List (Addr × Obj)) (s : Shared) (σ : St) (H : Hp) (o i v : V) (ov iv u : Value) (Q : Hp → Prop), Inv X pins σ H s → RelV o ov → RelV i iv → RelV v u → t o i v H Q →
    wpAny (model X.prog X.w) X.A (setItem ov iv u) (fun _ s' => ∃ H', Inv X pins σ H' s' ∧ Q H') X.xe s
/-- a op= b, by values -/
abbrev TIp := V → V → Hp → VK → Prop
def PIp (X : Cx) (op : Operator) (t : TIp) : Prop :=
  ∀ (pins : List (Addr × Obj)) (s : Shared) (σ : St) (H : Hp) (x y : V) (v u : Value) (Q : VK), Inv X pins σ H s → RelV x v → RelV y u → t x y H Q →
    wpAny (model X.prog X.w) X.A (inplaceOp op v u) (EP X pins σ Q) X.xe s
section
variable {X : Cx} {pos : Pos}
def gName (i : Nat) : TG := fun v σ H Q => Q (σ.set i (some v)) H
theorem pg_name {i : Nat} {x : Str} (hN : X.N.Nodup) (hi : X.N[i]? = some x) (hx : Loc X.env.scope x) (hf : X.fn x = true ∨ X.env.scope.names.lookup x = some .local := by first | exact .inl rfl | exact .inr rfl | assumption) : PG X (.Name x pos) (gName i) := by
  intro pins s σ H v u Q I r h
  exact wpAny_assign_Name (store_ok I hN hi hx r (fun s' I' => ⟨_, H, I', h⟩) hf)
def gNil : TGs := fun vs σ H Q => vs = [] ∧ Q σ H
def gCons (t : TG) (u : TGs) : TGs := fun vs σ H Q => ∃ v r, vs = v :: r ∧ t v σ H fun σ' H' => u r σ' H' Q
theorem pgs_nil : PGs X [] gNil := by
  intro pins s σ H vs us Q I r h
  obtain ⟨e, h⟩ := h
  subst e
  cases r
  exact assignInOrder_nil ⟨σ, H, I, h⟩
theorem pgs_cons {e : Expr} {es : List Expr} {t : TG} {u : TGs} (h1 : PG X e t) (h2 : PGs X es u)
    (hs : (assignEach (e :: es) X.env).map (·.2) = assign e X.env :: (assignEach es X.env).map (·.2) := by rfl) : PGs X (e :: es) (gCons t u) := by
  intro pins s σ H vs us Q I r h
  obtain ⟨v, vr, e1, h⟩ := h
  subst e1
  cases r with
  | cons r rr =>
    rw [hs]
    refine assignInOrder_cons (thn (h1 pins s σ H _ _ _ I r h) fun _ s1 ⟨σ1, H1, I1, q1⟩ => ?_)
    exact h2 pins s1 σ1 H1 _ _ Q I1 rr q1
/-- (a, b, ..) = a tuple of that length -/
def gTup (K : PySem.W.Frag) (n : Nat) (t : TGs) : TG := fun v σ H Q => ∃ a xs, v = .ref a ∧ SqT K H a xs ∧ xs.length = n ∧ t xs σ H Q
theorem pg_tup {es : List Expr} {k : Nat} {t : TGs} {n : Nat} (hc : X.calm = true) (h : PGs X es t)
    (hn : (assignEach es X.env).length = n := by rfl) (hst : (assignEach es X.env).findIdx? (·.1) = none := by rfl) : PG X (.Tuple es k pos) (gTup X.K n t) := by
  intro pins s σ H v u Q I r hw
  obtain ⟨a, xs, e1, hq, hl, hw⟩ := hw
  subst e1
  cases r
  obtain ⟨its, rv, ht, hz⟩ := I.tuple hq
  refine assign_Tuple_tuple (I.ok.hd hc) ht (by simp [hn, ← hl, rv.length]) hst fun h' hx => ?_
  have I1 : Inv X pins σ H { s with heap := h' } := I.kept (t' := s.toks) fun b o e => hx b o (Nat.ne_of_lt (Heap.lt_size e)) e
  exact h pins _ σ H xs _ Q I1 (by simpa using rv) hw
/-- o[i] = .. -/
def gSub (to ti : TE) (t : TSet) : TG := fun v σ H Q => to σ H fun o H1 => ti σ H1 fun i H2 => t o i v H2 fun H3 => Q σ H3
theorem pg_sub {o i : Expr} {to ti : TE} {t : TSet} (ho : PE X o to) (hi : PE X i ti) (hs : PSet X t)
    (ha : ∀ v, assign (.Subscript o i pos) X.env v = (do
      let ov ← holding [v] (eval o X.env)
      let iv ← holding [v, ov] (eval i X.env)
      standAt pos
      holding [v, ov, iv] (setItem ov iv v)
      release [v, ov, iv] []) := by intro _; rfl) : PG X (.Subscript o i pos) (gSub to ti t) := by
  intro pins s σ H v u Q I r h
  rw [ha]
  refine wpAny_bind (wpAny_holding (thn (ho pins s σ H _ I h) fun ov s1 ⟨x, H1, I1, r1, q1⟩ => ?_))
  refine wpAny_bind (wpAny_holding (thn (hi pins s1 σ H1 _ I1 q1) fun iv s2 ⟨y, H2, I2, r2, q2⟩ => ?_))
  refine wpAny_bind (wpAny_standAt (wpAny_bind (wpAny_holding (thn (hs pins s2 σ H2 x y v ov iv u _ I2 r1 r2 r q2) fun _ s3 ⟨H3, I3, q3⟩ => ?_))))
  exact wpAny_release ⟨σ, H3, I3, q3⟩
/-- target = value -/
def tAsg (te : TE) (g : TG) : TS := fun D σ H => te σ H fun x H1 => g x σ H1 D.nx
theorem ps_asg {tg e : Expr} {te : TE} {g : TG} (he : PE X e te) (hg : PG X tg g) (hs : swapsWithSole [tg] e pos.line X.env = pure false := by rfl) (hw : swappedStores [tg] e X.env = pure none := by rfl)
    (h1 : (assignEach [tg] X.env).map (·.2) = [assign tg X.env] := by rfl) : PS X (.Assign [tg] e pos) (tAsg te g) := by
  intro pins s σ H D I h
  refine wpAny_Assign_stores (thn (he pins s σ H _ I h) fun v s1 ⟨x, H1, I1, r1, q1⟩ => ?_) hs hw
  rw [h1]
  exact thn (hg pins s1 σ H1 x v _ I1 r1 q1) fun _ s2 q => q
/-- name = value -/
theorem ps_set {i : Nat} {x : Str} {e : Expr} {te : TE} {pos' : Pos} (hN : X.N.Nodup) (hi : X.N[i]? = some x) (hx : Loc X.env.scope x) (he : PE X e te) (hs : swapsWith e (some (.Name x pos')) pos.line X.env = pure false := by rfl) (hf : X.fn x = true ∨ X.env.scope.names.lookup x = some .local := by first | exact .inl rfl | exact .inr rfl | assumption) :
    PS X (.Assign [.Name x pos'] e pos) (tAsg te (gName i)) := by
  intro pins s σ H D I h
  refine wpAny_Assign_Name (thn (he pins s σ H _ I h) fun v s1 ⟨y, H1, I1, r1, q1⟩ => ?_) hs
  exact store_ok I1 hN hi hx r1 (fun s2 I2 => ⟨_, H1, I2, q1⟩) hf
/-- name op= e -/
def tAug (i : Nat) (te : TE) (ti : TIp) : TS := fun D σ H => ∃ x, σ[i]? = some (some x) ∧ te σ H fun y H1 => ti x y H1 fun z H2 => D.nx (σ.set i (some z)) H2
theorem ps_aug {i : Nat} {x : Str} {e : Expr} {te : TE} {op : Operator} {ti : TIp} {pos' : Pos} (hN : X.N.Nodup) (hi : X.N[i]? = some x) (hx : Loc X.env.scope x) (he : PE X e te) (ho : PIp X op ti) (hf : X.fn x = true ∨ X.env.scope.names.lookup x = some .local := by first | exact .inl rfl | exact .inr rfl | assumption) :
    PS X (.AugAssign (.Name x pos') op e pos) (tAug i te ti) := by
  intro pins s σ H D I h
  obtain ⟨v, e1, h⟩ := h
  obtain ⟨m, hn, hl⟩ := I.loc
  have vis : Vis X.env.scope x := by rcases hx with k | k; exact .inl k; exact .inr (.inl k)
  obtain ⟨u, r, l⟩ := hl i x v hi e1 vis
  refine wpAny_AugAssign_Name ?_
  have go : wpAny (model X.prog X.w) X.A (eval e X.env) (fun w s₂ => wpAny (model X.prog X.w) X.A (inplaceOp op u w) (fun r s₃ => wpAny (model X.prog X.w) X.A (storeName X.env x r) (fun _ => SP X pins D .next) X.xe s₃) X.xe s₂) X.xe s := by
    refine thn (he pins s σ H _ I h) fun w s1 ⟨y, H1, I1, r1, q1⟩ => ?_
    refine thn (ho pins s1 σ H1 v y u w _ I1 r r1 q1) fun z s2 ⟨zv, H2, I2, r2, q2⟩ => ?_
    exact store_ok I2 hN hi hx r2 (fun s3 I3 => ⟨_, H2, I3, q2⟩) hf
  rcases l with ⟨hk, hm⟩ | ⟨hk, c, hc, hcell⟩
  · exact wpAny_loadName_local I.ok.kind hk hn hm go
  · rcases hk with hk | hk
    · exact wpAny_loadName_cell I.ok.kind hk hc hcell go
    · rcases hx with k | k
      · have : X.env.scope.names.lookup x = some .free := hk
        rw [k] at this; cases this
      · have : X.env.scope.names.lookup x = some .free := hk
        rw [k] at this; cases this
/-- ints -/
def ipI (f : Int → Int → Int) : TIp := fun x y H Q => ∃ i j, x = .int i ∧ y = .int j ∧ Q (.int (f i j)) H
theorem ip_add : PIp X .Add (ipI fun i j => i + j) := by
  intro pins s σ H x y v u Q I r1 r2 h
  obtain ⟨i, j, e1, e2, q⟩ := h
  subst e1; subst e2
  obtain ⟨t, rfl⟩ := r1
  obtain ⟨t', rfl⟩ := r2
  exact iadd_int ⟨.int _, H, I.tok _, ⟨_, rfl⟩, q⟩
theorem ip_sub : PIp X .Sub (ipI fun i j => i - j) := by
  intro pins s σ H x y v u Q I r1 r2 h
  obtain ⟨i, j, e1, e2, q⟩ := h
  subst e1; subst e2
  obtain ⟨t, rfl⟩ := r1
  obtain ⟨t', rfl⟩ := r2
  exact isub_int ⟨.int _, H, I.tok _, ⟨_, rfl⟩, q⟩
end

/-! ### while -/
section
variable {X : Cx} {pos : Pos}
/-- the invariant W with its measure -/
def tWhile (c : TT) (tb : TS) : TS := fun D σ H => ∃ W : Nat → St → Hp → Prop, (∃ m, W m σ H) ∧ ∀ m σ H, W m σ H →
  c σ H fun b H1 => if b = true then ∃ N : St → Hp → Prop, (∀ σ' H', N σ' H' → ∃ m', m' < m ∧ W m' σ' H') ∧ tb { D with nx := N, ct := N, bk := D.nx } σ H1 else D.nx σ H1
theorem ps_while {c : Expr} {body : List Stmt} {tc : TT} {tb : TS} (hp : PassesOwn (model X.prog X.w) X.A X.env X.xe) (hc : PT X c tc) (hb : PSs X body tb) : PS X (.While c body [] pos) (tWhile tc tb) := by
  intro pins s σ H D I h
  obtain ⟨W, ⟨m0, w0⟩, turn⟩ := h
  refine wpAny_While (codeAny_whileLoop (fun n s' => ∃ σ' H', Inv X pins σ' H' s' ∧ W n σ' H') ?_ m0 ⟨σ, H, I, w0⟩)
  rintro n s1 ⟨σ1, H1, I1, w1⟩
  refine wpAny_passesOwn hp (thn (hc pins s1 σ1 H1 _ I1 (turn n σ1 H1 w1)) fun b s2 ⟨H2, I2, q2⟩ => ?_)
  cases b with
  | true =>
    obtain ⟨N, hN, q2⟩ := q2
    rw [if_pos rfl]
    refine wpAny_passesOwn hp (thn (hb pins s2 σ1 H2 _ I2 q2) fun f s3 q3 => ?_)
    cases f with
    | next =>
      obtain ⟨σ3, H3, I3, n3⟩ := q3
      obtain ⟨m', hm, w3⟩ := hN σ3 H3 n3
      exact ⟨m', hm, σ3, H3, I3, w3⟩
    | cont =>
      obtain ⟨σ3, H3, I3, n3⟩ := q3
      obtain ⟨m', hm, w3⟩ := hN σ3 H3 n3
      exact ⟨m', hm, σ3, H3, I3, w3⟩
    | brk => exact q3
    | ret v => exact q3
  | false =>
    rw [if_neg Bool.false_ne_true]
    exact wpAny_execs_nil ⟨σ1, H2, I2, q2⟩
end

/-! ### what a loop or a comprehension walks -/
/-- at turn i: it yields x (the heap may grow), or it stops -/
structure It where
  go : Nat → Hp → Prop
  yld : Nat → Hp → V → Hp → Prop
  stop : Nat → Hp → Prop
/-- the iterator's own objects may turn: they are not the frame's, not pinned, younger than the entry (or a comprehension's own) -/
def FpOk (X : Cx) (pins : List (Addr × Obj)) (H : Hp) (b : Addr) : Prop :=
  H b = none ∧ b ≠ X.env.locals ∧ b ∉ X.fs ∧ (b ∈ X.ex ∨ X.s₀.heap.objs.size ≤ b) ∧ (∀ x c, X.env.cells.lookup x = some c → c ≠ b) ∧ ∀ p ∈ X.pn ++ pins, p.1 ≠ b
theorem Inv.fpOk {X : Cx} {pins : List (Addr × Obj)} {σ : St} {H H' : Hp} {s : Shared} {b : Addr} (I : Inv X pins σ H s) (hb : s.heap.objs.size ≤ b) (hn : H' b = none) : FpOk X pins H' b := by
  refine ⟨hn, Nat.ne_of_gt (Nat.lt_of_lt_of_le I.lt hb), I.nofs hb, .inr (Nat.le_trans I.sz hb), fun x c e z => ?_, fun p hp z => ?_⟩
  · obtain ⟨v, q⟩ := I.cell x c e
    exact absurd (Nat.lt_of_lt_of_le q.lt (by rw [z]; exact hb)) (Nat.lt_irrefl _)
  · exact absurd (Nat.lt_of_lt_of_le (Heap.lt_size (I.pin p hp).1) (by rw [z]; exact hb)) (Nat.lt_irrefl _)
structure Turn (P : Program) (w : World) (K : PySem.W.Frag) (tg : Expr) (J : It) (fp : List Addr) (it : Addr) (tn : Nat → Heap → Prop) : Prop where
  mem : it ∈ fp
  obj : ∀ i h, tn i h → ∀ b ∈ fp, ∃ o, h.get? b = some o ∧ ∀ v, o.data ≠ .cell v
  keep : ∀ i h h', tn i h → (∀ b ∈ fp, ∀ o, h.get? b = some o → h'.get? b = some o) → tn i h'
  item : ∀ (X : Cx), X.prog = P → X.w = w → X.K = K → X.calm = true → ∀ (i : Nat) (pins : List (Addr × Obj)) (s : Shared) (σ : St) (H : Hp) (E : Value → Shared → Prop), Inv X pins σ H s → (∀ b ∈ fp, FpOk X pins H b) → tn i s.heap → J.go i H →
    wpAny (model P w) X.A (pyNext (.ref it)) (fun r s1 => ∃ u, r = some u ∧
      wpAny (model P w) X.A (letOwnedTupleGo tg (.ref it) u) (fun _ s2 => ∃ x H', Inv X pins σ H' s2 ∧ RelV x u ∧ J.yld i H x H' ∧ tn (i + 1) s2.heap ∧ ∀ b ∈ fp, H' b = none) E s1) E s
  done : ∀ (X : Cx), X.prog = P → X.w = w → X.K = K → X.calm = true → ∀ (i : Nat) (pins : List (Addr × Obj)) (s : Shared) (σ : St) (H : Hp) (E : Value → Shared → Prop), Inv X pins σ H s → (∀ b ∈ fp, FpOk X pins H b) → tn i s.heap → J.stop i H →
    wpAny (model P w) X.A (pyNext (.ref it)) (fun r s1 => r = none ∧ Inv X pins σ H s1) E s
  self : ∀ (A : Around) (i : Nat) (s : Shared) (Q : Value → Shared → Prop) (E : Value → Shared → Prop), tn i s.heap → Q (.ref it) s → wpAny (model P w) A (pyIter (.ref it)) Q E s
abbrev TI := St → Hp → (It → Hp → Prop) → Prop
/-- an iterator has come -/
def PIE (X : Cx) (pins : List (Addr × Obj)) (σ : St) (tg : Expr) (R : It → Hp → Prop) (itv : Value) (s2 : Shared) : Prop :=
  ∃ (it : Addr) (fp : List Addr) (tn : Nat → Heap → Prop) (J : It) (H' : Hp), itv = .ref it ∧ Inv X pins σ H' s2 ∧ Turn X.prog X.w X.K tg J fp it tn ∧ tn 0 s2.heap ∧ (∀ b ∈ fp, FpOk X pins H' b) ∧ R J H'
def PI (X : Cx) (tg iter : Expr) (wi : TI) : Prop :=
  ∀ (pins : List (Addr × Obj)) (s : Shared) (σ : St) (H : Hp) (R : It → Hp → Prop), Inv X pins σ H s → wi σ H R →
    wpAny (model X.prog X.w) X.A (eval iter X.env) (fun v s1 => wpAny (model X.prog X.w) X.A (pyIter v) (PIE X pins σ tg R) X.xe s1) X.xe s

/-- the step ahead of the store is nothing for an iterator that keeps no tuple -/
theorem go_of {M : Model} {A : Around} {E : Value → Shared → Prop} {s : Shared} {tg : Expr} {it : Addr} {u : Value} {o : Obj} {n : String} {vs : Array Value} {Q : Unit → Shared → Prop} (ho : s.heap.get? it = some o) (hc : o.cls = .type n) (hd : o.data = .fields vs)
    (hn : ["enumerate", "zip", "dict_itemiterator", "dict_reverseitemiterator", "odict_iterator", "itertools.zip_longest", "itertools.pairwise"].contains n = false) (hQ : Q () s) : wpAny M A (letOwnedTupleGo tg (.ref it) u) Q E s := by
  unfold letOwnedTupleGo
  cases tg <;> first
    | exact wpAny_pure hQ
    | (cases u <;> first
        | exact wpAny_pure hQ
        | (refine wpAny_bind (wpAny_load ho ?_)
           rw [hc, hd]
           show wpAny M A (if (["enumerate", "zip", "dict_itemiterator", "dict_reverseitemiterator", "odict_iterator", "itertools.zip_longest", "itertools.pairwise"].contains n && vs[0]? == some (rawInt _)) = true then _ else _) Q E s
           rw [if_neg (by intro h; rw [hn, Bool.false_and] at h; cases h)]
           exact wpAny_pure hQ))

/-- the list at a, as it stands at each turn (a loop may append to it) -/
def Itl (K : PySem.W.Frag) (a : Addr) : It :=
  ⟨fun i H => ∃ xs x, SqL K H a xs ∧ xs[i]? = some x, fun i H x H' => H' = H ∧ ∀ xs, SqL K H a xs → xs[i]? = some x, fun i H => ∃ xs, SqL K H a xs ∧ xs.length ≤ i⟩
def Itt (K : PySem.W.Frag) (a : Addr) : It :=
  ⟨fun i H => ∃ xs x, SqT K H a xs ∧ xs[i]? = some x, fun i H x H' => H' = H ∧ ∀ xs, SqT K H a xs → xs[i]? = some x, fun i H => ∃ xs, SqT K H a xs ∧ xs.length ≤ i⟩
/-- lo, lo + 1, .. (n of them) -/
def Itr (lo : Int) (n : Nat) : It := ⟨fun i _ => i < n, fun i H x H' => H' = H ∧ x = .int (lo + i), fun i _ => n ≤ i⟩
theorem turn_list {P : Program} {w : World} {K : PySem.W.Frag} {tg : Expr} (a it : Addr) : Turn P w K tg (Itl K a) [it] it (fun i h => h.IsListIter it a i) where
  mem := by simp
  obj := fun i h st b hb => by
    have e : b = it := by simpa using hb
    subst e
    obtain ⟨o, e, c, d⟩ := st
    exact ⟨o, e, fun v z => by rw [d] at z; cases z⟩
  keep := fun i h h' st k => st.at fun o e => k it (by simp) o e
  item := by
    intro X hP hw hK hc i pins s σ H E I hf st hg
    subst hP hw hK
    obtain ⟨xs, x, hq, hx⟩ := hg
    obtain ⟨its, rv, p, hz⟩ := I.list hq
    obtain ⟨u, hu, ru⟩ := rv.get hx
    obtain ⟨f0, f1, f2, f3, f4, f5⟩ := hf it (by simp)
    refine wpAny_pyNext_list_item st p.isList (x := u) (by simpa using hu) fun h' st' sb => ?_
    have I1 : Inv X pins σ H { s with heap := h' } := I.turned (t' := s.toks) (fun b o hb e => (sb.2 b hb).trans e) f0 f1 f3 f4 f5
    obtain ⟨o, e, c, d⟩ := id st'
    exact ⟨u, rfl, go_of (s := { s with heap := h' }) e c d (by decide) ⟨x, H, I1, ru, ⟨rfl, fun ys hy => by rw [I.list_inj hy hq]; exact hx⟩, st', fun b hb => (hf b hb).1⟩⟩
  done := by
    intro X hP hw hK hc i pins s σ H E I hf st hg
    subst hP hw hK
    obtain ⟨xs, hq, hx⟩ := hg
    obtain ⟨its, rv, p, hz⟩ := I.list hq
    obtain ⟨f0, f1, f2, f3, f4, f5⟩ := hf it (by simp)
    have hl := rv.length
    exact wpAny_pyNext_list_end (I.ok.hd hc) st p.isList (by simp; omega) fun h' eb => ⟨rfl, I.turned (t' := s.toks) (fun b o hb e => eb b o hb e) f0 f1 f3 f4 f5⟩
  self := fun _ _ _ _ _ st h => wpAny_pyIter_listiter st h
theorem turn_tuple {P : Program} {w : World} {K : PySem.W.Frag} {tg : Expr} (a it : Addr) : Turn P w K tg (Itt K a) [it] it (fun i h => h.IsTupleIter it a i) where
  mem := by simp
  obj := fun i h st b hb => by
    have e : b = it := by simpa using hb
    subst e
    obtain ⟨o, e, c, d⟩ := st
    exact ⟨o, e, fun v z => by rw [d] at z; cases z⟩
  keep := fun i h h' st k => st.at fun o e => k it (by simp) o e
  item := by
    intro X hP hw hK hc i pins s σ H E I hf st hg
    subst hP hw hK
    obtain ⟨xs, x, hq, hx⟩ := hg
    obtain ⟨its, rv, p, hz⟩ := I.tuple hq
    obtain ⟨u, hu, ru⟩ := rv.get hx
    obtain ⟨f0, f1, f2, f3, f4, f5⟩ := hf it (by simp)
    refine wpAny_pyNext_tuple_item st (show s.heap.IsTuple a its.toArray from p) (x := u) (by simpa using hu) fun h' st' sb => ?_
    have I1 : Inv X pins σ H { s with heap := h' } := I.turned (t' := s.toks) (fun b o hb e => (sb.2 b hb).trans e) f0 f1 f3 f4 f5
    obtain ⟨o, e, c, d⟩ := id st'
    exact ⟨u, rfl, go_of (s := { s with heap := h' }) e c d (by decide) ⟨x, H, I1, ru, ⟨rfl, fun ys hy => by rw [I.tuple_inj hy hq]; exact hx⟩, st', fun b hb => (hf b hb).1⟩⟩
  done := by
    intro X hP hw hK hc i pins s σ H E I hf st hg
    subst hP hw hK
    obtain ⟨xs, hq, hx⟩ := hg
    obtain ⟨its, rv, p, hz⟩ := I.tuple hq
    obtain ⟨f0, f1, f2, f3, f4, f5⟩ := hf it (by simp)
    have hl := rv.length
    exact wpAny_pyNext_tuple_end (I.ok.hd hc) st (show s.heap.IsTuple a its.toArray from p) (by simp; omega) fun h' eb => ⟨rfl, I.turned (t' := s.toks) (fun b o hb e => eb b o hb e) f0 f1 f3 f4 f5⟩
  self := fun _ _ _ _ _ st h => wpAny_pyIter_tupleiter st h
theorem turn_range {P : Program} {w : World} {K : PySem.W.Frag} {tg : Expr} (it : Addr) (lo : Int) (n : Nat) : Turn P w K tg (Itr lo n) [it] it (fun i h => IsRangeIter h it (lo + (i : Nat) * 1) ((n : Int) - (i : Nat)) 1) where
  mem := by simp
  obj := fun i h st b hb => by
    have e : b = it := by simpa using hb
    subst e
    exact ⟨_, st, fun v z => by
      have z' : Data.fields _ = Data.cell v := z
      cases z'⟩
  keep := fun i h h' st k => k it (by simp) _ st
  item := by
    intro X hP hw hK hc i pins s σ H E I hf st hg
    subst hP hw hK
    obtain ⟨f0, f1, f2, f3, f4, f5⟩ := hf it (by simp)
    have W := Walks.range (prog := X.prog) (w := X.w) (I.ok.hd hc) it lo 1 n
    refine W.item i s _ _ hg st fun v h' tk hv st' kk => ?_
    obtain ⟨t, rfl⟩ := hv
    have I1 : Inv X pins σ H { s with heap := h', toks := tk } := I.turned (fun b o hb e => kk b o (by simpa using hb) e) f0 f1 f3 f4 f5
    refine ⟨_, rfl, go_of (s := { s with heap := h', toks := tk }) (n := "range_iterator") st' rfl rfl (by decide) ⟨.int (lo + i), H, I1, ⟨t, ?_⟩, ⟨rfl, rfl⟩, st', fun b hb => (hf b hb).1⟩⟩
    rw [Int.mul_one]
  done := by
    intro X hP hw hK hc i pins s σ H E I hf st hg
    subst hP hw hK
    obtain ⟨f0, f1, f2, f3, f4, f5⟩ := hf it (by simp)
    exact wpAny_pyNext_range_end (I.ok.hd hc) st (by have : n ≤ i := hg; omega) fun h' eb => ⟨rfl, I.turned (t' := s.toks) (fun b o hb e => eb b o hb e) f0 f1 f3 f4 f5⟩
  self := fun _ _ _ _ _ st h => wpAny_pyIter_rangeiter st h
end L2

namespace L2
open PySem PySem.Spec PyProof.Rows
section
variable {X : Cx} {tg : Expr}
def iList (K : PySem.W.Frag) (tl : TE) : TI := fun σ H R => tl σ H fun x H1 => ∃ a, x = .ref a ∧ (∃ xs, SqL K H1 a xs) ∧ R (Itl K a) H1
def iTup (K : PySem.W.Frag) (tl : TE) : TI := fun σ H R => tl σ H fun x H1 => ∃ a, x = .ref a ∧ (∃ xs, SqT K H1 a xs) ∧ R (Itt K a) H1
theorem pi_list {l : Expr} {tl : TE} (hl : PE X l tl) : PI X tg l (iList X.K tl) := by
  intro pins s σ H R I h
  refine thn (hl pins s σ H _ I h) fun v s1 ⟨x, H1, I1, r1, q1⟩ => ?_
  obtain ⟨a, e, ⟨xs, hq⟩, q⟩ := q1
  subst e
  cases r1
  obtain ⟨its, rv, p, hz⟩ := I1.list hq
  refine wpAny_pyIter_list p.isList ?_
  refine ⟨s1.heap.objs.size, [s1.heap.objs.size], _, _, H1, rfl, I1.kept (t' := s1.toks) fun b o e => Heap.get?_push_of_some _ e, turn_list a _, ⟨_, Heap.get?_push_size _ rfl, rfl, rfl⟩, fun b hb => ?_, q⟩
  have e : b = s1.heap.objs.size := by simpa using hb
  subst e
  exact I1.fpOk (Nat.le_refl _) (I1.hok.fresh (Nat.le_refl _))
theorem pi_tup {l : Expr} {tl : TE} (hl : PE X l tl) : PI X tg l (iTup X.K tl) := by
  intro pins s σ H R I h
  refine thn (hl pins s σ H _ I h) fun v s1 ⟨x, H1, I1, r1, q1⟩ => ?_
  obtain ⟨a, e, ⟨xs, hq⟩, q⟩ := q1
  subst e
  cases r1
  obtain ⟨its, rv, p, hz⟩ := I1.tuple hq
  refine wpAny_pyIter_tuple (show s1.heap.IsTuple a its.toArray from p) ?_
  refine ⟨s1.heap.objs.size, [s1.heap.objs.size], _, _, H1, rfl, I1.kept (t' := s1.toks) fun b o e => Heap.get?_push_of_some _ e, turn_tuple a _, ⟨_, Heap.get?_push_size _ rfl, rfl, rfl⟩, fun b hb => ?_, q⟩
  have e : b = s1.heap.objs.size := by simpa using hb
  subst e
  exact I1.fpOk (Nat.le_refl _) (I1.hok.fresh (Nat.le_refl _))
/-- a range object just made, walked -/
theorem range_it {pins : List (Addr × Obj)} {σ : St} {H : Hp} {s : Shared} {R : It → Hp → Prop} {E : Value → Shared → Prop} {lo hi : Int} {t u v : Tok} {tk : Nat} (I : Inv X pins σ H s) (h1 : -(2 ^ 62) ≤ lo) (h2 : lo < 2 ^ 62) (h3 : -(2 ^ 62) ≤ hi) (h4 : hi < 2 ^ 62)
    (q : R (Itr lo (hi - lo).toNat) H) : wpAny (model X.prog X.w) X.A (pyIter (.ref s.heap.objs.size)) (PIE X pins σ tg R) E { s with heap := s.heap.push { cls := .type "range", data := .fields #[.int lo t, .int hi u, .int 1 v] }, toks := tk } := by
  refine wpAny_pyIter_range (IsRange.new ..) (small_one h1 h2 h3 h4) ?_
  have I1 : Inv X pins σ H { s with heap := s.heap.push { cls := .type "range", data := .fields #[.int lo t, .int hi u, .int 1 v] }, toks := tk } := I.kept fun b o e => Heap.get?_push_of_some _ e
  refine ⟨(s.heap.push { cls := .type "range", data := .fields #[.int lo t, .int hi u, .int 1 v] }).objs.size, [(s.heap.push { cls := .type "range", data := .fields #[.int lo t, .int hi u, .int 1 v] }).objs.size], _, _, H, rfl,
    I1.kept (t' := tk) fun b o e => Heap.get?_push_of_some _ e, turn_range _ lo (hi - lo).toNat, ?_, fun b hb => ?_, q⟩
  · have e1 : lo + ((0 : Nat) : Int) * 1 = lo := by simp
    have e2 : (((hi - lo).toNat : Nat) : Int) - ((0 : Nat) : Int) = Builtin.Range.rangeSize lo hi 1 := by rw [rangeSize_one]; split <;> omega
    show IsRangeIter _ _ (lo + ((0 : Nat) : Int) * 1) ((((hi - lo).toNat : Nat) : Int) - ((0 : Nat) : Int)) 1
    rw [e1, e2]
    exact Heap.get?_push_size _ rfl
  · have e : b = (s.heap.push { cls := .type "range", data := .fields #[.int lo t, .int hi u, .int 1 v] }).objs.size := by simpa using hb
    subst e
    exact I1.fpOk (Nat.le_refl _) (I1.hok.fresh (Nat.le_refl _))
def iRng1 (ta : TA) : TI := fun σ H R => ta σ H fun vs H1 => ∃ j : Int, vs = [.int j] ∧ -(2 ^ 62) ≤ j ∧ j < 2 ^ 62 ∧ R (Itr 0 j.toNat) H1
def iRng2 (ta : TA) : TI := fun σ H R => ta σ H fun vs H1 => ∃ i j : Int, vs = [.int i, .int j] ∧ (-(2 ^ 62) ≤ i ∧ i < 2 ^ 62 ∧ -(2 ^ 62) ≤ j ∧ j < 2 ^ 62) ∧ R (Itr i (j - i).toNat) H1
theorem pi_range1 {a : Expr} {ta : TA} {p pos : Pos} (hg : Gl X "range") (hm : X.mg "range" = none) (ha : PA X [a] ta) (hs : starEach [a] X.env = [(false, eval a X.env)] := by rfl) : PI X tg (.Call (.Name "range" p) [a] [] pos) (iRng1 ta) := by
  intro pins s σ H R I h
  refine Call_ (ld_blt I hg hm boot_range (PyProof.Rows.callWith_type1 (thn (ha pos pins s σ H _ I h) fun us s1 ⟨vs, H1, I1, r1, q1⟩ => ?_) hs rfl))
  obtain ⟨j, e, q1, q2, q⟩ := q1
  subst e
  cases r1 with
  | cons r rr =>
    cases rr
    obtain ⟨t, rfl⟩ := r
    exact call_range_1 (range_it I1 (by omega) (by omega) q1 q2 (by simpa using q))
theorem pi_range2 {a b : Expr} {ta : TA} {p pos : Pos} (hg : Gl X "range") (hm : X.mg "range" = none) (ha : PA X [a, b] ta) (hs : starEach [a, b] X.env = [(false, eval a X.env), (false, eval b X.env)] := by rfl) (hs2 : starEach [b] X.env = [(false, eval b X.env)] := by rfl) :
    PI X tg (.Call (.Name "range" p) [a, b] [] pos) (iRng2 ta) := by
  intro pins s σ H R I h
  refine Call_ (ld_blt I hg hm boot_range (PyProof.Rows.callWith_type1 (thn (ha pos pins s σ H _ I h) fun us s1 ⟨vs, H1, I1, r1, q1⟩ => ?_) (by rw [hs, hs2]) (by rw [hs2]; rfl)))
  obtain ⟨i, j, e, ⟨q1, q2, q3, q4⟩, q⟩ := q1
  subst e
  cases r1 with
  | cons r rr =>
    cases rr with
    | cons r' rr =>
      cases rr
      obtain ⟨t, rfl⟩ := r
      obtain ⟨t', rfl⟩ := r'
      exact call_range_2 (range_it I1 q1 q2 q3 q4 q)

/-! ### for -/
/-- W: the invariant by the turn and a measure; N: what the body is to reach -/
def tFor (wi : TI) (g : TG) (tb : TS) : TS := fun D σ H => wi σ H fun J H1 => ∃ W : Nat → Nat → St → Hp → Prop, (∃ m, W 0 m σ H1) ∧ ∀ i m σ H, W i m σ H →
  (J.stop i H ∧ D.nx σ H) ∨ (J.go i H ∧ ∃ N : St → Hp → Prop, (∀ σ' H', N σ' H' → ∃ m', m' < m ∧ W (i + 1) m' σ' H') ∧ ∀ x H', J.yld i H x H' → g x σ H' fun σ2 H2 => tb { D with nx := N, ct := N, bk := D.nx } σ2 H2)
/-- the records at fp as they stand -/
def pinsAt (fp : List Addr) (h : Heap) : List (Addr × Obj) := fp.filterMap fun b => (h.get? b).map fun o => (b, o)
theorem mem_pinsAt {fp : List Addr} {h : Heap} {b : Addr} {o : Obj} (hb : b ∈ fp) (e : h.get? b = some o) : (b, o) ∈ pinsAt fp h := List.mem_filterMap.mpr ⟨b, hb, by rw [e]; rfl⟩
theorem of_pinsAt {fp : List Addr} {h : Heap} {p : Addr × Obj} (hp : p ∈ pinsAt fp h) : p.1 ∈ fp ∧ h.get? p.1 = some p.2 := by
  obtain ⟨b, hb, e⟩ := List.mem_filterMap.mp hp
  cases q : h.get? b with
  | none => rw [q] at e; cases e
  | some o =>
    rw [q] at e
    have e' : (b, o) = p := Option.some.inj e
    subst e'
    exact ⟨hb, q⟩
theorem Inv.pinned {pins : List (Addr × Obj)} {σ : St} {H : Hp} {s : Shared} {fp : List Addr} (I : Inv X pins σ H s) (hf : ∀ b ∈ fp, FpOk X pins H b) (ho : ∀ b ∈ fp, ∃ o, s.heap.get? b = some o ∧ ∀ v, o.data ≠ .cell v) : Inv X (pins ++ pinsAt fp s.heap) σ H s :=
  I.pins_of fun p hp => (List.mem_append.mp hp).elim (fun z => I.pin p (List.mem_append_right _ z)) fun z => by
    obtain ⟨hb, e⟩ := of_pinsAt z
    obtain ⟨f0, f1, f2, _⟩ := hf p.1 hb
    obtain ⟨o, e', d⟩ := ho p.1 hb
    rw [e] at e'; cases e'
    exact ⟨e, f0, f1, f2, d⟩
theorem Inv.unpinned {pins pl : List (Addr × Obj)} {σ : St} {H : Hp} {s : Shared} (I : Inv X (pins ++ pl) σ H s) : Inv X pins σ H s := I.pins_of fun p hp => I.pin p (List.mem_append_right _ (List.mem_append_left _ hp))
theorem ps_for {iter : Expr} {body : List Stmt} {wi : TI} {g : TG} {tb : TS} {pos : Pos} (hp : PassesOwn (model X.prog X.w) X.A X.env X.xe) (hc : X.calm = true) (hi : PI X tg iter wi) (hg : PG X tg g) (hb : PSs X body tb)
    (hs : ∀ x, foldedSetIterable iter X.env x = pure x := by intro _; rfl) : PS X (.For tg iter body [] pos) (tFor wi g tb) := by
  intro pins s σ H D I h
  refine wpAny_For (thn (hi pins s σ H _ I h) fun v s1 h1 => thn h1 fun itv s2 h2 => ?_) hs
  obtain ⟨it, fp, tn, J, H2, e, I2, T, st2, f2, W, ⟨m0, w0⟩, turn⟩ := h2
  subst e
  -- what stays true of the iterator's objects through the loop
  have stat : ∀ {H' : Hp}, (∀ b ∈ fp, H' b = none) → ∀ b ∈ fp, FpOk X pins H' b := fun hn b hb => ⟨hn b hb, (f2 b hb).2⟩
  refine codeAny_forLoop_any (fun n s' => ∃ i σ' H', Inv X pins σ' H' s' ∧ tn i s'.heap ∧ (∀ b ∈ fp, H' b = none) ∧ W i n σ' H') ?_ m0 ⟨0, σ, H2, I2, st2, fun b hb => (f2 b hb).1, w0⟩
  rintro n s3 ⟨i, σ3, H3, I3, st3, fr3, w3⟩
  rcases turn i n σ3 H3 w3 with ⟨stop, qn⟩ | ⟨go, N, hN, step⟩
  · refine wpAny_passesOwn hp (thn (T.done X rfl rfl rfl hc i pins s3 σ3 H3 X.xe I3 (stat fr3) st3 stop) fun r s4 ⟨hr, I4⟩ => ?_)
    subst hr
    exact wpAny_execs_nil ⟨σ3, H3, I4, qn⟩
  · refine wpAny_passesOwn hp (thn (T.item X rfl rfl rfl hc i pins s3 σ3 H3 X.xe I3 (stat fr3) st3 go) fun r s4 ⟨u, hr, h4⟩ => ?_)
    subst hr
    refine wpAny_passesOwn hp (thn h4 fun _ s5 ⟨x, H5, I5, r5, y5, st5, fr5⟩ => ?_)
    have I5' := I5.pinned (stat fr5) (T.obj _ _ st5)
    refine wpAny_passesOwn hp (thn (hg _ s5 σ3 H5 x u _ I5' r5 (step x H5 y5)) fun _ s6 ⟨σ6, H6, I6, q6⟩ => ?_)
    refine wpAny_passesOwn hp (thn (hb _ s6 σ6 H6 _ I6 q6) fun f s7 q7 => ?_)
    have again : ∀ {σ7 : St} {H7 : Hp}, Inv X (pins ++ pinsAt fp s5.heap) σ7 H7 s7 → N σ7 H7 → ∃ m, m < n ∧ ∃ i σ' H', Inv X pins σ' H' s7 ∧ tn i s7.heap ∧ (∀ b ∈ fp, H' b = none) ∧ W i m σ' H' := fun {σ7 H7} I7 n7 => by
      obtain ⟨m', hm, w7⟩ := hN σ7 H7 n7
      refine ⟨m', hm, i + 1, σ7, H7, I7.unpinned, T.keep _ _ _ st5 fun b hb o e => (I7.pin (b, o) (List.mem_append_right _ (List.mem_append_right _ (mem_pinsAt hb e)))).1, fun b hb => ?_, w7⟩
      obtain ⟨o, e, d⟩ := T.obj _ _ st5 b hb
      exact (I7.pin (b, o) (List.mem_append_right _ (List.mem_append_right _ (mem_pinsAt hb e)))).2.1
    cases f with
    | next => obtain ⟨σ7, H7, I7, n7⟩ := q7; exact again I7 n7
    | cont => obtain ⟨σ7, H7, I7, n7⟩ := q7; exact again I7 n7
    | brk => obtain ⟨σ7, H7, I7, q7⟩ := q7; exact ⟨σ7, H7, I7.unpinned, q7⟩
    | ret v => obtain ⟨x7, σ7, H7, I7, r7, q7⟩ := q7; exact ⟨x7, σ7, H7, I7.unpinned, r7, q7⟩
end

/-! ### the forms one uses -/
/-- over a list that the body leaves as it is -/
theorem for_list {K : PySem.W.Frag} {a : Addr} {xs : List V} {g : TG} {tb : TS} {D : Ends} {σ : St} {H : Hp} (Pv : Nat → St → Hp → Prop) (h0 : Pv 0 σ H) (hl : ∀ i σ H, i ≤ xs.length → Pv i σ H → SqL K H a xs)
    (hs : ∀ i x σ H, xs[i]? = some x → Pv i σ H → g x σ H fun σ2 H2 => tb { D with nx := Pv (i + 1), ct := Pv (i + 1), bk := D.nx } σ2 H2) (hd : ∀ σ H, Pv xs.length σ H → D.nx σ H) :
    ∃ W : Nat → Nat → St → Hp → Prop, (∃ m, W 0 m σ H) ∧ ∀ i m σ H, W i m σ H →
      ((Itl K a).stop i H ∧ D.nx σ H) ∨ ((Itl K a).go i H ∧ ∃ N : St → Hp → Prop, (∀ σ' H', N σ' H' → ∃ m', m' < m ∧ W (i + 1) m' σ' H') ∧ ∀ x H', (Itl K a).yld i H x H' → g x σ H' fun σ2 H2 => tb { D with nx := N, ct := N, bk := D.nx } σ2 H2) := by
  refine ⟨fun i m σ H => m = xs.length - i ∧ i ≤ xs.length ∧ Pv i σ H, ⟨xs.length, by simp, Nat.zero_le _, h0⟩, ?_⟩
  rintro i m σ H ⟨rfl, hi, p⟩
  have q := hl i σ H hi p
  by_cases hlt : i < xs.length
  · refine .inr ⟨⟨xs, xs[i], q, by simp [hlt]⟩, Pv (i + 1), fun σ' H' p' => ⟨xs.length - (i + 1), by omega, rfl, hlt, p'⟩, fun x H' y => ?_⟩
    obtain ⟨e, y⟩ := y
    subst e
    exact hs i x σ _ (y xs q) p
  · have e : i = xs.length := by omega
    subst e
    exact .inl ⟨⟨xs, q, Nat.le_refl _⟩, hd σ H p⟩
theorem for_range {lo : Int} {n : Nat} {g : TG} {tb : TS} {D : Ends} {σ : St} {H : Hp} (Pv : Nat → St → Hp → Prop) (h0 : Pv 0 σ H)
    (hs : ∀ i σ H, i < n → Pv i σ H → g (.int (lo + i)) σ H fun σ2 H2 => tb { D with nx := Pv (i + 1), ct := Pv (i + 1), bk := D.nx } σ2 H2) (hd : ∀ σ H, Pv n σ H → D.nx σ H) :
    ∃ W : Nat → Nat → St → Hp → Prop, (∃ m, W 0 m σ H) ∧ ∀ i m σ H, W i m σ H →
      ((Itr lo n).stop i H ∧ D.nx σ H) ∨ ((Itr lo n).go i H ∧ ∃ N : St → Hp → Prop, (∀ σ' H', N σ' H' → ∃ m', m' < m ∧ W (i + 1) m' σ' H') ∧ ∀ x H', (Itr lo n).yld i H x H' → g x σ H' fun σ2 H2 => tb { D with nx := N, ct := N, bk := D.nx } σ2 H2) := by
  refine ⟨fun i m σ H => m = n - i ∧ i ≤ n ∧ Pv i σ H, ⟨n, by simp, Nat.zero_le _, h0⟩, ?_⟩
  rintro i m σ H ⟨rfl, hi, p⟩
  by_cases hlt : i < n
  · refine .inr ⟨hlt, Pv (i + 1), fun σ' H' p' => ⟨n - (i + 1), by omega, rfl, hlt, p'⟩, fun x H' y => ?_⟩
    obtain ⟨e, y⟩ := y
    subst e y
    exact hs i σ _ hlt p
  · have e : i = n := by omega
    subst e
    exact .inl ⟨Nat.le_refl _, hd σ H p⟩
/-- while, by a word and a measure of the state -/
theorem while_by {c : TT} {tb : TS} {D : Ends} {σ : St} {H : Hp} (Pv : St → Hp → Prop) (μ : St → Hp → Nat) (h0 : Pv σ H)
    (hs : ∀ σ H, Pv σ H → c σ H fun b H1 => if b = true then tb { D with nx := fun σ' H' => Pv σ' H' ∧ μ σ' H' < μ σ H, ct := fun σ' H' => Pv σ' H' ∧ μ σ' H' < μ σ H, bk := D.nx } σ H1 else D.nx σ H1)
    (mono : ∀ σ H Q Q', (∀ b H1, Q b H1 → Q' b H1) → c σ H Q → c σ H Q') : tWhile c tb D σ H := by
  refine ⟨fun m σ H => m = μ σ H ∧ Pv σ H, ⟨_, rfl, h0⟩, ?_⟩
  rintro m σ H ⟨rfl, p⟩
  refine mono σ H _ _ (fun b H1 q => ?_) (hs σ H p)
  cases b with
  | true => exact ⟨_, fun σ' H' ⟨p', l⟩ => ⟨_, l, rfl, p'⟩, q⟩
  | false => exact q
end L2

namespace L2
open PySem PySem.Spec PyProof.Rows

abbrev R2 := V → V → Hp → VK → Prop
/-- a two-place operation on values: f is binaryOp op, inplaceOp op or compareOp op -/
def OpR (X : Cx) (f : Value → Value → Sem Value) (r : R2) : Prop :=
  ∀ (pins : List (Addr × Obj)) (s : Shared) (σ : St) (H : Hp) (x y : V) (v u : Value) (Q : VK), Inv X pins σ H s → RelV x v → RelV y u → r x y H Q →
    wpAny (model X.prog X.w) X.A (f v u) (EP X pins σ Q) X.xe s
/-- a call of a value that is known (a builtin, a type) with values -/
def CallR (X : Cx) (f : Value) (r : List V → Hp → VK → Prop) : Prop :=
  ∀ (pins : List (Addr × Obj)) (s : Shared) (σ : St) (H : Hp) (xs : List V) (us : List Value) (Q : VK), Inv X pins σ H s → Vals xs us → r xs H Q →
    wpAny (model X.prog X.w) X.A (call f us) (EP X pins σ Q) X.xe s
def tOp (r : R2) (ta tb : TE) : TE := fun σ H Q => ta σ H fun x H1 => tb σ H1 fun y H2 => r x y H2 Q
def tUn (r : V → Hp → VK → Prop) (ta : TE) : TE := fun σ H Q => ta σ H fun x H1 => r x H1 Q
/-- ints in, under C, and a value out -/
def rI (C : Int → Int → Prop) (g : Int → Int → V) : R2 := fun x y H Q => ∃ i j, x = .int i ∧ y = .int j ∧ C i j ∧ Q (g i j) H
def rI0 (g : Int → Int → V) : R2 := fun x y H Q => ∃ i j, x = .int i ∧ y = .int j ∧ Q (g i j) H
def rU (g : Int → V) : V → Hp → VK → Prop := fun x H Q => ∃ i, x = .int i ∧ Q (g i) H

section
variable {X : Cx} {a b c : Expr} {ta tb tc : TE} {pos : Pos}

theorem binT (ha : PE X a ta) (hb : PE X b tb) {pins : List (Addr × Obj)} {s : Shared} {σ : St} {H : Hp} {R : V → V → Hp → Prop} (I : Inv X pins σ H s)
    (h : ta σ H fun x H1 => tb σ H1 fun y H2 => R x y H2) {Q : Value → Shared → Prop} {f : Value → Value → Sem Value}
    (hf : ∀ v u s2 x y H2, Inv X pins σ H2 s2 → RelV x v → RelV y u → R x y H2 → wpAny (model X.prog X.w) X.A (f v u) Q X.xe s2) :
    wpAny (model X.prog X.w) X.A (eval a X.env) (fun v s₁ => wpAny (model X.prog X.w) X.A (eval b X.env) (fun u s₂ => wpAny (model X.prog X.w) X.A (f v u) Q X.xe s₂) X.xe s₁) X.xe s := by
  refine thn (ha pins s σ H _ I h) fun v s1 ⟨x, H1, I1, r1, q1⟩ => ?_
  refine thn (hb pins s1 σ H1 _ I1 q1) fun u s2 ⟨y, H2, I2, r2, q2⟩ => ?_
  exact hf v u s2 x y H2 I2 r1 r2 q2

theorem pe_op {op : Operator} {r : R2} (ho : OpR X (binaryOp op) r) (ha : PE X a ta) (hb : PE X b tb) : PE X (.BinOp a op b pos) (tOp r ta tb) := by
  intro pins s σ H Q I h
  exact wpAny_BinOp (binT ha hb I h fun v u s2 x y H2 I2 rx ry q => ho pins s2 σ H2 x y v u Q I2 rx ry q)
/-! ### ints -/
theorem opI {f : Value → Value → Sem Value} {C : Int → Int → Prop} {g : Int → Int → Int}
    (rule : ∀ (i j : Int) (t u : Tok) (s : Shared) (Q : Value → Shared → Prop) (E : Value → Shared → Prop), C i j → Q (.int (g i j) s.toks) { s with toks := s.toks + 1 } → wpAny (model X.prog X.w) X.A (f (.int i t) (.int j u)) Q E s) :
    OpR X f (rI C fun i j => .int (g i j)) := by
  intro pins s σ H x y v u Q I rx ry h
  obtain ⟨i, j, rfl, rfl, hc, q⟩ := h
  obtain ⟨t, rfl⟩ := rx
  obtain ⟨t', rfl⟩ := ry
  exact rule i j t t' s _ _ hc ⟨.int (g i j), H, I.tok _, ⟨_, rfl⟩, q⟩
theorem opI0 {f : Value → Value → Sem Value} {g : Int → Int → Int}
    (rule : ∀ (i j : Int) (t u : Tok) (s : Shared) (Q : Value → Shared → Prop) (E : Value → Shared → Prop), Q (.int (g i j) s.toks) { s with toks := s.toks + 1 } → wpAny (model X.prog X.w) X.A (f (.int i t) (.int j u)) Q E s) :
    OpR X f (rI0 fun i j => .int (g i j)) := by
  intro pins s σ H x y v u Q I rx ry h
  obtain ⟨i, j, rfl, rfl, q⟩ := h
  obtain ⟨t, rfl⟩ := rx
  obtain ⟨t', rfl⟩ := ry
  exact rule i j t t' s _ _ ⟨.int (g i j), H, I.tok _, ⟨_, rfl⟩, q⟩
theorem opB0 {f : Value → Value → Sem Value} {g : Int → Int → Bool}
    (rule : ∀ (i j : Int) (t u : Tok) (s : Shared) (Q : Value → Shared → Prop) (E : Value → Shared → Prop), Q (.bool (g i j)) s → wpAny (model X.prog X.w) X.A (f (.int i t) (.int j u)) Q E s) :
    OpR X f (rI0 fun i j => .bl (g i j)) := by
  intro pins s σ H x y v u Q I rx ry h
  obtain ⟨i, j, rfl, rfl, q⟩ := h
  obtain ⟨t, rfl⟩ := rx
  obtain ⟨t', rfl⟩ := ry
  exact rule i j t t' s _ _ ⟨.bl (g i j), H, I, rfl, q⟩

def CDiv (i j : Int) : Prop := 0 < j ∧ j < 1073741824
def CPow (i j : Int) : Prop := 0 ≤ j ∧ j ≤ 1000000 ∧ i.natAbs < 2 ^ 64
def CMul (i j : Int) : Prop := (-(2 ^ 64) < i ∧ i < 2 ^ 64) ∨ (-(2 ^ 64) < j ∧ j < 2 ^ 64)
theorem CMul.ok {i j : Int} (h : CMul i j) : IntMulOk i j := by
  rcases h with ⟨h1, h2⟩ | ⟨h1, h2⟩
  · exact .of_left (intBits_le_64 h1 h2)
  · exact .of_right (intBits_le_64 h1 h2)
theorem op_add : OpR X (binaryOp .Add) (rI0 fun i j => .int (i + j)) := opI0 fun _ _ _ _ _ _ _ q => add_int q
theorem op_sub : OpR X (binaryOp .Sub) (rI0 fun i j => .int (i - j)) := opI0 fun _ _ _ _ _ _ _ q => sub_int q
theorem op_mul : OpR X (binaryOp .Mult) (rI CMul fun i j => .int (i * j)) := opI fun _ _ _ _ _ _ _ hc q => mul_int q hc.ok
/-- // by a positive divisor -/
theorem op_fdiv : OpR X (binaryOp .FloorDiv) (rI CDiv fun i j => .int (i / j)) := opI fun i j _ _ _ _ _ hc q => by
  have h1 : (0 : Int) < j := hc.1
  have h2 : j < 1073741824 := hc.2
  exact floordiv_int (by omega) (by rw [Int.fdiv_eq_ediv_of_nonneg i (by omega)]; exact q) (.inl (PyProof.noPylong_small (by omega)))
/-- % by a positive divisor of any size -/
theorem op_mod : OpR X (binaryOp .Mod) (rI (fun _ j => 0 < j) fun i j => .int (i % j)) := opI fun i j _ _ _ _ _ hc q => by
  have h1 : (0 : Int) < j := hc
  exact mod_int' (by omega) (by rw [Int.fmod_eq_emod_of_nonneg i (by omega)]; exact q)
theorem op_pow : OpR X (binaryOp .Pow) (rI CPow fun i j => .int (i ^ j.toNat)) := opI fun _ _ _ _ _ _ _ hc q => pow_int_small hc.1 hc.2.1 hc.2.2 q
/-! ### bools among ints: n += (a < b) -/
end

/-! ### comparisons -/
/-- the scalars that == tells apart as data does -/
def scal : V → V → Bool
  | .non, .non => true | .non, .int _ => true | .int _, .non => true | .non, .bl _ => true | .bl _, .non => true | .non, .str _ => true | .str _, .non => true
  | .int _, .int _ => true | .bl _, .bl _ => true | .str _, .str _ => true | .byt _, .byt _ => true
  | .int _, .str _ => true | .str _, .int _ => true | .bl _, .str _ => true | .str _, .bl _ => true
  | _, _ => false
def rEq : R2 := fun x y H Q => scal x y = true ∧ Q (.bl (decide (x = y))) H
def rNe : R2 := fun x y H Q => scal x y = true ∧ Q (.bl (!decide (x = y))) H

theorem dec_int {i j : Int} : decide (V.int i = V.int j) = (i == j) := by
  rw [Bool.eq_iff_iff]
  simp
theorem dec_bl {i j : Bool} : decide (V.bl i = V.bl j) = (i == j) := by
  rw [Bool.eq_iff_iff]
  simp
theorem dec_str {i j : Str} : decide (V.str i = V.str j) = (i == j) := by
  rw [Bool.eq_iff_iff]
  simp
theorem dec_byt {i j : Array UInt8} : decide (V.byt i = V.byt j) = (i.toList == j.toList) := by
  rw [Bool.eq_iff_iff]
  cases i
  cases j
  simp

section
variable {X : Cx} {a b c : Expr} {ta tb tc : TE} {pos : Pos}
theorem fin_bl {pins : List (Addr × Obj)} {σ : St} {H : Hp} {s : Shared} {Q : VK} {k k' : Bool} (I : Inv X pins σ H s) (q : Q (.bl k) H) (e : k = k') : EP X pins σ Q (.bool k') s := by
  subst e
  exact ⟨.bl k, H, I, rfl, q⟩
theorem op_eq : OpR X (compareOp .Eq) rEq := by
  intro pins s σ H x y v u Q I rx ry h
  obtain ⟨hs, q⟩ := h
  cases x with
  | non =>
    cases rx
    cases y with
    | non => cases ry; exact PySem.EqNone.eq_none_none (fin_bl I q (by simp))
    | bl j => cases ry; exact PySem.EqNone.eq_none_bool (fin_bl I q (by simp))
    | int j => obtain ⟨t', rfl⟩ := ry; exact PySem.EqNone.eq_none_int (fin_bl I q (by simp))
    | str j => obtain ⟨t', rfl⟩ := ry; exact PySem.EqNone.eq_none_str (fin_bl I q (by simp))
    | _ => exact absurd (show false = true from hs) Bool.false_ne_true
  | bl i =>
    cases rx
    cases y with
    | non => cases ry; exact PySem.EqNone.eq_bool_none (fin_bl I q (by simp))
    | bl j => cases ry; exact eq_bool (fin_bl I q dec_bl)
    | str j => obtain ⟨t', rfl⟩ := ry; exact PySem.EqMixed.eq_bool_str (fin_bl I q (by simp))
    | _ => exact absurd (show false = true from hs) Bool.false_ne_true
  | int i =>
    obtain ⟨t, rfl⟩ := rx
    cases y with
    | non => cases ry; exact PySem.EqNone.eq_int_none (fin_bl I q (by simp))
    | int j => obtain ⟨t', rfl⟩ := ry; exact eq_int (fin_bl I q dec_int)
    | str j => obtain ⟨t', rfl⟩ := ry; exact PySem.EqMixed.eq_int_str (fin_bl I q (by simp))
    | _ => exact absurd (show false = true from hs) Bool.false_ne_true
  | str i =>
    obtain ⟨t, rfl⟩ := rx
    cases y with
    | non => cases ry; exact PySem.EqNone.eq_str_none (fin_bl I q (by simp))
    | bl j => cases ry; exact PySem.EqMixed.eq_str_bool (fin_bl I q (by simp))
    | int j => obtain ⟨t', rfl⟩ := ry; exact PySem.EqMixed.eq_str_int (fin_bl I q (by simp))
    | str j => obtain ⟨t', rfl⟩ := ry; exact eq_str (fin_bl I q dec_str)
    | _ => exact absurd (show false = true from hs) Bool.false_ne_true
  | byt i =>
    obtain ⟨t, rfl⟩ := rx
    cases y with
    | byt j => obtain ⟨t', rfl⟩ := ry; exact PySem.W.eq_bytes (fin_bl I q dec_byt)
    | _ => exact absurd (show false = true from hs) Bool.false_ne_true
  | _ => cases y <;> exact absurd (show false = true from hs) Bool.false_ne_true
theorem op_ne : OpR X (compareOp .NotEq) rNe := by
  intro pins s σ H x y v u Q I rx ry h
  obtain ⟨hs, q⟩ := h
  cases x with
  | non =>
    cases rx
    cases y with
    | non => cases ry; exact PySem.EqNone.ne_none_none (fin_bl I q (by simp))
    | bl j => cases ry; exact PySem.EqNone.ne_none_bool (fin_bl I q (by simp))
    | int j => obtain ⟨t', rfl⟩ := ry; exact PySem.EqNone.ne_none_int (fin_bl I q (by simp))
    | str j => obtain ⟨t', rfl⟩ := ry; exact PySem.EqNone.ne_none_str (fin_bl I q (by simp))
    | _ => exact absurd (show false = true from hs) Bool.false_ne_true
  | bl i =>
    cases rx
    cases y with
    | non => cases ry; exact PySem.EqNone.ne_bool_none (fin_bl I q (by simp))
    | bl j => cases ry; exact ne_bool (fin_bl I q (congrArg not dec_bl))
    | str j => obtain ⟨t', rfl⟩ := ry; exact PySem.EqMixed.ne_bool_str (fin_bl I q (by simp))
    | _ => exact absurd (show false = true from hs) Bool.false_ne_true
  | int i =>
    obtain ⟨t, rfl⟩ := rx
    cases y with
    | non => cases ry; exact PySem.EqNone.ne_int_none (fin_bl I q (by simp))
    | int j => obtain ⟨t', rfl⟩ := ry; exact ne_int (fin_bl I q (congrArg not dec_int))
    | str j => obtain ⟨t', rfl⟩ := ry; exact PySem.EqMixed.ne_int_str (fin_bl I q (by simp))
    | _ => exact absurd (show false = true from hs) Bool.false_ne_true
  | str i =>
    obtain ⟨t, rfl⟩ := rx
    cases y with
    | non => cases ry; exact PySem.EqNone.ne_str_none (fin_bl I q (by simp))
    | bl j => cases ry; exact PySem.EqMixed.ne_str_bool (fin_bl I q (by simp))
    | int j => obtain ⟨t', rfl⟩ := ry; exact PySem.EqMixed.ne_str_int (fin_bl I q (by simp))
    | str j => obtain ⟨t', rfl⟩ := ry; exact ne_str (fin_bl I q (congrArg not dec_str))
    | _ => exact absurd (show false = true from hs) Bool.false_ne_true
  | byt i =>
    obtain ⟨t, rfl⟩ := rx
    cases y with
    | byt j => obtain ⟨t', rfl⟩ := ry; exact PySem.W.ne_bytes (fin_bl I q (congrArg not dec_byt))
    | _ => exact absurd (show false = true from hs) Bool.false_ne_true
  | _ => cases y <;> exact absurd (show false = true from hs) Bool.false_ne_true

theorem op_lt : OpR X (compareOp .Lt) (rI0 fun i j => .bl (decide (i < j))) := opB0 fun _ _ _ _ _ _ _ q => lt_int q
theorem op_le : OpR X (compareOp .LtE) (rI0 fun i j => .bl (decide (i ≤ j))) := opB0 fun _ _ _ _ _ _ _ q => le_int q
theorem op_gt : OpR X (compareOp .Gt) (rI0 fun i j => .bl (decide (j < i))) := opB0 fun _ _ _ _ _ _ _ q => gt_int q
theorem op_ge : OpR X (compareOp .GtE) (rI0 fun i j => .bl (decide (j ≤ i))) := opB0 fun _ _ _ _ _ _ _ q => ge_int q
/-- is None, is not None: the right side a value none -/
theorem op_isN : OpR X (compareOp .Is) (fun x y H Q => y = .non ∧ Q (.bl (decide (x = .non))) H) := by
  intro pins s σ H x y v u Q I rx ry h
  obtain ⟨rfl, q⟩ := h
  cases ry
  refine is_none_gen (fin_bl I q ?_)
  cases x <;> first
    | (cases rx; rfl)
    | (obtain ⟨t, rfl⟩ := rx; rfl)
/-- two rules for one operation: by cases -/
theorem OpR.or {f : Value → Value → Sem Value} {r r' : R2} (h : OpR X f r) (h' : OpR X f r') : OpR X f (fun x y H Q => r x y H Q ∨ r' x y H Q) := by
  intro pins s σ H x y v u Q I rx ry q
  rcases q with q | q
  · exact h pins s σ H x y v u Q I rx ry q
  · exact h' pins s σ H x y v u Q I rx ry q

theorem nomark (b : Expr) {op : CmpOp} (h : op ≠ .In := by decide) (h2 : op ≠ .NotIn := by decide) : behindInMarks op b = false := by
  have e1 : (op == CmpOp.In) = false := by cases op <;> first | rfl | exact absurd rfl h
  have e2 : (op == CmpOp.NotIn) = false := by cases op <;> first | rfl | exact absurd rfl h2
  cases b <;> simp [behindInMarks, e1, e2]
/-- a comparison as a value; hm: nomark b, or (for in, not in) by with_unfolding_all rfl -/
theorem pe_cmpR {op : CmpOp} {r : R2} (ho : OpR X (compareOp op) r) (ha : PE X a ta) (hb : PE X b tb) (hm : behindInMarks op b = false) : PE X (.Compare a [op] [b] pos) (tOp r ta tb) := by
  intro pins s σ H Q I h
  exact wpAny_Compare1 (binT ha hb I h fun v u s2 x y H2 I2 rx ry q => ho pins s2 σ H2 x y v u Q I2 rx ry q) hm
/-- a reading of a value as a test -/
def tTest (t : TE) : TT := fun σ H Q => t σ H fun x H' => ∃ k, x = .bl k ∧ Q k H'
theorem pt_cmpR {op : CmpOp} {r : R2} (ho : OpR X (compareOp op) r) (ha : PE X a ta) (hb : PE X b tb) (hm : behindInMarks op b = false) : PT X (.Compare a [op] [b] pos) (tTest (tOp r ta tb)) := by
  intro pins s σ H Q I h
  refine wpAny_isTrue_Compare1 (thn (ha pins s σ H _ I h) fun v s1 ⟨x, H1, I1, r1, q1⟩ => thn (hb pins s1 σ H1 _ I1 q1) fun u s2 ⟨y, H2, I2, r2, q2⟩ =>
    thn (ho pins s2 σ H2 x y v u _ I2 r1 r2 q2) fun c s3 ⟨z, H3, I3, r3, k, e, q3⟩ => ?_) hm
  subst e
  cases r3
  exact wpAny_truthy_bool ⟨H3, I3, q3⟩
/-- a op1 b op2 c -/
def tChain (r r' : R2) (ta tb tc : TE) : TE := fun σ H Q => ta σ H fun x H1 => tb σ H1 fun y H2 => r x y H2 fun z H3 => ∃ k, z = .bl k ∧
  (if k = true then tc σ H3 fun w' H4 => r' y w' H4 Q else Q (.bl false) H3)
/-! ### truth -/
theorem line63 : (sizeLine : Nat) < 2 ^ 63 := by rw [sizeLine_eq]; decide
/-! ### strs and bytes -/
theorem op_add_str : OpR X (binaryOp .Add) (fun x y H Q => ∃ i j, x = .str i ∧ y = .str j ∧ i.length + j.length ≤ sizeLine ∧ Q (.str (i ++ j)) H) := by
  intro pins s σ H x y v u Q I rx ry h
  obtain ⟨i, j, rfl, rfl, hz, q⟩ := h
  obtain ⟨t, rfl⟩ := rx
  obtain ⟨t', rfl⟩ := ry
  exact add_str (fun t' tk => ⟨.str (i ++ j), H, I.tok _, ⟨_, rfl⟩, q⟩) hz
/-! ### scalar builtins, by CallR -/
theorem vals1 {x : V} {us : List Value} (r : Vals [x] us) : ∃ u, us = [u] ∧ RelV x u := by
  cases r with
  | cons r1 r2 => cases r2; exact ⟨_, rfl, r1⟩
theorem vals2 {x y : V} {us : List Value} (r : Vals [x, y] us) : ∃ u w', us = [u, w'] ∧ RelV x u ∧ RelV y w' := by
  cases r with
  | cons r1 r2 =>
    cases r2 with
    | cons r3 r4 => cases r4; exact ⟨_, _, rfl, r1, r3⟩
theorem call_max2 (hc : X.calm = true) : CallR X (.builtin "max") (fun xs H Q => ∃ i j, xs = [.int i, .int j] ∧ Q (.int (if j > i then j else i)) H) := by
  intro pins s σ H xs us Q I r h
  obtain ⟨i, j, rfl, q⟩ := h
  obtain ⟨u, w', rfl, ⟨t, rfl⟩, ⟨t', rfl⟩⟩ := vals2 r
  refine max_two_ints (I.ok.hd hc) fun h' tk k => ⟨_, H, I.kept k, ?_, q⟩
  by_cases hj : j > i
  · rw [if_pos hj, if_pos hj]; exact ⟨_, rfl⟩
  · rw [if_neg hj, if_neg hj]; exact ⟨_, rfl⟩
theorem call_min2 (hc : X.calm = true) : CallR X (.builtin "min") (fun xs H Q => ∃ i j, xs = [.int i, .int j] ∧ Q (.int (if j < i then j else i)) H) := by
  intro pins s σ H xs us Q I r h
  obtain ⟨i, j, rfl, q⟩ := h
  obtain ⟨u, w', rfl, ⟨t, rfl⟩, ⟨t', rfl⟩⟩ := vals2 r
  refine min_two_ints (I.ok.hd hc) fun h' tk k => ⟨_, H, I.kept k, ?_, q⟩
  by_cases hj : j < i
  · rw [if_pos hj, if_pos hj]; exact ⟨_, rfl⟩
  · rw [if_neg hj, if_neg hj]; exact ⟨_, rfl⟩
theorem call_int1 : CallR X (.type "int") (fun xs H Q => (∃ i, xs = [.int i] ∧ Q (.int i) H) ∨ ∃ k, xs = [.bl k] ∧ Q (.int (if k then 1 else 0)) H) := by
  intro pins s σ H xs us Q I r h
  rcases h with ⟨i, rfl, q⟩ | ⟨k, rfl, q⟩
  · obtain ⟨u, rfl, t, rfl⟩ := vals1 r
    exact call_int_int ⟨.int i, H, I, ⟨_, rfl⟩, q⟩
  · obtain ⟨u, rfl, r1⟩ := vals1 r
    cases r1
    exact call_int_bool ⟨.int (if k then 1 else 0), H, I.tok _, ⟨_, rfl⟩, q⟩
/-- divmod: a new tuple -/
theorem call_divmod : CallR X (.builtin "divmod") (fun xs H Q => ∃ i j, xs = [.int i, .int j] ∧ CDiv i j ∧ ∀ p, H p = none → Q (.ref p) (upd H p (.tup [.int (i / j), .int (i % j)]))) := by
  intro pins s σ H xs us Q I r h
  obtain ⟨i, j, rfl, ⟨h1, h2⟩, q⟩ := h
  obtain ⟨u, w', rfl, ⟨t, rfl⟩, ⟨t', rfl⟩⟩ := vals2 r
  refine divmod_int (by omega) ?_ (.inl (PyProof.noPylong_small (by omega)))
  rw [Int.fdiv_eq_ediv_of_nonneg i (by omega), Int.fmod_eq_emod_of_nonneg i (by omega)]
  have hn : H s.heap.objs.size = none := I.hok.fresh (Nat.le_refl _)
  refine ⟨.ref s.heap.objs.size, _, ?_, rfl, q _ hn⟩
  refine I.laid (fun b o e => Heap.get?_push_of_some _ e) (Nat.le_refl _) ⟨by simp only [List.length_cons, List.length_nil]; rw [sizeLine_eq]; decide, [.int (i / j) s.toks, .int (i % j) (s.toks + 1)], .cons ⟨_, rfl⟩ (.cons ⟨_, rfl⟩ .nil), ?_⟩
  exact ⟨_, Heap.get?_push_size s.heap rfl, rfl, 0, rfl⟩
end
end L2

namespace L2
open PySem PySem.Spec PyProof.Rows

/-! ### an instance, its attributes a map -/
structure ObjM (h : Heap) (x dx C : Addr) (mA : Str → Option Value) : Prop where
  obj : h.get? x = some (PySem.W.instObj C dx)
  ns : h.Ns1 dx mA
  ne : dx ≠ x

theorem lookIn_ns {h : Heap} {dx : Addr} {mA : Str → Option Value} (n : h.Ns1 dx mA) : ∃ od, h.get? dx = some od ∧ ∀ name, PySem.W.lookIn name od = some (mA name) := by
  obtain ⟨o, es, ep, ho, hd, hk, _, hm⟩ := n
  refine ⟨o, ho, fun name => ?_⟩
  have e := hm name
  unfold nsFind findBy at e
  rw [← Array.find?_toList] at e
  unfold PySem.W.lookIn
  rw [hd]
  dsimp only
  split
  · rename_i y q
    rw [q] at e
    exact congrArg some e
  · rename_i q
    rw [q] at e
    have a : es.toList.any (·.refKey) = false := by
      rw [List.any_eq_false]
      intro y hy
      obtain ⟨z, t, hkey⟩ := hk y (Array.mem_toList_iff.mp hy)
      simp [DictEntry.refKey, hkey]
    have a' : ¬ es.toList.any (·.refKey) = true := by rw [a]; exact Bool.false_ne_true
    rw [if_neg a']
    exact congrArg some e

theorem ObjM.look {h : Heap} {x dx C : Addr} {mA : Str → Option Value} (I : ObjM h x dx C mA) : ∃ od, PySem.W.InstAt h x (PySem.W.instObj C dx) C (some od) ∧ ∀ name, PySem.W.lookIn name od = some (mA name) :=
  let ⟨od, ho, hl⟩ := lookIn_ns I.ns
  ⟨od, ⟨I.obj, rfl, rfl, ho⟩, hl⟩

section
variable {prog : Program} {w : World} {A : Around} {E : Value → Shared → Prop} {s : Shared} {K : PySem.W.Frag} {x dx C f : Addr} {mA : Str → Option Value} {name : Str} {v : Value}

end

/-! ### the attributes as a list of pairs -/
theorem RelO.some_of {v : V} {o : Option Value} (r : RelO (some v) o) : ∃ u, o = some u ∧ RelV v u := by
  cases o with
  | none => exact (show False from r).elim
  | some u => exact ⟨u, rfl, r⟩
theorem RelO.none_of {o : Option Value} (r : RelO none o) : o = none := by
  cases o with
  | none => rfl
  | some u => exact (show False from r).elim
section
variable {P : Program} {w : World} {H H' : Hp} {h h' : Heap} {a C dx : Addr} {fs fs' : List (Str × V)}
theorem ins_get (hok : HOk P w H h) (e : H a = some (.ins C dx fs)) : ∃ mA, ObjM h a dx C mA ∧ (∀ f, RelO (fs.lookup f) (mA f)) ∧ PySem.Within mA (fs.map (·.1)) ∧ fs.length ≤ 1000 ∧ H dx = some (.own a) := by
  obtain ⟨d, z, ne, ob, mA, n, r, q⟩ := (show ObjOk P w H h a (.ins C dx fs) from hok a _ e)
  exact ⟨mA, ⟨ob, n, ne⟩, r, q, z, d⟩
end

/-! ### what of the text a class must have -/
structure Cls (K : PySem.W.Frag) (C : Addr) : Prop where
  pg : PySem.W.plainGet K C Str.empty = true
  hd : PySem.W.hasDictIn K C = true
  po : PySem.W.plainOver K C = true
  sa : PySem.W.findIn K (.ref C) "__setattr__" = some (some (.builtin "object.__setattr__"))
theorem Cls.get {K : PySem.W.Frag} {C : Addr} (c : Cls K C) (f : Str) : PySem.W.plainGet K C f = true := c.pg
/-- a constant of the class -/
structure Con (K : PySem.W.Frag) (C : Addr) (f : Str) (v : V) (u : Value) : Prop where
  at_ : PySem.W.findIn K (.ref C) f = some (some u)
  rel : RelV v u
  get : PySem.W.specialIn K u "__get__" = some none
  cp : PySem.W.copiedNames.contains f = false
/-- a method: a plain def of the class or of one above it -/
structure Meth (K : PySem.W.Frag) (C : Addr) (m : Str) (f : Addr) : Prop where
  at_ : PySem.W.findIn K (.ref C) m = some (some (.ref f))
  fn : PySem.W.isFn K (.ref f) = true
  kp : PySem.W.keepIn K (.ref f) = true

section
variable {X : Cx} {pins : List (Addr × Obj)} {σ : St} {H : Hp} {s : Shared} {a C dx : Addr} {fs : List (Str × V)} {f : Str} {v : V} {A : Around} {E : Value → Shared → Prop}

end

/-! ### readings and rules -/
section
variable {X : Cx} {o e value : Expr} {f : Str} {pos pos' tpos : Pos} {ta tv : TE}
end

/-! ### isinstance -/
section
variable {X : Cx} {pins : List (Addr × Obj)} {σ : St} {H : Hp} {s : Shared} {A : Around} {E : Value → Shared → Prop} {Q : Value → Shared → Prop} {c : Value} {b : Bool}
/-- the type of a value, as the fragment's deciders take it; for an instance its class -/
inductive TyOf (K : PySem.W.Frag) (H : Hp) : V → Value → Prop where
  | non : TyOf K H .non (.type "NoneType")
  | bl (x : Bool) : TyOf K H (.bl x) (.type "bool")
  | int (i : Int) : TyOf K H (.int i) (.type "int")
  | str (x : Str) : TyOf K H (.str x) (.type "str")
  | flt (x : UInt64) : TyOf K H (.flt x) (.type "float")
  | lst {a : Addr} {xs : List V} (e : H a = some (.lst xs)) : TyOf K H (.ref a) (.type "list")
  | frz {a : Addr} {o : Obj} {xs : List V} (e : H a = some (.frz o (.lst xs))) : TyOf K H (.ref a) (.type "list")
  | tup {a : Addr} {xs : List V} (e : H a = some (.tup xs)) : TyOf K H (.ref a) (.type "tuple")
  | dK {a : Addr} {kvs : List (Key × V)} (e : H a = some (.dK kvs)) : TyOf K H (.ref a) (.type "dict")
  | dT {a : Addr} {kvs : List (List Key × V)} (e : H a = some (.dT kvs)) : TyOf K H (.ref a) (.type "dict")
  | ins {a C dx : Addr} {fs : List (Str × V)} (e : H a = some (.ins C dx fs)) (cl : Cls K C) (ha : PySem.W.findIn K (.ref C) "__class__" = some (some (.builtin "object.__class__")))
      (hn : PySem.W.specialIn K (.builtin "object.__class__") "__get__" = some (some (.builtin "getset_descriptor.__get__"))) (htk : PySem.W.takesIn K (.builtin "object.__class__") = some true)
      (hm : PySem.W.mroIn K C (.type "object") = some true) : TyOf K H (.ref a) (.ref C)
/-- isinstance(x, c) for one class c, a built-in or an own one: kitOne's answer -/
theorem isinst_ok {x : V} {u t : Value} (I : Inv X pins σ H s) (rx : RelV x u) (ty : TyOf X.K H x t) (e : PySem.W.kitOne X.K t c = some b) (h : ∀ tk, Q (.bool b) { s with toks := tk }) :
    wpAny (model X.prog X.w) A (call (.builtin "isinstance") [u, c]) Q E s := by
  cases ty with
  | non => cases (show u = Value.none from rx); exact PySem.W.kia_one PySem.W.kitx_none I.kIn True.intro e (fun z => nomatch z) h
  | bl y => cases (show u = Value.bool y from rx); exact PySem.W.kia_one PySem.W.kitx_bool I.kIn True.intro e (fun z => nomatch z) h
  | int i => obtain ⟨t, q⟩ := (show ∃ t, u = Value.int i t from rx); cases q; exact PySem.W.kia_one PySem.W.kitx_int I.kIn True.intro e (fun z => nomatch z) h
  | str y => obtain ⟨t, q⟩ := (show ∃ t, u = Value.str y t from rx); cases q; exact PySem.W.kia_one PySem.W.kitx_str I.kIn True.intro e (fun z => nomatch z) h
  | flt y => obtain ⟨t, q⟩ := (show ∃ t, u = Value.float y t from rx); cases q; exact PySem.W.kia_one PySem.W.kitx_float I.kIn True.intro e (fun z => nomatch z) h
  | @lst a xs ea =>
    cases (show u = Value.ref a from rx)
    obtain ⟨_, _, n, _, h1⟩ := (show ObjOk X.prog X.w H s.heap a (.lst xs) from I.hok a _ ea)
    exact PySem.W.kia_one PySem.W.kitx_list I.kIn ⟨_, h1, rfl⟩ e (fun z => nomatch z) h
  | @frz a ob xs ea =>
    cases (show u = Value.ref a from rx)
    obtain ⟨_, _, _, n, _, h1⟩ := (show ObjOk X.prog X.w H s.heap a (.frz ob (.lst xs)) from I.hok a _ ea)
    exact PySem.W.kia_one PySem.W.kitx_list I.kIn ⟨_, h1, rfl⟩ e (fun z => nomatch z) h
  | @tup a xs ea =>
    cases (show u = Value.ref a from rx)
    obtain ⟨_, _, _, p⟩ := (show ObjOk X.prog X.w H s.heap a (.tup xs) from I.hok a _ ea)
    obtain ⟨o, h1, h2, _⟩ := p
    exact PySem.W.kia_one PySem.W.kitx_tuple I.kIn ⟨o, h1, h2⟩ e (fun z => nomatch z) h
  | @dK a kvs ea =>
    cases (show u = Value.ref a from rx)
    obtain ⟨_, _, vs, _, p⟩ := (show ObjOk X.prog X.w H s.heap a (.dK kvs) from I.hok a _ ea)
    obtain ⟨o, es, ep, h1, h2, _⟩ := p
    exact PySem.W.kia_one PySem.W.kitx_dict I.kIn ⟨o, h1, h2.1⟩ e (fun z => nomatch z) h
  | @dT a kvs ea =>
    cases (show u = Value.ref a from rx)
    obtain ⟨_, _, xs, _, o, es, ep, h1, h2, _⟩ := (show ObjOk X.prog X.w H s.heap a (.dT kvs) from I.hok a _ ea)
    exact PySem.W.kia_one PySem.W.kitx_dict I.kIn ⟨o, h1, h2.1⟩ e (fun z => nomatch z) h
  | @ins a C dx fs ea cl ha hn htk hm =>
    cases (show u = Value.ref a from rx)
    obtain ⟨mA, O, _⟩ := ins_get I.hok ea
    obtain ⟨od, J, _⟩ := O.look
    exact PySem.W.kia_one (PySem.W.kitx_own (cl.get _) cl.hd ha hn htk hm) I.kIn J e (fun z => nomatch z) h
end
end L2

namespace L2
open PySem PySem.Spec PyProof.Rows

/-! ### room -/
structure Room (k : Nat) (A : Around) : Prop where
  hd : A.handled = none
  dp : A.depth + 3 * k + 5 < recursionLimit
  un : A.units + 16 * k + 200 < cLine
theorem Room.mono {j k : Nat} {A : Around} (r : Room k A) (h : j ≤ k) : Room j A := ⟨r.hd, by have := r.dp; omega, by have := r.un; omega⟩
theorem Room.deeper {k : Nat} {A : Around} (r : Room (k + 1) A) (env : Env) : Room k (A.deeper env) :=
  ⟨r.hd, by have := r.dp; show A.depth + 1 + 3 * k + 5 < _; omega, by have := r.un; show A.units + 3 + 16 * k + 200 < _; omega⟩
theorem Room.in1 {k : Nat} {A : Around} (r : Room (k + 1) A) : Room k A.in1 :=
  ⟨r.hd, by have := r.dp; show A.depth + 3 * k + 5 < _; omega, by have := r.un; show A.units + 1 + 16 * k + 200 < _; omega⟩
theorem make_depth {A : Around} {C : Addr} {us : List Value} {kw : List (Str × Value)} : (A.under (.builtin "type.__call__" ⟨.ref C :: us, kw⟩)).depth = A.depth + 1 := by
  first | rfl | simp [Around.under, Code.weight, Code.isCreation, Code.isGuard, Code.isCaller, Code.frames, Code.isFrame, guardIds]
theorem make_units {A : Around} {C : Addr} {us : List Value} {kw : List (Str × Value)} : (A.under (.builtin "type.__call__" ⟨.ref C :: us, kw⟩)).units = A.units + 1 := by
  first | rfl | simp [Around.under, Code.cUnits, Code.frames, Code.isFrame]
theorem Room.make {k : Nat} {A : Around} (r : Room (k + 1) A) (C : Addr) (us : List Value) (kw : List (Str × Value)) : Room k (A.under (.builtin "type.__call__" ⟨.ref C :: us, kw⟩)) :=
  ⟨r.hd, by have := r.dp; rw [make_depth]; omega, by have := r.un; rw [make_units]; omega⟩
theorem Room.depth {k : Nat} {A : Around} (r : Room k A) : A.depth < recursionLimit := by have := r.dp; omega
theorem Room.units {k : Nat} {A : Around} (r : Room k A) : A.units + 64 < cLine := by have := r.un; omega
/-! ### argument lists and displays -/
def tNil : TA := fun _ H Q => Q [] H
def tCons (ta : TE) (tr : TA) : TA := fun σ H Q => ta σ H fun x H1 => tr σ H1 fun xs H2 => Q (x :: xs) H2
section
variable {X : Cx} {e : Expr} {es : List Expr} {te : TE} {t : TA} {pos : Pos}
theorem pa_nil : PA X [] tNil := fun _ _ _ _ H Q I h => Calls.spliced_nil ⟨[], H, I, .nil, h⟩
theorem pa_cons (ha : PE X e te) (hr : PA X es t) (hs : starEach (e :: es) X.env = (false, eval e X.env) :: starEach es X.env := by rfl) : PA X (e :: es) (tCons te t) := by
  intro pos pins s σ H Q I h
  rw [hs]
  show wpAny _ _ (spliced ((false, eval e X.env) :: backTo pos (starEach es X.env))) _ _ s
  refine Calls.spliced_cons (thn (ha pins s σ H _ I h) fun u s1 ⟨x, H1, I1, r1, q1⟩ => ?_)
  exact thn (hr pos pins s1 σ H1 _ I1 q1) fun us s2 ⟨xs, H2, I2, r2, q2⟩ => ⟨x :: xs, H2, I2, .cons r1 r2, q2⟩

/-- a tuple, a list of written items -/
def tTup (t : TA) : TE := fun σ H Q => t σ H fun xs H1 => xs.length ≤ sizeLine ∧ ∀ p, H1 p = none → Q (.ref p) (upd H1 p (.tup xs))
def tLst (t : TA) : TE := fun σ H Q => t σ H fun xs H1 => xs.length ≤ sizeLine ∧ ∀ p, H1 p = none → Q (.ref p) (upd H1 p (.lst xs))
theorem pe_tup {x1} (h : PA X es t) : PE X (.Tuple es x1 pos) (tTup t) := by
  intro pins s σ H Q I hq
  refine wpAny_Tuple_spliced (thn (h pos pins s σ H _ I hq) fun us s1 ⟨xs, H1, I1, r, z, q⟩ => ⟨by rw [← r.length]; exact z, ?_⟩)
  have hf : H1 s1.heap.objs.size = none := I1.hok.fresh (Nat.le_refl _)
  refine ⟨.ref s1.heap.objs.size, upd H1 s1.heap.objs.size (.tup xs), I1.laid (t' := s1.toks) (fun b u e => Heap.get?_push_of_some _ e) (Nat.le_refl _) ?_, rfl, q _ hf⟩
  exact ⟨z, us, r, ⟨_, Heap.get?_push_size _ rfl, rfl, _, rfl⟩⟩
end

/-! ### what a def promises -/
/-- a def's promise: the bound arguments in the parameters' order, the heap, the wanted end, the wanted exception -/
abbrev Sp := List V → Hp → VK → XK → Prop
/-- how an exception lies behind a call (file 08 gives it): the callers' frames, abstract heap and state ahead of the call, the wish, the exception, the state -/
abbrev CXT := List Env → Hp → Shared → XK → Value → Shared → Prop

/-- the state at a call -/
structure Env0 (P : Program) (w : World) (K : PySem.W.Frag) (mg : Str → Option Value) (base : Heap) (A : Around) (outer : List Env) (s : Shared) (H : Hp) : Prop where
  frames : A.frames = some outer
  mod : Mod K mg base
  bs : ∀ b o, base.get? b = some o → s.heap.get? b = some o ∧ H b = none
  bsz : base.objs.size ≤ s.heap.objs.size
  funs : s.heap.FunFrames base outer
  frf : ∀ b ∈ frs outer, H b = none
  hok : HOk P w H s.heap
  bare : AllBare s.gens
/-- a call's end -/
def CE (outer : List Env) (P : Program) (w : World) (H : Hp) (s : Shared) (Q : VK) (u : Value) (s' : Shared) : Prop :=
  ∃ v H', s'.os = s.os ∧ AllBare s'.gens ∧ Un (frs outer) [] H H' s.heap s'.heap ∧ HOk P w H' s'.heap ∧ RelV v u ∧ Q v H'
def CR (CX : CXT) (outer : List Env) (P : Program) (w : World) (H : Hp) (s : Shared) (Q : VK) (E : XK) (r : Result) (s' : Shared) : Prop :=
  match r with
  | .ok (.ret u) => CE outer P w H s Q u s'
  | .ok _ => False
  | .error e => CX outer H s E e s'
structure FnOk (P : Program) (w : World) (K : PySem.W.Frag) (mg : Str → Option Value) (base : Heap) (CX : CXT) (k : Nat) (f : Addr) (fd : FuncData) (ps : List Str) (sp : Sp) : Prop where
  len : ∀ vs H Q E, sp vs H Q E → vs.length = ps.length
  run : ∀ (A : Around) (outer : List Env) (s : Shared) (H : Hp) (args : Args) (us : List Value) (vs : List V) (Q : VK) (E : XK), Room k A → Env0 P w K mg base A outer s H → BindsTo s fd args (ps.zip us) → Vals vs us → sp vs H Q E →
    codeAny (model P w) A (.call (.ref f) args) (CR CX outer P w H s Q E) s
theorem FnOk.mono {P : Program} {w : World} {K : PySem.W.Frag} {mg : Str → Option Value} {base : Heap} {CX : CXT} {j k : Nat} {f : Addr} {fd : FuncData} {ps : List Str} {sp : Sp} (F : FnOk P w K mg base CX j f fd ps sp) (h : j ≤ k) :
    FnOk P w K mg base CX k f fd ps sp := ⟨F.len, fun A outer s H args us vs Q E hr => F.run A outer s H args us vs Q E (hr.mono h)⟩
/-- a weaker promise -/
theorem FnOk.imp {P : Program} {w : World} {K : PySem.W.Frag} {mg : Str → Option Value} {base : Heap} {CX : CXT} {k : Nat} {f : Addr} {fd : FuncData} {ps : List Str} {sp sp' : Sp} (F : FnOk P w K mg base CX k f fd ps sp)
    (h : ∀ vs H Q E, sp' vs H Q E → sp vs H Q E) : FnOk P w K mg base CX k f fd ps sp' :=
  ⟨fun vs H Q E q => F.len vs H Q E (h _ _ _ _ q), fun A outer s H args us vs Q E hr he hb hv hs => F.run A outer s H args us vs Q E hr he hb hv (h _ _ _ _ hs)⟩

theorem Env0.make {P : Program} {w : World} {K : PySem.W.Frag} {mg : Str → Option Value} {base : Heap} {A : Around} {outer : List Env} {s : Shared} {H : Hp} (e : Env0 P w K mg base A outer s H) (C : Addr) (us : List Value) (kw : List (Str × Value)) :
    Env0 P w K mg base (A.under (.builtin "type.__call__" ⟨.ref C :: us, kw⟩)) outer s H := ⟨by first | exact e.frames | (simpa [Around.under, Code.envs, Code.isFrame, pushEnvs] using e.frames), e.mod, e.bs, e.bsz, e.funs, e.frf, e.hok, e.bare⟩
theorem Env0.in1 {P : Program} {w : World} {K : PySem.W.Frag} {mg : Str → Option Value} {base : Heap} {A : Around} {outer : List Env} {s : Shared} {H : Hp} (e : Env0 P w K mg base A outer s H) :
    Env0 P w K mg base A.in1 outer s H := ⟨e.frames, e.mod, e.bs, e.bsz, e.funs, e.frf, e.hok, e.bare⟩

section
variable {X : Cx} {pins : List (Addr × Obj)} {σ : St} {H : Hp} {s s' : Shared}
/-- from a body: what a callee wants -/
theorem Inv.env0 (I : Inv X pins σ H s) : Env0 X.prog X.w X.K X.mg X.base X.A X.stack s H :=
  ⟨I.ok.frames, I.ok.mod, I.bs, Nat.le_trans I.ok.bsz I.sz, I.stack, I.stkFree, I.hok, I.bare⟩
/-- behind a call -/
theorem Inv.after {Q : VK} {u : Value} (I : Inv X pins σ H s) (h : CE X.stack X.prog X.w H s Q u s') : EP X pins σ Q u s' := by
  obtain ⟨v, H', os, bare, un, hok, r, q⟩ := h
  obtain ⟨hh, g, d, t, os'⟩ := s'
  obtain rfl : os' = s.os := os
  exact ⟨v, H', I.call (h' := hh) (g' := g) (d' := d) (t' := t) (ch := []) un hok bare (fun b z => absurd z (by simp)), r, q⟩
end

/-! ### calls -/
/-- how the parameters are bound: us the positional arguments, kw the keywords' values by name, ds the defaults that fill up -/
def Binds (K : PySem.W.Frag) (fd : FuncData) (ps : List Str) (ds : List Value) : Prop :=
  ∀ (s : Shared) (us : List Value), K.In s.heap → (us ++ ds).length = ps.length → BindsTo s fd ⟨us, []⟩ (ps.zip (us ++ ds))
/-- every parameter is given -/
theorem Binds.all {K : PySem.W.Frag} {fd : FuncData} {ps : List Str} (h : ∀ us : List Value, us.length = ps.length → bindArgs fd ⟨us, []⟩ = pure (ps.zip us)) : Binds K fd ps [] := fun s us _ hl => by
  rw [List.append_nil] at hl ⊢
  exact .of_eq (h us hl)

section
variable {X : Cx} {CX : CXT} {k : Nat} {f C : Addr} {fd : FuncData} {ps : List Str} {sp : Sp} {dvs : List V} {ds : List Value} {E : XK} {x m : Str} {p pos apos : Pos} {e o : Expr} {es : List Expr} {ta : TE} {t : TA}

/-- what a class must have to be made -/
structure Mk (K : PySem.W.Frag) (C f : Addr) : Prop where
  makes : PySem.W.makesIn K C = true
  init : PySem.W.findIn K (.ref C) "__init__" = some (some (.ref f))
  fn : PySem.W.isFn K (.ref f) = true
  kp : PySem.W.keepIn K (.ref C) = true

end

/-! ### keywords -/
/-- the values of the keywords, from the left -/
def PK (X : Cx) (kws : List Keyword) (t : TA) : Prop :=
  ∀ (pos : Pos) (pins : List (Addr × Obj)) (s : Shared) (σ : St) (H : Hp) (Q : List V → Hp → Prop), Inv X pins σ H s → t σ H Q → wpAny (model X.prog X.w) X.A (evalAll ((backToKw pos (keywordEach kws X.env)).map (·.2))) (AP X pins σ Q) X.xe s
section
variable {X : Cx} {CX : CXT} {k : Nat} {f C : Addr} {fd : FuncData} {ps ks : List Str} {sp : Sp} {E : XK} {x m : Str} {p pos apos kpos : Pos} {e o : Expr} {es : List Expr} {kws : List Keyword} {te ta : TE} {t tk : TA} {nm : Option Str}
/-- how a call with keywords binds: g puts the positional values us and the keywords' values ws (names ks) in the parameters' order, defaults among them -/
structure KBinds (K : PySem.W.Frag) (fd : FuncData) (ps ks : List Str) (g : List Value → List Value → List Value) (gV : List V → List V → List V) : Prop where
  to : ∀ (s : Shared) (us ws : List Value), K.In s.heap → (g us ws).length = ps.length → BindsTo s fd ⟨us, ks.zip ws⟩ (ps.zip (g us ws))
  rel : ∀ {vs : List V} {us : List Value} {zs : List V} {ws : List Value}, Vals vs us → Vals zs ws → Vals (gV vs zs) (g us ws)
variable {g : List Value → List Value → List Value} {gV : List V → List V → List V}
end

/-! ### a def's body keeps its promise -/
/-- names: the parameters first -/
structure FnScope (N P : List Str) (sc : Scope) : Prop where
  kind : sc.kind = .function
  co : sc.isCoroutine = false
  gen : sc.isGenerator = false
  nd : N.Nodup
  pre : N.take P.length = P
  par : ∀ x ∈ P, sc.names.lookup x = some .local ∨ sc.names.lookup x = some .cell
  nofree : ∀ y ∈ sc.names, y.2 ≠ .free

theorem bindL_out {kindOf : Str → Option NameKind} {x : Str} : ∀ {binds : List (Str × Value)} {m : Str → Option Value}, (∀ v, (x, v) ∉ binds) → bindL kindOf binds m x = m x
  | [], _, _ => rfl
  | (n, v) :: r, m, h => by
    unfold bindL
    rw [bindL_out fun w hw => h w (List.mem_cons_of_mem _ hw)]
    split
    · have : x ≠ n := by rintro rfl; exact h v List.mem_cons_self
      simp [this]
    · rfl
theorem bindC_out {kindOf : Str → Option NameKind} {x : Str} : ∀ {binds : List (Str × Value)} {m : Str → Option Value}, (∀ v, (x, v) ∉ binds) → bindC kindOf binds m x = m x
  | [], _, _ => rfl
  | (n, v) :: r, m, h => by
    unfold bindC
    rw [bindC_out fun w hw => h w (List.mem_cons_of_mem _ hw)]
    split
    · rfl
    · have : x ≠ n := by rintro rfl; exact h v List.mem_cons_self
      simp [this]
theorem bindL_get {kindOf : Str → Option NameKind} {x : Str} {v : Value} : ∀ {P : List Str} {vs : List Value} {i : Nat} {m : Str → Option Value}, P.Nodup → P[i]? = some x → vs[i]? = some v → kindOf x = some .local →
    bindL kindOf (P.zip vs) m x = some v
  | [], _, _, _, _, h, _, _ => by simp at h
  | _ :: _, [], _, _, _, _, h, _ => by simp at h
  | p :: P, w :: vs, 0, m, nd, h1, h2, hk => by
    simp at h1 h2; subst h1; subst h2
    show bindL kindOf ((p, w) :: P.zip vs) m p = _
    unfold bindL
    rw [bindL_out fun v hv => (List.nodup_cons.mp nd).1 (List.of_mem_zip hv).1, if_pos hk]
    simp
  | p :: P, w :: vs, i + 1, m, nd, h1, h2, hk => by
    show bindL kindOf ((p, w) :: P.zip vs) m x = _
    unfold bindL
    exact bindL_get (i := i) (List.nodup_cons.mp nd).2 (by simpa using h1) (by simpa using h2) hk
theorem bindC_get {kindOf : Str → Option NameKind} {x : Str} {v : Value} : ∀ {P : List Str} {vs : List Value} {i : Nat} {m : Str → Option Value}, P.Nodup → P[i]? = some x → vs[i]? = some v → kindOf x ≠ some .local →
    bindC kindOf (P.zip vs) m x = some v
  | [], _, _, _, _, h, _, _ => by simp at h
  | _ :: _, [], _, _, _, _, h, _ => by simp at h
  | p :: P, w :: vs, 0, m, nd, h1, h2, hk => by
    simp at h1 h2; subst h1; subst h2
    show bindC kindOf ((p, w) :: P.zip vs) m p = _
    unfold bindC
    rw [bindC_out fun v hv => (List.nodup_cons.mp nd).1 (List.of_mem_zip hv).1, if_neg hk]
    simp
  | p :: P, w :: vs, i + 1, m, nd, h1, h2, hk => by
    show bindC kindOf ((p, w) :: P.zip vs) m x = _
    unfold bindC
    exact bindC_get (i := i) (List.nodup_cons.mp nd).2 (by simpa using h1) (by simpa using h2) hk

/-- the names' values at the entry -/
def start (N : List Str) (vs : List V) : St := vs.map some ++ List.replicate (N.length - vs.length) none

/-- the context of a def's body, at its entry; an exception leaves the frame, then lies as CX says -/
def cxOf (CX : CXT) (P : Program) (w : World) (K : PySem.W.Frag) (mg : Str → Option Value) (base : Heap) (N : List Str) (qual : Str) (scope : Scope) (f : Addr) (cd : Value) (A : Around) (outer : List Env) (s : Shared) (H : Hp) (E : XK) : Cx where
  prog := P
  w := w
  K := K
  mg := mg
  base := base
  A := A.deeper (envOfC qual scope s.heap.objs.size f cd)
  N := N
  s₀ := s
  H₀ := H
  env := envOfC qual scope s.heap.objs.size f cd
  outer := outer
  stack := envOfC qual scope s.heap.objs.size f cd :: outer
  ex := []
  calm := true
  fn := fun _ => true
  pn := []
  xe := fun e s' => wpAny (model P w) (A.deeper (envOfC qual scope s.heap.objs.size f cd)) (leaving (envOfC qual scope s.heap.objs.size f cd) e) (fun _ s'' => CX outer H s E e s'') (fun e' s'' => CX outer H s E e' s'') s'

theorem cell_has {sc : Scope} {n : Nat} {x : Str} (h : sc.names.lookup x = some .cell) : ∃ c, (cellsFrom n sc.names []).lookup x = some c := by
  have q := PySem.W.cellsFrom_some sc.names n [] (.inl h)
  exact Option.isSome_iff_exists.mp q

theorem inv_start {CX : CXT} {P : Program} {w : World} {K : PySem.W.Frag} {mg : Str → Option Value} {base : Heap} {N ps : List Str} {qual : Str} {scope : Scope} {f : Addr} {cd : Value} {A : Around} {outer : List Env} {s s1 : Shared} {H : Hp} {E : XK} {us : List Value} {vs : List V}
    (S : FnScope N ps scope) (hd : A.handled = none) (e0 : Env0 P w K mg base A outer s H) (hl : vs.length = ps.length) (r : Vals vs us)
    (x : InCallC s s.heap.objs.size (bindL (envOfC qual scope s.heap.objs.size f cd).kindOf (ps.zip us) fun _ => none) (cellsFrom (s.heap.objs.size + 1) scope.names []) (bindC (envOfC qual scope s.heap.objs.size f cd).kindOf (ps.zip us) fun _ => none) s1) :
    Inv (cxOf CX P w K mg base N qual scope f cd A outer s H E) [] (start N vs) H s1 := by
  have hpl : ps.length ≤ N.length := by have := congrArg List.length S.pre; rw [List.length_take] at this; omega
  obtain ⟨h1, tk, rfl, hk⟩ := x.done
  have noA : ∀ b : Addr, b ∉ (cxOf CX P w K mg base N qual scope f cd A outer s H E).ex := fun b z => absurd (show b ∈ ([] : List Addr) from z) (by simp)
  refine ⟨⟨e0.mod, S.kind, rfl, rfl, Nat.le_refl _, fun y z c h1 h2 => ?_, fun y hy => ?_, fun y c _ h => ?_, fun _ => hd, Around.frames_deeper e0.frames, .inr ⟨rfl, rfl⟩, fun b z => absurd z (noA b), e0.bs, e0.bsz, fun b _ _ => noA b, fun b z => absurd z (noA b), e0.funs, e0.frf⟩,
    rfl, e0.bare, Un.kept hk, ⟨_, x.toInCall.ns, fun i y v h1 h2 h3 => ?_⟩, fun y c h => ⟨_, x.cell y c h⟩, e0.hok.fresh (Nat.le_refl _), fun y c h => ?_, fun p hp => absurd (show p ∈ ([] : List (Addr × Obj)) from hp) (by simp), e0.hok.kept hk, ?_⟩
  · exact name_of_addr x.apart (PySem.mem_of_lookup h1) (PySem.mem_of_lookup h2)
  · have hy : scope.names.lookup y = some .cell ∨ scope.names.lookup y = some .free := hy
    rcases hy with hy | hy
    · exact cell_has hy
    · exact absurd rfl (S.nofree _ (PySem.mem_of_lookup hy))
  · exact Nat.le_of_lt (x.above y c (PySem.mem_of_lookup h))
  · have hi : i < vs.length := by
      unfold start at h2
      by_cases hi : i < vs.length
      · exact hi
      · rw [List.getElem?_append_right (by simpa using hi)] at h2
        rw [List.getElem?_replicate] at h2
        split at h2 <;> cases h2
    have ha : vs[i]? = some v := by
      unfold start at h2
      rw [List.getElem?_append_left (by simpa using hi), List.getElem?_map] at h2
      cases e : vs[i]? with
      | none => rw [e] at h2; cases h2
      | some a => rw [e] at h2; cases h2; rfl
    obtain ⟨u, hu, rv⟩ := r.get ha
    have hp : ps[i]? = some y := by
      rw [← S.pre, List.getElem?_take_of_lt (by omega)]; exact h1
    have ndP : ps.Nodup := by rw [← S.pre]; exact S.nd.sublist (List.take_sublist _ _)
    refine ⟨u, rv, ?_⟩
    rcases S.par y (List.mem_of_getElem? hp) with k | k
    · exact .inl ⟨k, bindL_get ndP hp hu k⟩
    · obtain ⟨c, e⟩ := cell_has (n := s.heap.objs.size + 1) k
      refine .inr ⟨.inl k, c, e, ?_⟩
      have q := x.cell y c e
      rw [bindC_get ndP hp hu (by show scope.names.lookup y ≠ _; rw [k]; decide)] at q
      exact q
  · exact e0.hok.fresh (Nat.le_of_lt (x.above y c (PySem.mem_of_lookup h)))
  · unfold start
    show _ = N.length
    rw [List.length_append, List.length_map, List.length_replicate]
    omega

/-- THE RULE: a def (or a method) of the text, by its body. The body's reading t is chosen for each entry; it is run at the parameters' values -/
theorem fn_of {CX : CXT} {P : Program} {w : World} {K : PySem.W.Frag} {mg : Str → Option Value} {base : Heap} {k : Nat} {f : Addr} {name qual : Str} {params : Arguments} {body : List Stmt} {scope : Scope} {dV kV doc pm cdv ct oc : Value} {an od : Option Addr}
    {osl : Array (Option Value)} {N ps : List Str} {sp : Sp} (lk : K.lookup f = some ⟨oc, od, .func (PySem.W.fnOf name qual params body scope dV kV doc pm an cdv ct), osl⟩) (hcd : PySem.W.codeIn K cdv qual = true) (S : FnScope N ps scope)
    (len : ∀ vs H Q E, sp vs H Q E → vs.length = ps.length)
    (hbody : ∀ (A : Around) (outer : List Env) (s : Shared) (H : Hp) (vs : List V) (Q : VK) (E : XK), Room k (A.deeper (envOfC qual scope s.heap.objs.size f cdv)) → sp vs H Q E →
      ∃ t, PSs (cxOf CX P w K mg base N qual scope f cdv A outer s H E) body t ∧ t { nx := fun _ H' => Q .non H', rt := Q } (start N vs) H) :
    FnOk P w K mg base CX (k + 1) f (PySem.W.fnOf name qual params body scope dV kV doc pm an cdv ct) ps sp := by
  refine ⟨len, fun A outer s H args us vs Q E hr e0 hb r hsp => ?_⟩
  have hl := len _ _ _ _ hsp
  have KX : K.In s.heap := e0.mod.kin.keeps fun b o e => (e0.bs b o e).1
  have lim : s.heap.NoLimit := e0.mod.nolimit.keeps fun b o e => (e0.bs b o e).1
  have hkind : ∀ y ∈ ps.zip us, scope.names.lookup y.1 = some .local ∨ (scope.names.lookup y.1 = some .cell ∧ ((cellsFrom (s.heap.objs.size + 1) scope.names []).lookup y.1).isSome = true) := fun ⟨n, v⟩ hy => by
    rcases S.par n (List.of_mem_zip hy).1 with q | q
    · exact .inl q
    · exact .inr ⟨q, PySem.W.cellsFrom_some _ _ _ (.inl q)⟩
  refine codeAny_call_function hr.depth (KX _ _ lk) rfl S.co S.gen rfl (PySem.W.codeRec_of KX hcd) (hb _ _ _ _ ?_)
  refine wpAny_newFunctionEnv_cells S.kind hkind fun env he s1 x => ?_
  subst he
  refine ⟨lim.keeps x.toInCall.keep, codeAny_func ?_⟩
  obtain ⟨t, ht, hq⟩ := hbody A outer s H vs Q E (hr.deeper _) hsp
  have I : Inv (cxOf CX P w K mg base N qual scope f cdv A outer s H E) [] (start N vs) H s1 := inv_start S hr.hd e0 hl r x
  refine wpAny_mono (ht [] s1 (start N vs) H _ I hq) (fun fl s' hs => ?_) fun e s' hs => hs
  have fin : ∀ {σ' : St} {H' : Hp} {v : V} {u : Value}, Inv (cxOf CX P w K mg base N qual scope f cdv A outer s H E) [] σ' H' s' → RelV v u → Q v H' → CE outer P w H s Q u s' :=
    fun {σ' H' v u} J rv q => ⟨v, H', J.os, J.bare, J.base, J.hok, rv, q⟩
  cases fl with
  | ret u =>
    obtain ⟨v, σ', H', J, rv, q⟩ := hs
    exact fin J rv q
  | next =>
    obtain ⟨σ', H', J, q⟩ := hs
    exact fin (v := V.non) (u := Value.none) J rfl q
  | brk =>
    obtain ⟨_, _, _, q⟩ := hs
    exact False.elim q
  | cont =>
    obtain ⟨_, _, _, q⟩ := hs
    exact False.elim q
end L2

namespace L2
open PySem PySem.Spec PyProof.Rows
section
variable {X : Cx} {x : Str} {p pos : Pos} {e : Expr} {es : List Expr} {t : TA} {id T : String} {r : List V → Hp → VK → Prop}

def tCB (r : List V → Hp → VK → Prop) (t : TA) : TE := fun σ H Q => t σ H fun vs H1 => r vs H1 Q
/-- f(e, ..), f a built-in function -/
theorem pe_callB (hc : CallR X (.builtin id) r) (hg : Gl X x) (hm : X.mg x = none) (hv : bootBuiltins x = some (.builtin id)) (ha : PA X (e :: es) t) (hn : x ≠ "__name__" := by decide) (hdb : (x == ("__debug__" : Str)) = false := by decide)
    (he : starEach (e :: es) X.env = (false, eval e X.env) :: starEach es X.env := by rfl) (hpl : (backTo pos (starEach es X.env)).any (·.1) = false := by rfl) : PE X (.Call (.Name x p) (e :: es) [] pos) (tCB r t) := by
  intro pins s σ H Q I h
  refine wpAny_Call_Name_kw (ld_blt I hg hm hv ?_ hn hdb)
  exact PyProof.Rows.callWith_builtin1 (thn (ha pos pins s σ H _ I h) fun us s1 ⟨vs, H1, I1, r1, q1⟩ => hc pins s1 σ H1 vs us Q I1 r1 q1) he hpl
/-- T(e, ..), T a built-in type -/
theorem pe_callTy (hc : CallR X (.type T) r) (hg : Gl X x) (hm : X.mg x = none) (hv : bootBuiltins x = some (.type T)) (ha : PA X (e :: es) t) (hn : x ≠ "__name__" := by decide) (hdb : (x == ("__debug__" : Str)) = false := by decide)
    (he : starEach (e :: es) X.env = (false, eval e X.env) :: starEach es X.env := by rfl) (hpl : (backTo pos (starEach es X.env)).any (·.1) = false := by rfl) : PE X (.Call (.Name x p) (e :: es) [] pos) (tCB r t) := by
  intro pins s σ H Q I h
  refine wpAny_Call_Name_kw (ld_blt I hg hm hv ?_ hn hdb)
  exact PyProof.Rows.callWith_type1 (thn (ha pos pins s σ H _ I h) fun us s1 ⟨vs, H1, I1, r1, q1⟩ => hc pins s1 σ H1 vs us Q I1 r1 q1) he hpl
end
end L2

namespace HT
open PySem PyProof.Rows

section
open PySem.SeqAt
open PySem.AutoSeq1 (wpAny_loadPart')
open PySem.MeetsSeq PySem.MeetsSeq2 PySem.MeetsSeq3

end

section
variable {prog : Program} {w : World} {A : Around} {E : Value → Shared → Prop} {s : Shared}

/-! ### t[a:b], not the whole -/
end
end HT

namespace L2
open PySem PySem.Spec PyProof.Rows

/-! ### the parts of a slice -/
abbrev TO := St → Hp → (Option Int → Hp → Prop) → Prop
/-- a slice's part (left out, or an int) -/
def PO (X : Cx) (e : Option Expr) (t : TO) : Prop :=
  ∀ (pins : List (Addr × Obj)) (s : Shared) (σ : St) (H : Hp) (Q : Option Int → Hp → Prop), Inv X pins σ H s → t σ H Q →
    wpAny (model X.prog X.w) X.A (evalPart e X.env) (fun u s' => ∃ o H', Inv X pins σ H' s' ∧ IsPart u o ∧ Q o H') X.xe s
def tNoPart : TO := fun _ H Q => Q none H
def tPart (t : TE) : TO := fun σ H Q => t σ H fun x H1 => ∃ i, x = .int i ∧ Q (some i) H1

section
variable {X : Cx} {e : Expr} {te : TE} {lo hi : Option Expr} {tl th : TO} {pos p2 : Pos}

/-- what a slice of a value is, by values: the slice object stands at sl -/
def SlR (X : Cx) (r : V → Option Int → Option Int → Hp → VK → Prop) : Prop :=
  ∀ (pins : List (Addr × Obj)) (s : Shared) (σ : St) (H : Hp) (x : V) (v vl vu : Value) (lo hi : Option Int) (sl : Addr) (Q : VK), Inv X pins σ H s → RelV x v → s.heap.IsSliceOf sl vl vu .none → IsPart vl lo → IsPart vu hi → r x lo hi H Q →
    ∃ T id, typeLookup (.type T) "__getitem__" = pure (some (.builtin id)) ∧ s.TypeIs v T ∧ wpAny (model X.prog X.w) X.A (getItem v (.ref sl)) (EP X pins σ Q) X.xe s
theorem SlR.or {r r' : V → Option Int → Option Int → Hp → VK → Prop} (h : SlR X r) (h' : SlR X r') : SlR X (fun x lo hi H Q => r x lo hi H Q ∨ r' x lo hi H Q) := by
  intro pins s σ H x v vl vu lo hi sl Q I rx hs pl pu q
  rcases q with q | q
  · exact h pins s σ H x v vl vu lo hi sl Q I rx hs pl pu q
  · exact h' pins s σ H x v vl vu lo hi sl Q I rx hs pl pu q
def tSl (r : V → Option Int → Option Int → Hp → VK → Prop) (te : TE) (tl th : TO) : TE := fun σ H Q => te σ H fun x H1 => tl σ H1 fun l H2 => th σ H2 fun u H3 => r x l u H3 Q
/-! ### t < u, t + u -/
end
end L2

namespace L2
open PySem PySem.Spec PyProof.Rows

/-! ### places -/
/-- the place that an index of any sign means -/
def ixN (n : Nat) (i : Int) : Option Nat := if 0 ≤ i then (if i < n then some i.toNat else none) else if -(n : Int) ≤ i then some (i + n).toNat else none
def atI {α : Type} (xs : List α) (i : Int) : Option α := (ixN xs.length i).bind fun j => xs[j]?
theorem ixN_seq {n : Nat} {i : Int} {j : Nat} (h : ixN n i = some j) : seqIndex? i n = some j ∧ j < n ∧ -(n : Int) ≤ i ∧ i < n := by
  unfold ixN at h
  by_cases h0 : 0 ≤ i
  · rw [if_pos h0] at h
    by_cases h1 : i < n
    · rw [if_pos h1] at h
      have e : i.toNat = j := Option.some.inj h
      exact ⟨by rw [seqIndex_of h0 h1, e], by omega, by omega, h1⟩
    · rw [if_neg h1] at h; cases h
  · rw [if_neg h0] at h
    by_cases h1 : -(n : Int) ≤ i
    · rw [if_pos h1] at h
      have e : (i + n).toNat = j := Option.some.inj h
      exact ⟨by rw [seqIndex_neg (by omega) h1, e], by omega, h1, by omega⟩
    · rw [if_neg h1] at h; cases h
theorem atI_get {α : Type} {xs : List α} {i : Int} {v : α} (h : atI xs i = some v) : ∃ j, seqIndex? i xs.length = some j ∧ xs[j]? = some v ∧ j < xs.length ∧ -(xs.length : Int) ≤ i ∧ i < xs.length := by
  unfold atI at h
  cases e : ixN xs.length i with
  | none => rw [e] at h; cases h
  | some j =>
    rw [e] at h
    obtain ⟨h1, h2, h3, h4⟩ := ixN_seq e
    exact ⟨j, h1, h, h2, h3, h4⟩
theorem atI_nat {α : Type} {xs : List α} {j : Nat} {v : α} (h : xs[j]? = some v) : atI xs (j : Int) = some v := by
  have hj : j < xs.length := (List.getElem?_eq_some_iff.mp h).1
  have e : ixN xs.length (j : Int) = some j := by
    unfold ixN
    rw [if_pos (by omega), if_pos (by omega)]; simp
  unfold atI; rw [e]; exact h
/-! ### what may be subscripted -/
/-- what stands as an index of a plain subscript -/
def PlainIx (b : Expr) : Prop := ∀ o i, subscripted b false o i = operate [o, i] (getItem o i)
/-- a subscript by values -/
def IxR (X : Cx) (r : R2) : Prop :=
  ∀ (value slice : Expr) (pins : List (Addr × Obj)) (s : Shared) (σ : St) (H : Hp) (x y : V) (v u : Value) (Q : VK), Inv X pins σ H s → RelV x v → RelV y u → r x y H Q →
    subscripted slice false v u = operate [v, u] (getItem v u) → wpAny (model X.prog X.w) X.A (subscriptTail value slice v u) (EP X pins σ Q) X.xe s
/-- a call of a builtin's method by values: the receiver, the arguments -/
def MtR (X : Cx) (id : String) (r : V → List V → Hp → VK → Prop) : Prop :=
  ∀ (pins : List (Addr × Obj)) (s : Shared) (σ : St) (H : Hp) (x : V) (xs : List V) (v : Value) (us : List Value) (Q : VK), Inv X pins σ H s → RelV x v → Vals xs us → r x xs H Q →
    wpAny (model X.prog X.w) X.A (call (.builtin id) (v :: us)) (EP X pins σ Q) X.xe s
section
variable {X : Cx} {a b : Expr} {ta tb : TE} {pos : Pos}
theorem IxR.or {r r' : R2} (h : IxR X r) (h' : IxR X r') : IxR X (fun x y H Q => r x y H Q ∨ r' x y H Q) := by
  intro value slice pins s σ H x y v u Q I rx ry q hs
  rcases q with q | q
  · exact h value slice pins s σ H x y v u Q I rx ry q hs
  · exact h' value slice pins s σ H x y v u Q I rx ry q hs
theorem MtR.or {id : String} {r r' : V → List V → Hp → VK → Prop} (h : MtR X id r) (h' : MtR X id r') : MtR X id (fun x xs H Q => r x xs H Q ∨ r' x xs H Q) := by
  intro pins s σ H x xs v us Q I rx rs q
  rcases q with q | q
  · exact h pins s σ H x xs v us Q I rx rs q
  · exact h' pins s σ H x xs v us Q I rx rs q
/-- a[b] -/
theorem pe_ix {r : R2} (hr : IxR X r) (ha : PE X a ta) (hb : PE X b tb) (hs : PlainIx b) : PE X (.Subscript a b pos) (tOp r ta tb) := by
  intro pins s σ H Q I h
  exact Subscript_ (binT ha hb I h fun v u s2 x y H2 I2 rx ry q => hr a b pins s2 σ H2 x y v u Q I2 rx ry q (hs _ _))

def rIxL (K : PySem.W.Frag) : R2 := fun x y H Q => ∃ p xs i v, x = .ref p ∧ y = .int i ∧ SqL K H p xs ∧ atI xs i = some v ∧ Q v H
def rIxT (K : PySem.W.Frag) : R2 := fun x y H Q => ∃ p xs i v, x = .ref p ∧ y = .int i ∧ SqT K H p xs ∧ atI xs i = some v ∧ Q v H
def rIxS : R2 := fun x y H Q => ∃ z i c, x = .str z ∧ y = .int i ∧ z.length ≤ sizeLine ∧ atI z.cps.toList i = some c ∧ Q (.str ⟨#[c]⟩) H
theorem ix_list : IxR X (rIxL X.K) := by
  intro value slice pins s σ H x y v u Q I rx ry h hs
  obtain ⟨p, xs, i, z, rfl, rfl, hq, he, q⟩ := h
  cases rx
  obtain ⟨t, rfl⟩ := ry
  obtain ⟨its, r, pl, hz⟩ := I.list hq
  obtain ⟨j, h1, h2, h3, h4, h5⟩ := atI_get he
  obtain ⟨w, ew, rw'⟩ := r.get h2
  have hl := r.length
  have hn := line63
  have fin : EP X pins σ Q w s := ⟨z, H, I, rw', q⟩
  by_cases h0 : 0 ≤ i
  · have hj : i.toNat = j := by
      rw [seqIndex_of h0 h5] at h1
      exact Option.some.inj h1
    exact item_listR pl.isList h0 (by omega) (by rw [hj]; simpa using ew) fin hs
  · have hj : (i + (its.toArray.size : Int)).toNat = j := by
      rw [seqIndex_neg (by omega) h4] at h1
      rw [List.size_toArray, ← hl]
      exact Option.some.inj h1
    exact subscriptTail_builtinR (x := w) pl.isList.typeIs slot_list_getitem.lookup
      (wpAny_getItem_list_neg (Q := fun r s' => r = w ∧ EP X pins σ Q r s') pl.isList (by omega) (by rw [List.size_toArray] <;> omega) (by omega) (by rw [hj]; simpa using ew) ⟨rfl, fin⟩) hs
theorem ix_tup : IxR X (rIxT X.K) := by
  intro value slice pins s σ H x y v u Q I rx ry h hs
  obtain ⟨p, xs, i, z, rfl, rfl, hq, he, q⟩ := h
  cases rx
  obtain ⟨t, rfl⟩ := ry
  obtain ⟨its, r, pl, hz⟩ := I.tuple hq
  obtain ⟨j, h1, h2, h3, h4, h5⟩ := atI_get he
  obtain ⟨w, ew, rw'⟩ := r.get h2
  have hl := r.length
  have hn := line63
  have fin : EP X pins σ Q w s := ⟨z, H, I, rw', q⟩
  exact subscriptTail_builtinR (x := w) pl.typeIs slot_tuple_getitem.lookup
    (getItem_tuple (j := j) (Q := fun r s' => r = w ∧ EP X pins σ Q r s') pl (by omega) (by omega) (by rw [List.size_toArray, ← hl]; exact h1) (by simpa using ew) ⟨rfl, fin⟩) hs
theorem ix_str : IxR X rIxS := by
  intro value slice pins s σ H x y v u Q I rx ry h hs
  obtain ⟨z, i, c, rfl, rfl, hz, he, q⟩ := h
  obtain ⟨t, rfl⟩ := rx
  obtain ⟨t', rfl⟩ := ry
  obtain ⟨j, h1, h2, h3, h4, h5⟩ := atI_get he
  have hl : z.cps.toList.length = z.length := by simp [Str.length]
  rw [hl] at h1 h4 h5
  have hn := line63
  exact tail_any (typeIs_str s z t) slot_str_getitem.lookup (getItem_str (c := c) (by
    have e1 : decide (i < -(2 ^ 63 : Int)) = false := decide_eq_false (by omega)
    have e2 : decide (i ≥ 2 ^ 63) = false := decide_eq_false (by omega)
    rw [e1, e2, Bool.or_false]) (by rw [h1]; simpa using h2) ⟨.str ⟨#[c]⟩, H, I.tok _, ⟨_, rfl⟩, q⟩) hs
/-- list, tuple or str -/
def rIx (K : PySem.W.Frag) : R2 := fun x y H Q => rIxL K x y H Q ∨ rIxT K x y H Q ∨ rIxS x y H Q
theorem ix_seq : IxR X (rIx X.K) := ix_list.or (ix_tup.or ix_str)

/-! ### xs[i] = v, any sign -/
/-- the list's object behind a store -/
theorem mapSeq_set (its : List Value) (n j : Nat) (u : Value) : Obj.mapSeq (·.setIfInBounds j u) { cls := .type "list", data := .seq its.toArray n } = { cls := .type "list", data := .seq (its.set j u).toArray n } := by
  simp [Obj.mapSeq]
theorem Inv.lst {pins : List (Addr × Obj)} {σ : St} {H : Hp} {s : Shared} {p : Addr} {xs : List V} (I : Inv X pins σ H s) (h : H p = some (.lst xs)) :
    ∃ (its : List Value) (n : Nat), Vals xs its ∧ s.heap.get? p = some { cls := .type "list", data := .seq its.toArray n } ∧ xs.length ≤ sizeLine := by
  obtain ⟨z, its, n, r, e⟩ := I.hok p _ h
  exact ⟨its, n, r, e, z⟩
/-- the list at p is written by an update of its object -/
theorem Inv.lstUpd {pins : List (Addr × Obj)} {σ : St} {H : Hp} {s : Shared} {p : Addr} {xs ys : List V} {its its' : List Value} {n n' : Nat} {f : Obj → Obj} (I : Inv X pins σ H s) (h : H p = some (.lst xs))
    (ho : s.heap.get? p = some { cls := .type "list", data := .seq its.toArray n }) (hf : f { cls := .type "list", data := .seq its.toArray n } = { cls := .type "list", data := .seq its'.toArray n' }) (r : Vals ys its') (hz : ys.length ≤ sizeLine) (t : Nat) :
    Inv X pins σ (upd H p (.lst ys)) { s with heap := s.heap.update p f, toks := t } := by
  have e : (s.heap.update p f).get? p = some { cls := .type "list", data := .seq its'.toArray n' } := by
    rw [Heap.get?_update_self f ho (by rw [hf] <;> rfl), hf]
  refine I.write (x := p) (e := p) (by rw [h]; trivial) (.inl rfl) (fun b u hb q => (Heap.get?_update_other _ _ (Ne.symm hb)).trans q) ⟨_, e⟩ ?_
  exact ⟨hz, its', n', r, e⟩
def rSetL : V → V → V → Hp → (Hp → Prop) → Prop := fun o i v H Q => ∃ p xs k j, o = .ref p ∧ i = .int k ∧ H p = some (.lst xs) ∧ ixN xs.length k = some j ∧ Q (upd H p (.lst (xs.set j v)))
theorem set_list : PSet X rSetL := by
  intro pins s σ H o i v ov iv u Q I ro ri rv h
  obtain ⟨p, xs, k, j, rfl, rfl, hp, hj, q⟩ := h
  cases ro
  obtain ⟨t, rfl⟩ := ri
  obtain ⟨its, n, r, ho, hz⟩ := I.lst hp
  obtain ⟨h1, h2, h3, h4⟩ := ixN_seq hj
  have hl := r.length
  have hn := line63
  have I' : Inv X pins σ (upd H p (.lst (xs.set j v))) { s with heap := s.heap.update p (Obj.mapSeq (·.setIfInBounds j u)) } :=
    I.lstUpd hp ho (mapSeq_set its n j u) (r.set rv j) (by rw [List.length_set]; exact hz) s.toks
  by_cases h0 : 0 ≤ k
  · have hk : k.toNat = j := by
      rw [seqIndex_of h0 h4] at h1
      exact Option.some.inj h1
    exact PySem.W.ki_setAt ho h0 (by omega) (by rw [List.size_toArray, ← hl]; exact h4) (by rw [hk]; exact ⟨_, I', q⟩)
  · have hk : (k + (its.toArray.size : Int)).toNat = j := by
      rw [seqIndex_neg (by omega) h3] at h1
      rw [List.size_toArray, ← hl]
      exact Option.some.inj h1
    exact PySem.W.ki_setBack ho (by omega) (by rw [List.size_toArray, ← hl]; exact h3) (by omega) (by rw [hk]; exact ⟨_, I', q⟩)

/-! ### slices -/
/-! ### in, not in: flat items -/
def flatV : V → Bool
  | .non => true
  | .bl _ => true
  | .int _ => true
  | .str _ => true
  | _ => false
/-- == of flat values -/
def eqV : V → V → Bool
  | .non, .non => true
  | .bl a, .bl b => a == b
  | .bl a, .int b => (if a then 1 else 0) == b
  | .int a, .bl b => a == (if b then 1 else 0)
  | .int a, .int b => a == b
  | .str a, .str b => a == b
  | _, _ => false
theorem eqAt_V {A : Around} {s : Shared} {y x : V} {u v : Value} (ry : RelV y u) (rx : RelV x v) (fy : flatV y = true) (fx : flatV x = true) : SeqAt.EqAt A s u v (eqV y x) := by
  cases y with
  | non =>
    cases ry
    cases x with
    | non => cases rx; exact SeqAt.EqAt.same _
    | bl b => cases rx; exact SeqAt.EqAt.none_bool b
    | int b => obtain ⟨t, rfl⟩ := rx; exact SeqAt.EqAt.none_int b t
    | str b => obtain ⟨t, rfl⟩ := rx; exact SeqAt.EqAt.none_str b t
    | _ => exact absurd (show false = true from fx) Bool.false_ne_true
  | bl a =>
    cases ry
    cases x with
    | non => cases rx; exact SeqAt.EqAt.bool_none a
    | bl b => cases rx; exact SeqAt.EqAt.bool_bool a b
    | int b => obtain ⟨t, rfl⟩ := rx; exact SeqAt.EqAt.bool_int a b t
    | str b => obtain ⟨t, rfl⟩ := rx; exact SeqAt.EqAt.bool_str a b t
    | _ => exact absurd (show false = true from fx) Bool.false_ne_true
  | int a =>
    obtain ⟨t', rfl⟩ := ry
    cases x with
    | non => cases rx; exact SeqAt.EqAt.int_none a t'
    | bl b => cases rx; exact SeqAt.EqAt.int_bool a t' b
    | int b => obtain ⟨t, rfl⟩ := rx; exact SeqAt.EqAt.int_int a t' b t
    | str b => obtain ⟨t, rfl⟩ := rx; exact SeqAt.EqAt.int_str a t' b t
    | _ => exact absurd (show false = true from fx) Bool.false_ne_true
  | str a =>
    obtain ⟨t', rfl⟩ := ry
    cases x with
    | non => cases rx; exact SeqAt.EqAt.str_none a t'
    | bl b => cases rx; exact SeqAt.EqAt.str_bool a t' b
    | int b => obtain ⟨t, rfl⟩ := rx; exact SeqAt.EqAt.str_int a t' b t
    | str b => obtain ⟨t, rfl⟩ := rx; exact SeqAt.EqAt.str_str a t' b t
    | _ => exact absurd (show false = true from fx) Bool.false_ne_true
  | _ => exact absurd (show false = true from fy) Bool.false_ne_true
/-- the items' answers, read off the values (a value's own answer does not lean on its token) -/
def eqU (x : V) (u : Value) : Bool := match u with
  | .none => eqV .non x
  | .bool b => eqV (.bl b) x
  | .int i _ => eqV (.int i) x
  | .str z _ => eqV (.str z) x
  | _ => false
theorem eqU_of {x y : V} {u : Value} (r : RelV y u) (f : flatV y = true) : eqU x u = eqV y x := by
  cases y with
  | non => cases r; rfl
  | bl b => cases r; rfl
  | int i => obtain ⟨t, rfl⟩ := r; rfl
  | str z => obtain ⟨t, rfl⟩ := r; rfl
  | _ => exact absurd (show false = true from f) Bool.false_ne_true
theorem any_eqU {x : V} : ∀ {xs : List V} {us : List Value}, Vals xs us → xs.all flatV = true → us.any (eqU x) = xs.any fun y => eqV y x
  | _, _, .nil, _ => rfl
  | y :: xs, u :: us, .cons r t, f => by
    rw [List.all_cons, Bool.and_eq_true] at f
    rw [List.any_cons, List.any_cons, eqU_of r f.1, any_eqU t f.2]
theorem mem_eqAt {A : Around} {s : Shared} {x : V} {v : Value} (rx : RelV x v) (fx : flatV x = true) : ∀ {xs : List V} {us : List Value}, Vals xs us → xs.all flatV = true → ∀ u ∈ us, SeqAt.EqAt A s u v (eqU x u)
  | _, _, .nil, _ => fun u hu => by cases hu
  | y :: xs, u :: us, .cons r t, f => fun u' hu => by
    rw [List.all_cons, Bool.and_eq_true] at f
    rcases List.mem_cons.mp hu with rfl | hu
    · rw [eqU_of r f.1]; exact eqAt_V r rx f.1 fx
    · exact mem_eqAt rx fx t f.2 u' hu
def inV (x : V) (xs : List V) : Bool := xs.any fun y => eqV y x
/-- x in a list or tuple of flat items -/
def rIn (K : PySem.W.Frag) (neg : Bool) : R2 := fun x y H Q => ∃ p xs, y = .ref p ∧ (SqL K H p xs ∨ SqT K H p xs) ∧ flatV x = true ∧ xs.all flatV = true ∧ Q (.bl (if neg then !inV x xs else inV x xs)) H
theorem op_in_seq : OpR X (compareOp .In) (rIn X.K false) := by
  intro pins s σ H x y v u Q I rx ry h
  obtain ⟨p, xs, rfl, hq, fx, fs, q⟩ := h
  cases ry
  rcases hq with hq | hq
  · obtain ⟨its, r, pl, hz⟩ := I.list hq
    refine SeqAt.in_listAt (eqU x) pl.isList (fun w hw => mem_eqAt rx fx r fs w (by simpa using hw)) ⟨.bl _, H, I, rfl, ?_⟩
    rw [show its.toArray.any (eqU x) = its.any (eqU x) by simp, any_eqU r fs]
    exact q
  · obtain ⟨its, r, pl, hz⟩ := I.tuple hq
    refine SeqAt.in_tupleAt (eqU x) pl (fun w hw => mem_eqAt rx fx r fs w (by simpa using hw)) ⟨.bl _, H, I, rfl, ?_⟩
    rw [show its.toArray.any (eqU x) = its.any (eqU x) by simp, any_eqU r fs]
    exact q
theorem op_notIn_seq : OpR X (compareOp .NotIn) (rIn X.K true) := by
  intro pins s σ H x y v u Q I rx ry h
  obtain ⟨p, xs, rfl, hq, fx, fs, q⟩ := h
  cases ry
  rcases hq with hq | hq
  · obtain ⟨its, r, pl, hz⟩ := I.list hq
    refine SeqAt.notIn_listAt (eqU x) pl.isList (fun w hw => mem_eqAt rx fx r fs w (by simpa using hw)) ⟨.bl _, H, I, rfl, ?_⟩
    rw [show its.toArray.any (eqU x) = its.any (eqU x) by simp, any_eqU r fs]
    exact q
  · obtain ⟨its, r, pl, hz⟩ := I.tuple hq
    refine SeqAt.notIn_tupleAt (eqU x) pl (fun w hw => mem_eqAt rx fx r fs w (by simpa using hw)) ⟨.bl _, H, I, rfl, ?_⟩
    rw [show its.toArray.any (eqU x) = its.any (eqU x) by simp, any_eqU r fs]
    exact q
/-! ### len, list(x), tuple(x) of any list or tuple that is read -/
theorem call_len_seq : CallR X (.builtin "len") (fun xs H Q => ∃ p ys, xs = [.ref p] ∧ (SqL X.K H p ys ∨ SqT X.K H p ys) ∧ Q (.int ys.length) H) := by
  intro pins s σ H xs us Q I r h
  obtain ⟨p, ys, rfl, hq, q⟩ := h
  obtain ⟨u, rfl, rx⟩ := vals1 r
  cases rx
  have hn := line63
  rcases hq with hq | hq
  · obtain ⟨its, r', pl, hz⟩ := I.list hq
    have hlen := r'.length
    exact Calls.call_len_list pl.isList (by simp only [List.size_toArray] <;> omega) ⟨.int ys.length, H, I.tok _, ⟨s.toks + 1, by rw [List.size_toArray, hlen]⟩, q⟩
  · obtain ⟨its, r', pl, hz⟩ := I.tuple hq
    have hlen := r'.length
    exact len_tuple pl (by simp only [List.size_toArray] <;> omega) ⟨.int ys.length, H, I.tok _, ⟨s.toks + 1, by rw [List.size_toArray, hlen]⟩, q⟩
theorem CallR.or {f : Value} {r r' : List V → Hp → VK → Prop} (h : CallR X f r) (h' : CallR X f r') : CallR X f (fun xs H Q => r xs H Q ∨ r' xs H Q) := by
  intro pins s σ H xs us Q I rs q
  rcases q with q | q
  · exact h pins s σ H xs us Q I rs q
  · exact h' pins s σ H xs us Q I rs q
theorem call_list_of : CallR X (.type "list") (fun xs H Q => ∃ p ys, xs = [.ref p] ∧ (SqL X.K H p ys ∨ SqT X.K H p ys) ∧ ∀ l, H l = none → Q (.ref l) (upd H l (.lst ys))) := by
  intro pins s σ H xs us Q I r h
  obtain ⟨p, ys, rfl, hq, q⟩ := h
  obtain ⟨u, rfl, rx⟩ := vals1 r
  cases rx
  have fin : ∀ (its : List Value), Vals ys its → ys.length ≤ sizeLine → ∀ (h' : Heap) (c' : Nat), (∀ b o', s.heap.get? b = some o' → h'.get? b = some o') →
      h'.get? s.heap.objs.size = some { cls := .type "list", dict := none, data := .seq its.toArray c', slots := #[] } → EP X pins σ Q (.ref s.heap.objs.size) { s with heap := h' } := fun its r' hz h' c' kp e =>
    ⟨.ref s.heap.objs.size, _, I.laid (t' := s.toks) kp (Nat.le_refl _) (show ObjOk X.prog X.w _ h' _ (.lst ys) from ⟨hz, its, c', r', e⟩), rfl, q _ (I.hok.fresh (Nat.le_refl _))⟩
  rcases hq with hq | hq
  · obtain ⟨its, r', pl, hz⟩ := I.list hq
    have hlen := r'.length
    obtain ⟨o, ho, hc, n, hd⟩ := pl.isList
    exact call_list_seq p (.inl rfl) ho hc hd (fun h' c' kp e => fin its r' hz h' c' kp e) (by simp only [List.size_toArray] <;> omega)
  · obtain ⟨its, r', pl, hz⟩ := I.tuple hq
    have hlen := r'.length
    obtain ⟨o, ho, hc, n, hd⟩ := pl
    exact call_list_seq p (.inr rfl) ho hc hd (fun h' c' kp e => fin its r' hz h' c' kp e) (by simp only [List.size_toArray] <;> omega)
/-! ### the call of a builtin's method: o.m(..) -/
/-- the value is of that builtin type -/
def tyV (K : PySem.W.Frag) (T : String) (x : V) (H : Hp) : Prop := match x with
  | .str _ => T = "str"
  | .int _ => T = "int"
  | .ref p => (T = "list" ∧ ∃ xs, SqL K H p xs) ∨ (T = "tuple" ∧ ∃ o, K.lookup p = some o ∧ o.cls = .type "tuple" ∧ o.dict = none) ∨
      (T = "dict" ∧ ((∃ kvs, H p = some (.dK kvs)) ∨ ∃ kvs, H p = some (.dT kvs))) ∨ (T = "set" ∧ ∃ S n, H p = some (.set S n))
  | _ => False
theorem tyV_is {pins : List (Addr × Obj)} {σ : St} {H : Hp} {s : Shared} {T : String} {x : V} {v : Value} (I : Inv X pins σ H s) (r : RelV x v) (ty : tyV X.K T x H) :
    s.TypeIs v T ∧ ∀ a, v = .ref a → ∃ ob, s.heap.get? a = some ob ∧ ob.dict = none := by
  cases x with
  | str z =>
    obtain ⟨t, rfl⟩ := r
    cases (show T = "str" from ty)
    exact ⟨typeIs_str s z t, fun _ e => nomatch e⟩
  | int i =>
    obtain ⟨t, rfl⟩ := r
    cases (show T = "int" from ty)
    exact ⟨typeIs_int s i t, fun _ e => nomatch e⟩
  | ref p =>
    cases r
    rcases ty with ⟨rfl, xs, hq⟩ | ⟨rfl, o, hk, hc, hd⟩ | ⟨rfl, hk⟩ | ⟨rfl, S, n, hk⟩
    · obtain ⟨its, _, pl, _⟩ := I.list hq
      refine ⟨pl.isList.typeIs, fun a e => ?_⟩
      cases e
      obtain ⟨o, n, e, c, hd, _⟩ := pl
      exact ⟨o, e, hd⟩
    · refine ⟨⟨o, I.kIn p o hk, hc⟩, fun a e => ?_⟩
      cases e
      exact ⟨o, I.kIn _ o hk, hd⟩
    · have z : ∃ o, s.heap.get? p = some o ∧ o.ExactDict := by
        rcases hk with ⟨kvs, hk⟩ | ⟨kvs, hk⟩
        · obtain ⟨_, _, _, _, o, _, _, e, ex, _⟩ := I.hok p _ hk
          exact ⟨o, e, ex⟩
        · obtain ⟨_, _, _, _, o, _, _, e, ex, _⟩ := I.hok p _ hk
          exact ⟨o, e, ex⟩
      obtain ⟨o, e, ex⟩ := z
      refine ⟨⟨o, e, ex.1⟩, fun a e2 => ?_⟩
      cases e2
      exact ⟨o, e, ex.2.1⟩
    · obtain ⟨o, _, _, _, e, ex, _⟩ := I.hok p _ hk
      refine ⟨⟨o, e, ex.1⟩, fun a e2 => ?_⟩
      cases e2
      exact ⟨o, e, ex.2.1⟩
  | _ => exact False.elim ty
def tBM0 (K : PySem.W.Frag) (T : String) (r : V → List V → Hp → VK → Prop) (to : TE) : TE := fun σ H Q => to σ H fun x H1 => tyV K T x H1 ∧ r x [] H1 Q
def tBM (K : PySem.W.Frag) (T : String) (r : V → List V → Hp → VK → Prop) (to : TE) (t : TA) : TE := fun σ H Q => to σ H fun x H1 => tyV K T x H1 ∧ t σ H1 fun xs H2 => r x xs H2 Q
variable {o e : Expr} {es : List Expr} {to : TE} {t : TA} {name : Str} {apos cpos : Pos} {T id : String} {r : V → List V → Hp → VK → Prop}
theorem pe_bm0 (pa : PlainAttrs T) (slot : Slot T name id) (hty : typeOf (.builtin id) = pure (.type "method_descriptor")) (hm : MtR X id r) (ho : PE X o to)
    (hbase : attributeBase o name X.env (eval o X.env) = eval o X.env := by rfl) (hline : (apos.endLine == cpos.line) = true := by rfl) : PE X (.Call (.Attribute o name apos) [] [] cpos) (tBM0 X.K T r to) := by
  intro pins s σ H Q I h
  refine wpAny_Call_method0_late hbase hline (thn (ho pins s σ H _ I h) fun v s1 ⟨x, H1, I1, r1, ty, q1⟩ => ?_)
  obtain ⟨h1, h2⟩ := tyV_is I1 r1 ty
  exact ⟨T, id, pa, slot, hty, h1, h2, Calls.callWith_builtin rfl (PySem.evalArgs_none (hm pins s1 σ H1 x [] v [] Q I1 r1 .nil q1))⟩
theorem pe_bm (pa : PlainAttrs T) (slot : Slot T name id) (hty : typeOf (.builtin id) = pure (.type "method_descriptor")) (hm : MtR X id r) (ho : PE X o to) (ha : PA X (e :: es) t)
    (hbase : attributeBase o name X.env (eval o X.env) = eval o X.env := by rfl)
    (hfew : ((backTo cpos (starEach (e :: es) X.env)).all (fun x => !x.1) && (backToKw cpos (keywordEach [] X.env)).all (fun x => x.1.isSome)
      && decide ((e :: es).length + ([] : List Keyword).length + (if ([] : List Keyword).isEmpty then 0 else 1) < 30)) = true := by rfl)
    (hline : (apos.endLine == cpos.line) = true := by rfl) (hs : starEach (e :: es) X.env = (false, eval e X.env) :: starEach es X.env := by rfl) (hplain : (backTo cpos (starEach es X.env)).any (·.1) = false := by rfl) :
    PE X (.Call (.Attribute o name apos) (e :: es) [] cpos) (tBM X.K T r to t) := by
  intro pins s σ H Q I h
  refine wpAny_Call_method_late hbase hfew hline rfl (thn (ho pins s σ H _ I h) fun v s1 ⟨x, H1, I1, r1, ty, q1⟩ => ?_)
  obtain ⟨h1, h2⟩ := tyV_is I1 r1 ty
  refine ⟨T, id, pa, slot, hty, h1, h2, ?_⟩
  have hA := ha cpos pins s1 σ H1 _ I1 q1
  rw [hs] at hA ⊢
  refine Calls.callWith_builtin (by show (false || (backTo cpos (starEach es X.env)).any (·.1)) = false; rw [hplain] <;> rfl) (Calls.evalArgs_plain ?_)
  exact thn hA fun us s2 ⟨vs, H2, I2, r2, q2⟩ => hm pins s2 σ H2 x vs v us Q I2 r1 r2 q2
/- xs.append(e), list.index on a module's tuple .. are MtR facts of 06m -/
end
end L2

namespace L2
open PySem PySem.Spec PyProof.Rows

def MtM (X : Cx) (id : String) (r : V → List V → Hp → VK → Prop) : Prop :=
  ∀ (pins : List (Addr × Obj)) (s : Shared) (σ : St) (H : Hp) (x : V) (xs : List V) (v : Value) (us : List Value) (Q : VK), Inv X pins σ H s → RelV x v → Vals xs us → r x xs H Q →
    wpAny (model X.prog X.w) X.A (call (.builtin id) (v :: us)) (EP X pins σ Q) X.xe s

/-! ### lists of values -/
theorem Vals.one : ∀ {x : V} {us : List Value}, Vals [x] us → ∃ u, us = [u] ∧ RelV x u
  | _, _, .cons r .nil => ⟨_, rfl, r⟩
theorem Vals.zero : ∀ {us : List Value}, Vals [] us → us = []
  | _, .nil => rfl
theorem Vals.eraseIdx : ∀ {xs : List V} {us : List Value} (i : Nat), Vals xs us → Vals (xs.eraseIdx i) (us.eraseIdx i)
  | _, _, _, .nil => .nil
  | _, _, 0, .cons _ t => t
  | _, _, i + 1, .cons r t => .cons r (Vals.eraseIdx i t)
theorem Vals.reverse {xs : List V} {us : List Value} (h : Vals xs us) : Vals xs.reverse us.reverse := by
  induction h with
  | nil => exact .nil
  | cons r t ih => rw [List.reverse_cons, List.reverse_cons]; exact Vals.append ih (.cons r .nil)
section
variable {X : Cx} {pins : List (Addr × Obj)} {σ : St} {H : Hp} {s : Shared} {l b : Addr} {xs ys zs : List V}

/-! ### the two steps: a tracked list is rewritten, a new list is laid -/
theorem Inv.lset {its its' : List Value} {n : Nat} {f : Array Value → Array Value} {t' : Nat} (I : Inv X pins σ H s) (hH : H l = some (.lst xs))
    (e : s.heap.get? l = some { cls := .type "list", data := .seq its.toArray n }) (hf : f its.toArray = its'.toArray) (hv : Vals ys its') (hz : ys.length ≤ sizeLine) :
    Inv X pins σ (upd H l (.lst ys)) { s with heap := s.heap.update l (Obj.mapSeq f), toks := t' } := by
  have q := PySem.IsL.update e f
  rw [hf] at q
  refine I.write (x := l) (e := l) (by rw [hH]; exact trivial) (.inl rfl) (fun b' u hb hu => (Heap.get?_update_other s.heap (Obj.mapSeq f) (Ne.symm hb)).trans hu) ⟨_, q⟩ ?_
  exact ⟨hz, its', _, hv, q⟩
theorem Inv.lnew {its : List Value} {t' : Nat} (I : Inv X pins σ H s) (hv : Vals ys its) (hz : ys.length ≤ sizeLine) :
    Inv X pins σ (upd H s.heap.objs.size (.lst ys)) { s with heap := s.heap.push { cls := .type "list", data := .seq its.toArray }, toks := t' } :=
  I.laid (fun _ _ q => Heap.get?_push_of_some _ q) (Nat.le_refl _) ⟨hz, its, 0, hv, Heap.get?_push_size _ rfl⟩
theorem Inv.fresh (I : Inv X pins σ H s) : H s.heap.objs.size = none := I.hok.fresh (Nat.le_refl _)
theorem Inv.lstM (I : Inv X pins σ H s) (hH : H l = some (.lst xs)) : xs.length ≤ sizeLine ∧ ∃ (its : List Value) (n : Nat), Vals xs its ∧ xs.length = its.length ∧ s.heap.get? l = some { cls := .type "list", data := .seq its.toArray n } := by
  obtain ⟨z, its, n, r, e⟩ := I.hok l _ hH
  exact ⟨z, its, n, r, r.length, e⟩

theorem notLongL {n : Nat} (h : n ≤ sizeLine) : Builtin.List.listTooLong n = false := by
  unfold Builtin.List.listTooLong
  exact decide_eq_false (by omega)
end

section
variable {X : Cx}

/-! ### methods -/
def rAppend : V → List V → Hp → VK → Prop := fun x vs H Q => ∃ l xs y, x = .ref l ∧ vs = [y] ∧ H l = some (.lst xs) ∧ xs.length < sizeLine ∧ Q .non (upd H l (.lst (xs ++ [y])))
theorem mt_append : MtM X "list.append" rAppend := by
  intro pins s σ H x vs v us Q I rx rv h
  obtain ⟨l, xs, y, rfl, rfl, hH, hz, q⟩ := h
  cases rx
  obtain ⟨u, rfl, ru⟩ := rv.one
  obtain ⟨z, its, n, r, hl, e⟩ := I.lstM hH
  refine call_meets F.slot_list_append ⟨_, e, rfl⟩ F.entry_list_append (F.args_list_append_2 _ _) (PySem.list_append l its.toArray n u (by rw [List.size_toArray]; omega)) ⟨e, ?_⟩
  refine ⟨.non, _, I.lset (its' := its ++ [u]) hH e (by simp) (r.append (.cons ru .nil)) ?_, rfl, q⟩
  rw [List.length_append, List.length_singleton]
  omega

def rClear : V → List V → Hp → VK → Prop := fun x vs H Q => ∃ l xs, x = .ref l ∧ vs = [] ∧ H l = some (.lst xs) ∧ Q .non (upd H l (.lst []))
theorem mt_clear : MtM X "list.clear" rClear := by
  intro pins s σ H x vs v us Q I rx rv h
  obtain ⟨l, xs, rfl, rfl, hH, q⟩ := h
  cases rx
  have hus := rv.zero
  subst hus
  obtain ⟨z, its, n, r, hl, e⟩ := I.lstM hH
  refine call_meets F.slot_list_clear ⟨_, e, rfl⟩ F.entry_list_clear (F.args_list_clear_1 _) (AutoSeq1.list_clear_list_0 l its.toArray n (by rw [List.size_toArray]; omega)) ⟨e, ?_⟩
  exact ⟨.non, _, I.lset (its' := []) (ys := []) hH e rfl .nil (Nat.zero_le _), rfl, q⟩

/-! ### list + list, list += list, list * int -/
def rCat : R2 := fun x y H Q => ∃ l b xs zs, x = .ref l ∧ y = .ref b ∧ H l = some (.lst xs) ∧ H b = some (.lst zs) ∧ xs.length + zs.length ≤ sizeLine ∧ ∀ p, H p = none → Q (.ref p) (upd H p (.lst (xs ++ zs)))
theorem op_cat : OpR X (binaryOp .Add) rCat := by
  intro pins s σ H x y v u Q I rx ry h
  obtain ⟨l, b, xs, zs, rfl, rfl, hH, hB, hz, q⟩ := h
  cases rx
  cases ry
  obtain ⟨z, its, n, r, hl, e⟩ := I.lstM hH
  obtain ⟨z2, its2, n2, r2, hl2, e2⟩ := I.lstM hB
  refine PySem.P.add_list e e2 ?_ (by rw [List.size_toArray, List.size_toArray]; omega)
  have ea : its.toArray ++ its2.toArray = (its ++ its2).toArray := by simp
  rw [ea]
  exact ⟨.ref _, _, I.lnew (t' := s.toks) (r.append r2) (by rw [List.length_append]; omega), rfl, q _ I.fresh⟩
/-! ### del xs[i] -/
end

/-! ### xs[a:b] = ys -/
section
variable {prog : Program} {w : World} {A : Around} {E : Value → Shared → Prop} {s : Shared}
theorem bounds_run {a c n : Nat} (hac : a ≤ c) (hc : c ≤ n) : sliceBounds (some (a : Int)) (some (c : Int)) none n = ((a : Int), (c : Int), 1) := by
  simp only [sliceBounds, Option.getD_none]
  have h1 : ¬ ((a : Int) < 0) := by omega
  have h2 : ¬ ((c : Int) < 0) := by omega
  simp only [h1, h2, if_false, show (1 : Int) > 0 by decide, if_true]
  congr 1
  · omega
  · congr 1; omega
set_option maxRecDepth 100000 in
/-- list.__setitem__ with a slice of step one and another list -/
theorem setItem_slice {l b sl : Addr} {items new : Array Value} {n n2 : Nat} {vl vu : Value} {a c : Nat} {Q : Unit → Shared → Prop}
    (e : s.heap.get? l = some { cls := .type "list", data := .seq items n }) (e2 : s.heap.get? b = some { cls := .type "list", data := .seq new n2 }) (hne : l ≠ b)
    (hs : s.heap.IsSliceOf sl vl vu .none) (pl : IsPart vl (some (a : Int))) (pu : IsPart vu (some (c : Int))) (hac : a ≤ c) (hc : c ≤ items.size)
    (hsz : items.size + new.size ≤ sizeLine) (h : Q () { s with heap := s.heap.update l (Obj.mapSeq fun xs => xs.extract 0 a ++ new ++ xs.extract c xs.size) }) :
    wpAny (model prog w) A (setItem (.ref l) (.ref sl) (.ref b)) Q E s := by
  have hl : s.heap.IsList l items := PySem.IsL.isList e
  have hb : s.heap.IsList b new := PySem.IsL.isList e2
  obtain ⟨os, hos, hcs, hds⟩ := id hs
  have hTs : s.TypeIs (.ref sl) "slice" := ⟨os, hos, hcs⟩
  have hstep : ¬ ((rawPart none == rawInt 0) = true) := Bool.false_ne_true
  have hsame : Builtin.List.listSameRef (.ref l) (.ref b) = false := by
    unfold Builtin.List.listSameRef
    exact beq_eq_false_iff_ne.mpr hne
  have hmax : (max (a : Int) (c : Int)).toNat = c := by omega
  have hz' : ((fun xs : Array Value => xs.extract 0 a ++ new ++ xs.extract c xs.size) items).size ≤ sizeLine + 1 := by
    simp only [Array.size_append, Array.size_extract]
    omega
  unfold setItem
  try with_reducible refine wpAny_holding ?_
  first | refine wpAny_bind (wpAny_pure ?_) | skip
  refine wpAny_bind (wpAny_sequenceKey hl.typeIs (by decide) ?_)
  refine wpAny_bind (wpAny_callSpecial?_slot (name := Str.ofString "__setitem__") hl.typeIs slot_list_setitem
    (wpAny_call_entry slot_list_setitem hl.typeIs entry_list_setitem ?_ (args_list_setitem _ _ _)))
  show wpAny _ _ (Builtin.List.listSubscript? (.ref sl) >>= _) _ _ s
  refine wpAny_bind ?_
  unfold Builtin.List.listSubscript?
  refine wpAny_bind (wpAny_specialOf hTs slice_no_index ?_)
  simp only [Option.isNone_none, if_true]
  refine wpAny_pure ?_
  show wpAny _ _ (typeOf (.ref sl) >>= _) _ _ s
  refine wpAny_bind (wpAny_typeOf hTs ?_)
  first
    | rw [if_neg (by decide)]
    | refine PySem.W.KFB.if_not (by decide) ?_
  rw [listSliceParts_eq]
  refine wpAny_bind (wpAny_bind (wpAny_field hos hds (x := .none) rfl (wpAny_bind (wpAny_listPart .none ?_))))
  rw [if_neg hstep]
  refine wpAny_bind (wpAny_field hos hds (x := vl) rfl (wpAny_bind (wpAny_listPart pl ?_)))
  refine wpAny_bind (wpAny_field hos hds (x := vu) rfl (wpAny_bind (wpAny_listPart pu (wpAny_pure ?_))))
  first
    | simp only [hsame, Bool.false_eq_true, if_false]
    | refine PySem.W.KFB.if_not hsame ?_
    | (dsimp only
       rw [if_neg (by rw [hsame]; exact Bool.false_ne_true)])
  refine wpAny_bind (m := Builtin.List.listAllItems (.ref b) "must assign iterable to extended slice") ?_
  unfold Builtin.List.listAllItems
  refine wpAny_bind (wpAny_typeOf hb.typeIs ?_)
  first
    | refine PySem.W.KFB.if_so (by decide) ?_
    | rw [if_pos (by decide)]
    | simp only [beq_self_eq_true, Bool.true_or, if_true]
  unfold Builtin.List.listItems
  refine wpAny_bind (wpAny_seqItems e2 rfl (wpAny_pure ?_))
  refine wpAny_bind (wpAny_bind (wpAny_seqItems e rfl (wpAny_pure ?_)))
  refine wpAny_bind (wpAny_of_eq ((sliceIndices_raw (some (a : Int)) (some (c : Int)) none items.size (by simp)).trans (congrArg (pure : Int × Int × Int → Sem (Int × Int × Int)) (bounds_run hac hc))) ?_)
  show wpAny _ _ (if ((1 : Int) == 1) = true then _ else _) _ _ s
  rw [if_pos (by decide)]
  refine wpAny_bind (wpAny_rule ?_)
  first
    | simp only [notLongL hsz, Bool.false_eq_true, if_false]
    | refine PySem.W.KFB.if_not (notLongL hsz) ?_
  first | refine wpAny_bind (wpAny_pure ?_) | skip
  show wpAny _ _ (updateSeq l (fun xs => xs.extract 0 ((a : Int)).toNat ++ new ++ xs.extract (max (a : Int) (c : Int)).toNat xs.size) >>= _) _ _ s
  rw [hmax, Int.toNat_natCast]
  refine wpAny_bind (wpAny_updateSeq (hz := Nat.le_trans (Nat.le_add_right _ _) hsz) (_hz' := hz') e rfl ?_)
  refine wpAny_bind (wpAny_letGo ?_)
  first
    | exact wpAny_bind (wpAny_pure (wpAny_pure ⟨.none, rfl, wpAny_pure h⟩))
    | exact wpAny_pure ⟨.none, rfl, wpAny_pure h⟩
end

section
variable {X : Cx}
end
end L2

namespace Att
open PySem PySem.W PySem.Calls PyProof.Rows

/-! ### the script -/
theorem ints_of_wellAll {P : Params} {h : Heap} : ∀ (ns : List Int) (vs : List Value), WellAll P h vs (ns.map WData.int) → IntsAre vs ns := by
  intro ns
  induction ns with
  | nil =>
    intro vs w
    rw [List.map_nil] at w
    cases w
    exact .nil
  | cons n ns ih =>
    intro vs w
    rw [List.map_cons] at w
    cases w with
    | cons a b =>
      cases a
      exact .cons _ _ (ih _ b)

theorem script_of {l : OpenLaw} {n : Nat} (hn : l.most = some n) {P : Params} {h : Heap} {args : List WData} {vals : List Value}
    (hpre : l.row.toRowW.claim.pre args = true) (hwl : WellAll P h vals args) :
    ∃ a vs ns, vals = [Value.ref a] ∧ args = [WData.list (ns.map WData.int)] ∧ h.get? a = some { cls := .type "list", data := .seq vs.toArray } ∧ IntsAre vs ns ∧ ns.length ≤ n := by
  have hsh : WShape.hasAll [] args [.list .int] = true := (pre_splitW hpre).1
  have hc : l.pre.holds [] { args := args } = true := (pre_splitW hpre).2
  obtain ⟨d, r, rfl, h1, h2⟩ := hasAllW_cons hsh
  obtain rfl := hasAllW_nil h2
  obtain ⟨xs, rfl, h3⟩ := hasW_list h1
  obtain ⟨ns, rfl⟩ := items_int h3
  have hlen : ns.length ≤ n := by
    unfold OpenLaw.pre at hc
    have h4 : (WTm.not (.lt (.lit (.int (n : Int))) (.len (.arg 0)))).holds [] { args := [.list (ns.map .int)] } = true := by
      have h4 := (holds_andW hc).1
      rw [hn] at h4
      exact h4
    have h5 := condW_of h4 (w_not (w_lt w_lit (w_len_list (w_arg rfl))))
    rw [List.length_map] at h5
    refine Nat.le_of_not_lt fun q => ?_
    have q' : (n : Int) < ((ns.length : Nat) : Int) := by omega
    first
      | (rw [decide_eq_true q'] at h5; exact absurd h5 (by decide))
      | (simp at h5; omega)
  cases hwl with
  | cons w1 w2 =>
    cases w2
    cases w1 with
    | list ho hall => exact ⟨_, _, ns, rfl, rfl, ho, ints_of_wellAll ns _ hall, hlen⟩

theorem post_true (l : OpenLaw) (args : List WData) : l.row.toRowW.claim.post args (.bool true) args = true :=
  postW_of (r := l.row.toRowW) (X := (true == true))
    (show WShape.has [] (.bool true) .bool = true by first | rfl | decide | simp [WShape.has, WShape.arms, WShape.armsAll])
    (show (WTm.eq .res (.lit (.bool true))).value [] { args := args, res := some (.bool true), after := args } = some (.bool (true == true)) from w_eq_bool (w_res rfl) w_lit) rfl

/-! ### the attachment: holds_open's last premise (the goal 'hc' behind k_head) from a wpAny of the law's body -/
/-- the same from a codeAny of the CALL (for a layer whose function contracts speak of calls) -/
theorem attach_call {l : OpenLaw} {n : Nat} {q : Program} {loose : List Str} {XP : (Str → Option Value) → Heap → Prop} {YP : World → Heap → Prop} {d : DefRec}
    (hn : l.most = some n) (hdf : d.params.defaults = [])
    (call : ∀ (w : World) (s₀ s₁ : Shared) (mg mb : Str → Option Value) (fa : Addr) (o : Obj) (pm cd doc : Value) (a : Addr) (vs : List Value) (ns : List Int),
      Ground q loose [] XP w s₀ mg mb s₁.heap → YP w s₁.heap →
      s₁.heap.get? fa = some o → o.data = .func (docDef d.name d.params d.body d.scope pm cd doc) → s₁.heap.CodeRec cd d.name → mg d.name = some (.ref fa) →
      s₁.heap.get? a = some { cls := .type "list", data := .seq vs.toArray } → IntsAre vs ns → ns.length ≤ n → s₁.gens = #[] →
      codeAny (model l.prog w) callerA (.call (.ref fa) ⟨[.ref a], []⟩) (fun r s' => r = .ok (.ret (.bool true)) ∧ OldK s₁.heap s'.heap ∧ s'.os = s₁.os ∧ AllBare s'.gens) s₁) :
    WalkO q loose XP YP l.row.toRowW d [] (fun f vs => PySem.call f vs) := by
  intro w s₀ s₁ mg mb G Y fa o pm cd doc dV kV ho hd hcd hD hmg hg args vals as hpre hlay hrd hwl hlo
  obtain rfl : dV = .none := Dflts.none hD hdf
  obtain rfl : kV = .none := Dflts.noKw hD
  obtain ⟨a, vs, ns, rfl, rfl, hobj, hints, hlen⟩ := script_of hn hpre hwl
  refine enter_call (codeAny_mono (call w s₀ s₁ mg mb fa o pm cd doc a vs ns G Y ho (fd_plain hd) hcd hmg hobj hints hlen hg) fun r s' hq => ?_)
  obtain ⟨rfl, h2, h3, h4⟩ := hq
  exact ⟨.inl ⟨.bool true, .bool true, [], rfl, fun _ => rfl, .bool true, post_true l _, fun _ => ⟨List.Pairwise.nil, fun _ hm => (nomatch hm)⟩⟩, h2, h3, h4⟩

/-! ### rules over ANY heap (no ledger) from facts about the written part K: the library's own take a ledger (News) for what they write -/
section
variable {prog : Program} {w : World} {A : Around} {E : Value → Shared → Prop} {s : Shared} {K : Frag}

/-! the whole heap as the ledger: makes every rule that writes through a ledger a rule over any heap -/
def ledger (h : Heap) (L d : Addr) : List (Addr × Obj) := (List.range h.objs.size).filterMap fun a => if a = L ∨ a = d then none else (h.get? a).map fun o => (a, o)
end
end Att

namespace L2
open PySem PySem.Spec PyProof.Rows

theorem vals_ints : ∀ {vs : List Value} {ns : List Int}, IntsAre vs ns → Vals (ns.map V.int) vs
  | _, _, .nil => .nil
  | _, _, .cons n t h => .cons ⟨t, rfl⟩ (vals_ints h)

/-- nothing is tracked but the script, known to the object (or it is an object of the module) -/
def Only (H : Hp) : Prop := ∀ b, H b = none ∨ ∃ o xs, H b = some (.frz o (.lst xs))

/-- THE HEAD: the law's promise, at the heap behind the top. F, the promise of the law's def, may use that base is part of the heap (so K.In base, base.Ns mainGlobals mg stand in Mod) -/
theorem law_call {P : Program} {w : World} {K : PySem.W.Frag} {mg mb : Str → Option Value} {CX : CXT} {k : Nat} {fa a : Addr} {fd : FuncData} {x : Str} {sp : Sp} {s₁ : Shared} {vs : List Value} {ns : List Int}
    (KX : K.In s₁.heap) (hns : s₁.heap.Ns mainGlobals mg) (hb : s₁.heap.Ns builtinsNs mb) (hbb : ∀ x : Str, x ≠ "__name__" → mb x = bootBuiltins x) (hlim : s₁.heap.NoLimit) (hg : s₁.gens = #[])
    (ha : s₁.heap.get? a = some { cls := .type "list", data := .seq vs.toArray }) (hi : IntsAre vs ns) (hl : ns.length ≤ sizeLine) (hr : Room k callerA)
    (F : ∀ base : Heap, K.In base → base.Ns mainGlobals mg → FnOk P w K mg base CX k fa fd [x] sp) (hbind : ∀ (s : Shared) (u : Value), BindsTo s fd ⟨[u], []⟩ [(x, u)])
    (hsp : ∀ H : Hp, Only H → SqL K H a (ns.map V.int) → sp [.ref a] H (fun v _ => v = .bl true) fun _ _ _ => False)
    (hCX : ∀ H e s', CX [] H s₁ (fun _ _ _ => False) e s' → False) :
    codeAny (model P w) callerA (.call (.ref fa) ⟨[.ref a], []⟩) (fun r s' => r = .ok (.ret (.bool true)) ∧ OldK s₁.heap s'.heap ∧ s'.os = s₁.os ∧ AllBare s'.gens) s₁ := by
  have rv := vals_ints hi
  have lenV := hi.length
  -- from an abstract heap in which nothing but the script may be tracked
  have core : ∀ H : Hp, Only H → SqL K H a (ns.map V.int) → HOk P w H s₁.heap → (∀ b, H b ≠ none → b = a) → (H a ≠ none → K.lookup a = none) →
      codeAny (model P w) callerA (.call (.ref fa) ⟨[.ref a], []⟩) (fun r s' => r = .ok (.ret (.bool true)) ∧ OldK s₁.heap s'.heap ∧ s'.os = s₁.os ∧ AllBare s'.gens) s₁ := by
    intro H hO hS hok hA hK
    have base_of : ∀ {b : Addr} {o : Obj}, s₁.heap.get? b = some o → H b = none → (hidT s₁.heap H).get? b = some o := fun e n => hidT_get e n
    have noA : ∀ {b : Addr} {o : Obj} {es : Array DictEntry} {ep : Nat}, s₁.heap.get? b = some o → o.data = .dict es ep → H b = none := fun {b o es ep} e d => by
      cases q : H b with
      | none => rfl
      | some u =>
        have e' : b = a := hA b (by rw [q]; simp)
        subst e'
        rw [ha] at e; cases e
        have d' : Data.seq vs.toArray _ = Data.dict es ep := d
        cases d'
    have nsK : ∀ {b : Addr} {m : Str → Option Value}, s₁.heap.Ns b m → (hidT s₁.heap H).Ns b m := fun {b m} ⟨o, es, ep, e, d, r⟩ => ⟨o, es, ep, base_of e (noA e d), d, r⟩
    have hKb : K.In (hidT s₁.heap H) := fun b o e => base_of (KX b o e) (by
      cases q : H b with
      | none => rfl
      | some u =>
        have e' : b = a := hA b (by rw [q]; simp)
        subst e'
        rw [hK (by rw [q]; simp)] at e; cases e)
    have hM : Mod K mg (hidT s₁.heap H) := ⟨hKb, nsK hns, ⟨mb, nsK hb, hbb⟩, let ⟨mc, h1, h2⟩ := hlim; ⟨mc, nsK h1, h2⟩⟩
    have e0 : Env0 P w K mg (hidT s₁.heap H) callerA [] s₁ H := ⟨rfl, hM, fun b o e => of_hidT e, Nat.le_of_eq (hidT_size _ _), trivial, fun b hb => absurd (show b ∈ ([] : List Addr) from hb) (by simp), hok, .of_eq hg⟩
    refine codeAny_mono ((F _ hKb (nsK hns)).run callerA [] s₁ H ⟨[.ref a], []⟩ [.ref a] [.ref a] _ _ hr e0 (hbind s₁ (.ref a)) (.cons rfl .nil) (hsp H hO hS)) fun r s' h => ?_
    cases r with
    | error e => exact (hCX H e s' h).elim
    | ok fl =>
      cases fl with
      | next => exact False.elim h
      | brk => exact False.elim h
      | cont => exact False.elim h
      | ret u =>
        obtain ⟨v, H', os, bare, un, hok', r', q⟩ := h
        have q' : v = .bl true := q
        subst q'
        obtain rfl : u = Value.bool true := r'
        refine ⟨rfl, OldK.of_keep fun b o e => ?_, os, bare⟩
        cases q : H b with
        | none => exact un.keep b o e q (by intro z; exact absurd (show b ∈ ([] : List Addr) from z) (by simp)) (by simp)
        | some u =>
          rcases hO b with z | ⟨ob, xs, z⟩
          · rw [q] at z; cases z
          · have z2 := un.frzs b ob _ z
            obtain ⟨e1, _⟩ := hok b _ z
            obtain ⟨e2, _⟩ := hok' b _ z2
            rw [e] at e1; cases e1
            exact e2
  cases hk : K.lookup a with
  | some o =>
    -- the script is one of the module's own objects
    have e := KX a o hk
    rw [ha] at e
    cases e
    refine core (fun _ => none) (fun _ => .inl rfl) (.inr ⟨_, vs.toArray, _, hk, rfl, rfl, rfl, by rw [List.size_toArray, lenV]; exact hl, by simpa using rv⟩) (fun b u z => by have z' : (none : Option HO) = some u := z; cases z') (fun b z => absurd rfl z) fun z => absurd rfl z
  | none =>
    refine core (fun b => if b = a then some (.frz { cls := .type "list", data := .seq vs.toArray } (.lst (ns.map V.int))) else none) (fun b => ?_) (.inl (.inr ⟨{ cls := .type "list", data := .seq vs.toArray }, if_pos rfl⟩)) (fun b u z => ?_) (fun b z => ?_) fun _ => hk
    · by_cases hb : b = a
      · exact .inr ⟨_, _, if_pos hb⟩
      · exact .inl (if_neg hb)
    · by_cases hb : b = a
      · have z' := (if_pos hb).symm.trans z
        cases z'
        subst hb
        exact ⟨ha, by rw [List.length_map]; exact hl, vs, _, rv, ha⟩
      · have z' := (if_neg hb).symm.trans z
        cases z'
    · by_cases hb : b = a
      · exact hb
      · exact absurd (if_neg hb) z
end L2

namespace L2
open PySem PySem.Spec PyProof.Rows

abbrev KOf {K : PySem.W.Frag} {h : Heap} (_ : K.In h) : PySem.W.Frag := K

/-- the goal that k_head leaves (case hc), from the law's promise. F gives the function object fd (K's own) once, then the promise over every base -/
theorem walk_of {l : PySem.W.OpenLaw} {n k : Nat} {q : Program} {loose : List Str} {XP : (Str → Option Value) → Heap → Prop} {YP : World → Heap → Prop} {d : DefRec} {K : Params → PySem.W.Frag} {CX : World → CXT} {sp : World → Sp} {x : Str}
    (hn : l.most = some n) (hn2 : n ≤ sizeLine) (hdf : d.params.defaults = []) (hr : Room k callerA)
    (hY : ∀ (w : World) (h : Heap), YP w h → (K w.params).In h)
    (F : ∀ (w : World) (mg : Str → Option Value) (fa : Addr) (h : Heap), (K w.params).In h → h.Ns mainGlobals mg → mg d.name = some (.ref fa) →
      ∃ fd : FuncData, (∀ (s : Shared) (u : Value), BindsTo s fd ⟨[u], []⟩ [(x, u)]) ∧
        ∀ base : Heap, (K w.params).In base → base.Ns mainGlobals mg → FnOk l.prog w (K w.params) mg base (CX w) k fa fd [x] (sp w))
    (hsp : ∀ (w : World) (H : Hp) (a : Addr) (ns : List Int), ns.length ≤ n → Only H → SqL (K w.params) H a (ns.map V.int) → sp w [.ref a] H (fun v _ => v = .bl true) fun _ _ _ => False)
    (hCX : ∀ (w : World) (H : Hp) (s : Shared) (e : Value) (s' : Shared), CX w [] H s (fun _ _ _ => False) e s' → False) :
    PySem.W.WalkO q loose XP YP l.row.toRowW d [] (fun f vs => PySem.call f vs) := by
  refine Att.attach_call hn hdf fun w s₀ s₁ mg mb fa o pm cd doc a vs ns G Y ho hd hcd hmg hobj hints hlen hg => ?_
  have KX := hY w _ Y
  obtain ⟨fd, hb, hF⟩ := F w mg fa _ KX G.T.g hmg
  exact law_call KX G.T.g G.T.b G.T.builtins G.T.nolimit hg hobj hints (Nat.le_trans hlen hn2) hr hF hb (fun H hO hS => hsp w H a ns hlen hO hS) fun H e s' => hCX w H s₁ e s'
end L2

/- THE LAST THEOREM (shape; LID, My.* are yours):
   My.Adr: a structure of the addresses that your layer names (classes, functions); My.Txt K t: a structure (Prop) of the equations over K;
   My.txt_mk : {K} {implicit addresses ..} (e1 : nsIn K mainGlobals "law" = some (some (.ref f))) (e2 : K.lookup f = some ⟨oc, od, .func (fnOf "law" "law" params body scope dV kV doc pm an cdv ct), sl⟩) (e3 : codeIn K cdv "law" = true) .. : ∃ t, My.Txt K t

set_option maxRecDepth 100000 in
set_option maxHeartbeats 0 in
theorem PySem.Challenge.cw_LID_holds : PySem.Challenge.rw_LID.Holds := by
  w_on; o_law; k_head; (case hw => w_witness2)
  k_fill
  refine L2.walk_of (l := PySem.Challenge.rw_LID) (n := 63) (k := 40) (x := "script") (CX := fun w => ..) (sp := fun _ => My.sp_law) rfl (by decide) rfl ⟨rfl, by decide, by decide⟩ (fun w h Y => PySem.W.kIn_of Y) ?F ?S ?C
  case F =>
    intro w mg fa h KX G hmg
    have T : ∃ t, My.Txt (L2.KOf KX) t := by
      dsimp only [L2.KOf]                          -- K must stand as «<heap const> w.params» for k_is
      refine' My.txt_mk ?e1 ?e2 ?e3 ..
      (case e1 => PySem.W.k_is)                    -- in the order: a name -> its address -> its object -> its parts
      (case e2 => PySem.W.k_is)
      ..
    obtain ⟨t, T⟩ := T
    have e0 := hmg.symm.trans (PySem.W.mg_of KX G T.law)
    cases e0                                       -- fa is the law's own address
    exact ⟨_, fun s u => .of_eq rfl, fun base kb nb => My.law_fn T kb nb⟩     -- if «.of_eq rfl» comes too early: refine' ⟨_, ?b, fun base kb nb => My.law_fn T kb nb⟩; exact fun s u => .of_eq rfl
  case S => exact fun w H a ns hl hO hS => ..
  case C => exact ..
(the tactic k_is has no namespace: write k_is) -/

/-! SHORT WORDS over the layer: a def of the text, its body, what a loop and a test want. -/
namespace L2
open PySem PySem.Spec PyProof.Rows

/-! ### the text by places -/
def defArgs (s : Stmt) : Arguments := match s with
  | .FunctionDef _ a _ _ _ _ _ _ _ _ => a
  | _ => { posonlyargs := [], args := [], vararg := none, kwonlyargs := [], kw_defaults := [], kwarg := none, defaults := [] }
def defBody (s : Stmt) : List Stmt := match s with
  | .FunctionDef _ _ b _ _ _ _ _ _ _ => b
  | _ => []
def defScope (s : Stmt) : Scope := match s with
  | .FunctionDef _ _ _ _ _ _ sc _ _ _ => sc
  | _ => { kind := .function, names := [], isGenerator := false, isCoroutine := false }

/-! ### no exception leaves a def -/
abbrev CX0 : CXT := fun _ _ _ _ _ _ => False
/-! ### a def (or method) of the text as it stands behind the top -/
structure Fun (K : PySem.W.Frag) (x qual : Str) (st : Stmt) (f : Addr) (fd : FuncData) : Prop where
  ex : ∃ (oc : Value) (od : Option Addr) (kV doc pm : Value) (an : Option Addr) (cdv ct : Value) (osl : Array (Option Value)),
    fd = PySem.W.fnOf x qual (defArgs st) (defBody st) (defScope st) .none kV doc pm an cdv ct ∧ K.lookup f = some ⟨oc, od, .func fd, osl⟩ ∧ PySem.W.codeIn K cdv qual = true
  kp : PySem.W.keepIn K (.ref f) = true
section
variable {P : Program} {w : World} {K : PySem.W.Frag} {mg : Str → Option Value} {base : Heap}
/-- THE RULE for a def: its body as a term of rules, and the reading of that term -/
theorem Fun.ok {x qual : Str} {st : Stmt} {f : Addr} {fd : FuncData} {N ps : List Str} {k : Nat} {sp : Sp} (F : Fun K x qual st f fd) (S : FnScope N ps (defScope st)) (len : ∀ vs H Q E, sp vs H Q E → vs.length = ps.length)
    (hbody : ∀ (cdv : Value) (A : Around) (outer : List Env) (s : Shared) (H : Hp) (vs : List V) (Q : VK) (E : XK), Room k (A.deeper (envOfC qual (defScope st) s.heap.objs.size f cdv)) → sp vs H Q E →
      ∃ t, PSs (cxOf CX0 P w K mg base N qual (defScope st) f cdv A outer s H E).nox (defBody st) t ∧ t { nx := fun _ H' => Q .non H', rt := Q } (start N vs) H) : FnOk P w K mg base CX0 (k + 1) f fd ps sp := by
  obtain ⟨oc, od, kV, doc, pm, an, cdv, ct, osl, rfl, lk, hcd⟩ := F.ex
  refine fn_of lk hcd S len fun A outer s H vs Q E hr hsp => ?_
  obtain ⟨t, h, q⟩ := hbody cdv A outer s H vs Q E hr hsp
  exact ⟨t, h.nox, q⟩
/-- how its arguments bind (no defaults): h is «fun _ _ _ _ _ _ us hl => match us, hl with | [_, _], _ => rfl», one _ a parameter -/
theorem Fun.binds {x qual : Str} {st : Stmt} {f : Addr} {fd : FuncData} {ps : List Str} (F : Fun K x qual st f fd)
    (h : ∀ (kV doc pm : Value) (an : Option Addr) (cdv ct : Value) (us : List Value), us.length = ps.length → bindArgs (PySem.W.fnOf x qual (defArgs st) (defBody st) (defScope st) .none kV doc pm an cdv ct) ⟨us, []⟩ = pure (ps.zip us)) : Binds K fd ps [] := by
  obtain ⟨oc, od, kV, doc, pm, an, cdv, ct, osl, rfl, lk, hcd⟩ := F.ex
  exact .all (h kV doc pm an cdv ct)
theorem fun_mk {x qual : Str} {st : Stmt} {f : Addr} {oc : Value} {od an : Option Addr} {osl : Array (Option Value)} {kV doc pm cdv ct : Value} (l : K.lookup f = some ⟨oc, od, .func (PySem.W.fnOf x qual (defArgs st) (defBody st) (defScope st) .none kV doc pm an cdv ct), osl⟩)
    (c : PySem.W.codeIn K cdv qual = true) (k : PySem.W.keepIn K (.ref f) = true) : Fun K x qual st f (PySem.W.fnOf x qual (defArgs st) (defBody st) (defScope st) .none kV doc pm an cdv ct) := ⟨⟨oc, od, kV, doc, pm, an, cdv, ct, osl, rfl, l, c⟩, k⟩
end
theorem hu_of {A : Around} {k : Nat} (hr : Room k A) : A.units + 1 < cLine := Nat.lt_of_le_of_lt (Nat.add_le_add_left (by decide : 1 ≤ 64) _) hr.units
theorem small1000 {n : Nat} (h : n ≤ 1000) : n < sizeLine := Nat.lt_of_le_of_lt h (by decide)

/-! ### expressions in short: the name that stands in the i-th slot -/
section
variable {X : Cx}
theorem pv (i : Nat) {x : Str} {pos : Pos} (hN : X.N[i]? = some x := by rfl) (hv : Vis X.env.scope x := by first | exact Or.inl rfl | exact Or.inr (Or.inl rfl) | exact Or.inr (Or.inr rfl)) (hd : (x == ("__debug__" : Str)) = false := by decide)
    (hcd : (x == ("__classdict__" : Str)) = false := by decide) : PE X (.Name x pos) (tVar i) := pe_var hN hv hd hcd
end

/-! ### tests -/
/-! ### heaps -/
/-- all that was tracked is as it was -/
def Same (H H' : Hp) : Prop := ∀ b o, H b = some o → H' b = some o
theorem Same.refl (H : Hp) : Same H H := fun _ _ h => h
theorem Same.trans {H H1 H2 : Hp} (a : Same H H1) (b : Same H1 H2) : Same H H2 := fun c o h => b c o (a c o h)
theorem Same.free {H H' : Hp} (e : Same H H') {l : Addr} (h : H' l = Option.none) : H l = Option.none := by
  cases q : H l with
  | none => rfl
  | some o =>
    rw [e l o q] at h
    cases h
theorem Same.seq {K : PySem.W.Frag} {H H' : Hp} {a : Addr} {xs : List V} (e : Same H H') (h : SqL K H a xs) : SqL K H' a xs := by
  rcases h with (h | ⟨o, h⟩) | h
  · exact .inl (.inl (e _ _ h))
  · exact .inl (.inr ⟨o, e _ _ h⟩)
  · exact .inr h

end L2

set_option maxHeartbeats 4000000

/-! ## EXCEPTIONS over the layer: raised, passed on through frames, caught. -/
namespace L2
open PySem PySem.Spec PyProof.Rows
theorem ObjOk.is {P : Program} {w : World} {H : Hp} {h : Heap} {a : Addr} {o : HO} (x : ObjOk P w H h a o) : ∃ ob, h.get? a = some ob := by
  cases o with
  | lst xs => obtain ⟨_, _, _, _, e⟩ := x; exact ⟨_, e⟩
  | tup xs => obtain ⟨_, _, _, ob, e, _⟩ := x; exact ⟨_, e⟩
  | dK kvs => obtain ⟨_, _, _, _, o, _, _, e, _⟩ := x; exact ⟨_, e⟩
  | dT kvs => obtain ⟨_, _, _, _, o, _, _, e, _⟩ := x; exact ⟨_, e⟩
  | set S n => obtain ⟨o, _, _, _, e, _⟩ := x; exact ⟨_, e⟩
  | ins C dx fs => obtain ⟨_, _, _, e, _⟩ := x; exact ⟨_, e⟩
  | own y => obtain ⟨_, e⟩ := x; exact ⟨_, e⟩
  | xd fs => obtain ⟨_, ⟨_, _, _, e, _⟩, _⟩ := x; exact ⟨_, e⟩
  | rng lo hi => obtain ⟨_, _, _, e⟩ := x; exact ⟨_, e⟩
  | frz ob u => obtain ⟨e, _⟩ := x; exact ⟨_, e⟩
  | tbl ps => exact ⟨_, (show h.get? a = some _ from x)⟩
  | met f y => exact ⟨_, (show h.get? a = some _ from x)⟩
  | ext φ => obtain ⟨_, ⟨_, e⟩, _⟩ := x; exact ⟨_, e⟩

/-- an exception in flight at ea, of the class cls: the frames of l are still to be left; B: all that stays as it is (all but those frames, the exception and its traces) -/
structure Fly (P : Program) (w : World) (l : List Env) (H : Hp) (s : Shared) (ea : Addr) (cls : Value) (H' : Hp) (s' : Shared) : Prop where
  os : s'.os = s.os
  bare : AllBare s'.gens
  un : Un (frs l) [] H H' s.heap s'.heap
  ex : ∃ B a0, Heap.FlyingW B l ea cls a0 s'.heap ∧ HOk P w H' B ∧ (∀ b o, s.heap.get? b = some o → H b = none → b ∉ frs l → B.get? b = some o) ∧
    ∀ b o, s.heap.get? b = some o → b ∉ frs l → ∃ o', B.get? b = some o'
/-- a def's own frame -/
structure Cx.Own (X : Cx) : Prop where
  stk : X.stack = X.env :: X.outer
  fr : X.env.frame = some X.env.locals
  ex : X.ex = []
section
variable {X : Cx} {pins : List (Addr × Obj)} {σ : St} {H H' : Hp} {s s' : Shared} {ea : Addr} {cls a0 : Value} {B h1 h2 h' : Heap} {M : Model} {E : Value → Shared → Prop} {Q : Unit → Shared → Prop}
/-- out of the frame -/
theorem Inv.fly_out (W : X.Own) (I : Inv X pins σ H s) (u : Un (frs X.stack) [] H H' s.heap h1) (up : h1.UpToSlots s'.heap) (ff : h1.FunFrames B X.stack) (fl : Heap.FlyingW B X.outer ea cls a0 s'.heap) (hok : HOk X.prog X.w H' B)
    (kp : ∀ b o, s.heap.get? b = some o → H b = none → b ∉ frs X.stack → B.get? b = some o) (th : ∀ b o, s.heap.get? b = some o → b ∉ frs X.stack → ∃ o', B.get? b = some o') (os : s'.os = s.os) (bare : AllBare s'.gens) :
    Fly X.prog X.w X.outer X.H₀ X.s₀ ea cls H' s' := by
  have nst : ∀ b o, X.s₀.heap.get? b = some o → b ∉ frs X.outer → b ∉ frs X.stack := fun b o e hb z => by
    rcases List.mem_cons.mp (I.stkSub b z) with q | q
    · exact absurd q (Nat.ne_of_lt (Nat.lt_of_lt_of_le (Heap.lt_size e) I.ok.above))
    · exact hb q
  have nx : ∀ b, b ∉ X.ex := fun b => by rw [W.ex]; simp
  have nn : ∀ b : Addr, b ∉ ([] : List Addr) := fun b => by simp
  have inS : ∀ b, b ∈ frs X.outer → b ∈ frs X.stack := fun b hb => by
    rw [W.stk]
    obtain ⟨env, he, hf⟩ := List.mem_filterMap.mp hb
    exact List.mem_filterMap.mpr ⟨env, List.mem_cons_of_mem _ he, hf⟩
  have kpo : ∀ b o, X.s₀.heap.get? b = some o → X.H₀ b = none → b ∉ frs X.outer → B.get? b = some o := fun b o e n hb =>
    kp b o (I.base.keep b o e n hb (nx b)) (I.base.free b o e n (nx b)) (nst b o e hb)
  refine ⟨os.trans I.os, bare, ⟨fun b o e n hb _ => fl.1 b o (kpo b o e n hb), fun b o e n hb _ => ?_, fun b o e n _ => ?_, fun b o e _ => ?_, fun b xs e => u.tups b xs (I.base.tups b xs e), fun b o xs e => u.frzs b o xs (I.base.frzs b o xs e), fun b ps e => ?_⟩,
    B, a0, fl, hok, kpo, fun b o e hb => ?_⟩
  · obtain ⟨sl, e1⟩ := I.base.slot b o e n hb (nx b)
    obtain ⟨sl2, e2⟩ := u.any e1 (I.base.free b o e n (nx b)) (nn b)
    obtain ⟨_, o', ho', hnf⟩ := ff.mem (inS b hb)
    rw [e2] at ho'
    cases ho'
    obtain ⟨sl3, e3⟩ := up b _ e2 hnf
    exact ⟨sl3, e3⟩
  · obtain ⟨o', e1⟩ := I.base.there b o e (nx b)
    exact u.free b o' e1 (I.base.free b o e n (nx b)) (nn b)
  · obtain ⟨o1, e1⟩ := I.base.there b o e (nx b)
    by_cases hb : b ∈ frs X.stack
    · obtain ⟨_, o', ho', hnf⟩ := ff.mem hb
      obtain ⟨sl3, e3⟩ := up b _ ho' hnf
      exact ⟨_, e3⟩
    · obtain ⟨o2, e2⟩ := th b o1 e1 hb
      exact ⟨o2, fl.1 b o2 e2⟩
  · obtain ⟨m1, e1⟩ := I.base.tbls b ps e
    obtain ⟨m2, e2⟩ := u.tbls b _ e1
    exact ⟨m1 ++ m2, by rw [e2, Array.append_assoc]⟩
  · obtain ⟨o1, e1⟩ := I.base.there b o e (nx b)
    exact th b o1 e1 (nst b o e hb)

theorem fly_on (W : X.Own) (I : Inv X pins σ H s) (F : Fly X.prog X.w X.stack H s ea cls H' s')
    (hQ : ∀ h', Fly X.prog X.w X.outer X.H₀ X.s₀ ea cls H' { s' with heap := h' } → Q () { s' with heap := h' }) : wpAny M X.A (leaving X.env (.ref ea)) Q E s' := by
  obtain ⟨B, a0, fl, hok, kp, th⟩ := F.ex
  have fl2 := fl
  rw [W.stk] at fl2
  refine wpAny_leaves_onW (by rw [I.ok.frames, W.stk]) W.fr fl2 fun h' fl' up => hQ h' ?_
  exact I.fly_out W F.un up fl.2.2.1 fl' hok kp th F.os F.bare

/-- what is kept of the heap while an exception made here flies -/
theorem Inv.hide (I : Inv X pins σ H s) : HOk X.prog X.w H (PySem.W.hideAll s.heap (frs X.stack)) ∧
    s.heap.FunFrames (PySem.W.hideAll s.heap (frs X.stack)) X.stack := by
  refine ⟨fun a u e => (I.hok a u e).stay (fun b v hc q => PySem.W.hideAll_get _ q fun z => ?_) (fun _ q => q) fun _ _ q => q, PySem.W.funFrames_hide I.stack fun env he a ha => List.mem_filterMap.mpr ⟨env, he, ha⟩⟩
  have n := I.stkFree b z
  rcases hc with rfl | hc
  · rw [n] at e; cases e
  · rw [n] at hc; cases hc

theorem fly_new (W : X.Own) (I : Inv X pins σ H s) {args : List Value} (hx : Heap.MadeExcOf s.heap h2 ea cls args)
    (hQ : ∀ h', Fly X.prog X.w X.outer X.H₀ X.s₀ ea cls H { s with heap := h' } → Q () { s with heap := h' }) : wpAny M X.A (leaving X.env (.ref ea)) Q E { s with heap := h2 } := by
  obtain ⟨hok, ff⟩ := I.hide
  have ff2 := ff
  rw [W.stk] at ff2
  refine wpAny_leaves_madeW (s := { s with heap := h2 }) (base := PySem.W.hideAll s.heap (frs X.stack)) (h := s.heap) (by rw [I.ok.frames, W.stk]) W.fr (fun b o q => PySem.W.of_hideAll _ q) (by rw [← W.stk]; exact ff) hx fun h' t fl tup bt up => hQ h' ?_
  exact I.fly_out (s' := { s with heap := h' }) W (Un.kept hx.keeps) up (ff.of_keeps fun b o e _ => ⟨o, hx.keeps b o e, rfl⟩) fl hok (fun b o e _ hb => PySem.W.hideAll_get _ e hb) (fun b o e hb => ⟨o, PySem.W.hideAll_get _ e hb⟩) rfl I.bare
end

/-- how an exception lies behind a call -/
def CXE (P : Program) (w : World) : CXT := fun l H s E e s' => ∃ ea cls H', e = .ref ea ∧ Fly P w l H s ea cls H' s' ∧ E cls none H'
/-- what is wanted of exceptions in X: Ek, of the names' values, the class, the heap -/
structure Lv (X : Cx) (Ek : St → XK) : Prop where
  call : ∀ pins σ ea cls H H' s s', Inv X pins σ H s → Fly X.prog X.w X.stack H s ea cls H' s' → Ek σ cls none H' → X.xe (.ref ea) s'
structure LvR (X : Cx) (Ek : St → XK) : Prop extends Lv X Ek where
  new : ∀ pins σ ea cls args H s h2, Inv X pins σ H s → Heap.MadeExcOf s.heap h2 ea cls args → Ek σ cls none H → X.xe (.ref ea) { s with heap := h2 }
theorem lv_def {P : Program} {w : World} {K : PySem.W.Frag} {mg : Str → Option Value} {base : Heap} {N : List Str} {qual : Str} {scope : Scope} {f : Addr} {cd : Value} {A : Around} {outer : List Env} {s : Shared} {H : Hp} {E : XK} :
    LvR (cxOf (CXE P w) P w K mg base N qual scope f cd A outer s H E) (fun _ => E) := by
  have W : (cxOf (CXE P w) P w K mg base N qual scope f cd A outer s H E).Own := ⟨rfl, rfl, rfl⟩
  refine ⟨⟨fun pins σ ea cls H1 H' s1 s' I F q => ?_⟩, fun pins σ ea cls args H1 s1 h2 I hx q => ?_⟩
  · exact fly_on W I F fun h' F => ⟨ea, cls, H', rfl, F, q⟩
  · exact fly_new W I hx fun h' F => ⟨ea, cls, H1, rfl, F, q⟩
section
variable {X : Cx} {Ek : St → XK} {k : Nat} {f C : Addr} {fd : FuncData} {ps : List Str} {sp : Sp} {dvs : List V} {ds : List Value} {x : Str} {p pos : Pos} {e : Expr} {es : List Expr} {t : TA}
theorem run_fnX {pins : List (Addr × Obj)} {σ : St} {H : Hp} {s : Shared} {Q : VK} {us : List Value} {vs : List V} (L : Lv X Ek) (F : FnOk X.prog X.w X.K X.mg X.base (CXE X.prog X.w) k f fd ps sp) (hr : Room k X.A) (hb : Binds X.K fd ps ds) (hd : Vals dvs ds)
    (I : Inv X pins σ H s) (r : Vals vs us) (h : sp (vs ++ dvs) H Q (Ek σ)) : wpAny (model X.prog X.w) X.A (call (.ref f) us) (EP X pins σ Q) X.xe s := by
  have r2 : Vals (vs ++ dvs) (us ++ ds) := r.append hd
  have hl : (us ++ ds).length = ps.length := by rw [← r2.length]; exact F.len _ _ _ _ h
  refine wpAny_call (codeAny_mono (F.run X.A X.stack s H ⟨us, []⟩ (us ++ ds) (vs ++ dvs) Q (Ek σ) hr I.env0 (hb s us I.kIn hl) r2 h) fun r s' hq => ?_)
  cases r with
  | error e =>
    obtain ⟨ea, cls, H', rfl, fl, q⟩ := hq
    exact L.call pins σ ea cls H H' s s' I fl q
  | ok fl =>
    cases fl with
    | ret u => exact I.after hq
    | next => exact False.elim hq
    | brk => exact False.elim hq
    | cont => exact False.elim hq
/-- f(e, ..); exceptions go to Ek -/
def tCallX (sp : Sp) (dvs : List V) (Ek : St → XK) (t : TA) : TE := fun σ H Q => t σ H fun vs H1 => sp (vs ++ dvs) H1 Q (Ek σ)
theorem pe_callX (L : Lv X Ek) (F : FnOk X.prog X.w X.K X.mg X.base (CXE X.prog X.w) k f fd ps sp) (hr : Room k X.A) (hg : Gl X x) (hm : X.mg x = some (.ref f)) (hk : PySem.W.keepIn X.K (.ref f) = true) (hb : Binds X.K fd ps ds) (hd : Vals dvs ds)
    (ha : PA X (e :: es) t) (hdb : (x == ("__debug__" : Str)) = false := by decide) (he : starEach (e :: es) X.env = (false, eval e X.env) :: starEach es X.env := by rfl) (hpl : (backTo pos (starEach es X.env)).any (·.1) = false := by rfl) :
    PE X (.Call (.Name x p) (e :: es) [] pos) (tCallX sp dvs Ek t) := by
  intro pins s σ H Q I h
  refine wpAny_Call_Name_kw (ld_glob I hg hm ?_ hdb)
  refine PySem.W.callWith_K (h₀ := X.base) I.ok.mod.kin hk (thn (ha pos pins s σ H _ I h) fun us s1 ⟨vs, H1, I1, r, q⟩ => ⟨I1.kIn, ?_⟩) he hpl
  exact run_fnX L F hr hb hd I1 r q
/-! ### raise C(e, ..), C a class of the text under ValueError without an __init__ of its own -/
/-- the class of an exception: where it stands, that it is made plainly -/
structure Exc (K : PySem.W.Frag) (C : Addr) : Prop where
  ok : ∃ bmB newId initId, ExcBaseFacts "ValueError" newId initId bmB ∧ PySem.W.excIn K C bmB newId = true
theorem exc_obj {K : PySem.W.Frag} {h : Heap} {C : Addr} {bmB : List Value} {newId : String} (X : K.In h) (q : PySem.W.excIn K C bmB newId = true) :
    ∃ bm N nm q bs hdct sn sub ab col dd k0 k1 k2 k3 k5 mN, h.get? C = some (excClassObj nm q C N bs bm hdct sn sub ab col dd k0 k1 k2 k3 k5 newId) ∧ h.Ns N mN ∧ mN "__init__" = none ∧ OwnTail h bmB bm := by
  unfold PySem.W.excIn at q
  split at q
  case h_2 => cases q
  case h_1 dd cd sl ho =>
    split at q
    case h_2 => cases q
    case h_1 C1 bm1 a0 a1 a2 a3 nw a5 hm hs =>
      simp only [Bool.and_eq_true, beq_iff_eq, Bool.not_eq_true'] at q
      obtain ⟨⟨⟨⟨⟨e1, e2⟩, e3⟩, e4⟩, e5⟩, e6⟩ := q
      subst e1
      subst e2
      cases cd with
      | mk nm bs mro ns qn hd sn sub ab col del =>
        have m1 : mro = .ref C1 :: bm1 := hm
        have m2 : del = false := e3
        subst m1
        subst m2
        have z : sl = #[a0, a1, a2, a3, some (.builtin nw), a5] := Array.toList_inj.mp hs
        subst z
        exact ⟨bm1, ns, nm, qn, bs, hd, sn, sub, ab, col, dd, a0, a1, a2, a3, a5, _, X _ _ ho, Heap.Ns.of_isNs (PySem.W.isNs_of_in X e5), PySem.W.nsMap_none_of_in X e5 e6, PySem.W.tail_of_in X e4⟩
def sRaise (C : Addr) (Ek : St → XK) (t : TA) : TS := fun _ σ H => t σ H fun vs H1 => vs.length ≤ sizeLine ∧ Ek σ (.ref C) none H1
theorem ps_raise (L : LvR X Ek) (O : Exc X.K C) (hc : X.calm = true) (hg : Gl X x) (hm : X.mg x = some (.ref C)) (ha : PA X (e :: es) t) (hdb : (x == ("__debug__" : Str)) = false := by decide)
    (he : starEach (e :: es) X.env = (false, eval e X.env) :: starEach es X.env := by rfl) (hpl : (backTo pos (starEach es X.env)).any (·.1) = false := by rfl) {rpos : Pos} :
    PS X (.Raise (some (.Call (.Name x p) (e :: es) [] pos)) none rpos) (sRaise C Ek t) := by
  intro pins s σ H D I h
  obtain ⟨bmB, newId, initId, FB, q⟩ := O.ok
  obtain ⟨tl, N, nm, qn, bs, hdct, sn, sub, ab, col, dd, k0, k1, k2, k3, k5, mN, hC, hN, hni, T⟩ := exc_obj I.ok.mod.kin q
  refine wpAny_Raise_call_subT (C := C) (nm := nm) (q := qn) (N := N) (bs := bs) (bm := tl) (hdct := hdct) (sn := sn) (sub := sub) (ab := ab) (col := col) (dd := dd) (k0 := k0) (k1 := k1) (k2 := k2) (k3 := k3) (k5 := k5)
    FB (mN := mN) (T.hasType FB.hasBase) (I.ok.hd hc) (by rw [he]; show (false || (backTo pos (starEach es X.env)).any (·.1)) = false; rw [hpl]; rfl) hni (ld_glob I hg hm ⟨rfl, ?_⟩ hdb)
  have ha' := ha pos pins s σ H _ I h
  rw [he] at ha' ⊢
  refine Calls.evalArgs_plain (wpAny_mono ha' (fun us s2 hq => ?_) fun _ _ y => y)
  obtain ⟨vs, H1, I1, r, hl, q1⟩ := hq
  refine ⟨rfl, by rw [← r.length]; exact hl, I1.bk _ _ hC, hN.keeps I1.bk, T.keeps I1.bk, fun h' ea hm => ?_⟩
  exact L.new pins σ ea _ us H1 s2 h' I1 hm q1
end

/-! ### caught -/
/-- an exception that lies there, of the class cls -/
def excAt (ea : Addr) (cls : Value) : HO := .ext fun h => ∃ o vs, h.get? ea = some o ∧ o.cls = cls ∧ o.data = .fields vs
theorem Un.flown {l : List Env} {H H' : Hp} {h h1 h2 B : Heap} (u : Un (frs l) [] H H' h h1) (ff : h1.FunFrames B l) (up : h1.UpToSlots h2) (st : B.StaysIn h2)
    (kp : ∀ b o, h.get? b = some o → H b = none → b ∉ frs l → B.get? b = some o) (th : ∀ b o, h.get? b = some o → b ∉ frs l → ∃ o', B.get? b = some o') : Un (frs l) [] H H' h h2 := by
  refine ⟨fun b o e n hb _ => st b o (kp b o e n hb), fun b o e n hb hx => ?_, u.free, fun b o e _ => ?_, u.tups, u.frzs, u.tbls⟩
  · obtain ⟨sl2, e2⟩ := u.slot b o e n hb hx
    obtain ⟨_, o', ho', hnf⟩ := ff.mem hb
    rw [e2] at ho'
    cases ho'
    obtain ⟨sl3, e3⟩ := up b _ e2 hnf
    exact ⟨sl3, e3⟩
  · by_cases hb : b ∈ frs l
    · obtain ⟨_, o', ho', hnf⟩ := ff.mem hb
      obtain ⟨sl3, e3⟩ := up b _ ho' hnf
      exact ⟨_, e3⟩
    · obtain ⟨o2, e2⟩ := th b o e hb
      exact ⟨o2, st b o2 e2⟩
section
variable {X : Cx} {pins : List (Addr × Obj)} {σ : St} {H H' : Hp} {s s' : Shared}
/-- another wish, other pins, other code around -/
abbrev Cx.other (X : Cx) (pn : List (Addr × Obj)) (xe : Value → Shared → Prop) : Cx := { X with pn := pn, xe := xe }
abbrev Cx.suite (X : Cx) (ea : Addr) : Cx := { X with A := X.A.mark (some (.ref ea)), calm := false, xe := fun _ _ => False }
theorem Cx.Ok.other (ok : X.Ok) (pn : List (Addr × Obj)) (xe : Value → Shared → Prop) : (X.other pn xe).Ok :=
  ⟨ok.mod, ok.kind, ok.glob, ok.blt, ok.above, ok.inj, ok.has, ok.cab, ok.hd, ok.frames, ok.stk, ok.exf, ok.bs, ok.bsz, ok.noex, ok.exfs, ok.funs, ok.frf⟩
theorem Cx.Ok.unother {pn : List (Addr × Obj)} {xe : Value → Shared → Prop} (ok : (X.other pn xe).Ok) : X.Ok :=
  ⟨ok.mod, ok.kind, ok.glob, ok.blt, ok.above, ok.inj, ok.has, ok.cab, ok.hd, ok.frames, ok.stk, ok.exf, ok.bs, ok.bsz, ok.noex, ok.exfs, ok.funs, ok.frf⟩
theorem Cx.Ok.suite (ok : X.Ok) (ea : Addr) : (X.suite ea).Ok :=
  ⟨ok.mod, ok.kind, ok.glob, ok.blt, ok.above, ok.inj, ok.has, ok.cab, fun h => (by cases h), ok.frames, ok.stk, ok.exf, ok.bs, ok.bsz, ok.noex, ok.exfs, ok.funs, ok.frf⟩
theorem Inv.other (I : Inv X pins σ H s) (xe : Value → Shared → Prop) : Inv (X.other (X.pn ++ pins) xe) [] σ H s :=
  ⟨I.ok.other _ _, I.os, I.bare, I.base, I.loc, I.cell, I.free, I.freeC, fun p hp => I.pin p (by simpa using hp), I.hok, I.len⟩
theorem Inv.unother {xe : Value → Shared → Prop} {pins' : List (Addr × Obj)} (I : Inv (X.other (X.pn ++ pins) xe) pins' σ H s) : Inv X pins σ H s :=
  ⟨I.ok.unother, I.os, I.bare, I.base, I.loc, I.cell, I.free, I.freeC, fun p hp => I.pin p (List.mem_append_left _ hp), I.hok, I.len⟩
theorem Inv.suite (I : Inv X pins σ H s) (ea : Addr) : Inv (X.suite ea) pins σ H s :=
  ⟨I.ok.suite ea, I.os, I.bare, I.base, I.loc, I.cell, I.free, I.freeC, I.pin, I.hok, I.len⟩
theorem Inv.unsuite {ea : Addr} (ok : X.Ok) (I : Inv (X.suite ea) pins σ H s) : Inv X pins σ H s :=
  ⟨ok, I.os, I.bare, I.base, I.loc, I.cell, I.free, I.freeC, I.pin, I.hok, I.len⟩
/-- a thing that came up unseen is tracked from here on -/
theorem Inv.track {ea : Addr} {φ : Heap → Prop} (I : Inv X pins σ H s) (hn : H ea = none) (ne : ∀ b o, X.s₀.heap.get? b = some o → b ≠ ea) (nl : X.env.locals ≠ ea) (nc : ∀ x c, X.env.cells.lookup x = some c → c ≠ ea)
    (np : ∀ p ∈ X.pn ++ pins, p.1 ≠ ea) (new : ObjOk X.prog X.w (upd H ea (.ext φ)) s.heap ea (.ext φ)) : Inv X pins σ (upd H ea (.ext φ)) s := by
  have nt : ∀ b u, H b = some u → b ≠ ea := fun b u e z => by rw [z, hn] at e; cases e
  refine ⟨I.ok, I.os, I.bare, ⟨I.base.keep, I.base.slot, fun b o e n hx => ?_, I.base.there, fun b xs e => ?_, fun b o xs e => ?_, fun b ps e => ?_⟩, I.loc, I.cell, ?_, fun x c e => ?_, fun p hp => ?_, fun b u e => ?_, I.len⟩
  · rw [upd_ne (ne b o e)]; exact I.base.free b o e n hx
  · have q := I.base.tups b xs e
    rw [upd_ne (nt b _ q)]; exact q
  · have q := I.base.frzs b o xs e
    rw [upd_ne (nt b _ q)]; exact q
  · obtain ⟨m, q⟩ := I.base.tbls b ps e
    exact ⟨m, by rw [upd_ne (nt b _ q)]; exact q⟩
  · rw [upd_ne nl]; exact I.free
  · rw [upd_ne (nc x c e)]; exact I.freeC x c e
  · obtain ⟨e, n, r⟩ := I.pin p hp
    exact ⟨e, by rw [upd_ne (np p hp)]; exact n, r⟩
  · by_cases hb : b = ea
    · subst hb
      rw [upd_same] at e
      cases e
      exact new
    · rw [upd_ne hb] at e
      exact (I.hok b u e).stay (fun _ _ _ q => q) (fun c q => by rw [upd_ne (nt c _ q)]; exact q) fun c xs q => by rw [upd_ne (nt c _ q)]; exact q
/-- the name of an except clause goes -/
theorem Inv.unbind {M : Model} {A : Around} {E : Value → Shared → Prop} {i : Nat} {n : Str} {pos : Pos} {Q : Unit → Shared → Prop} (I : Inv X pins σ H s) (hN : X.N.Nodup) (hi : X.N[i]? = some n) (hk : X.env.scope.names.lookup n = some .local)
    (h : ∀ s', Inv X pins (σ.set i none) H s' → Q () s') : wpAny M A (do bindName X.env n .none; unbindBehindTheSuite X.env n pos) Q E s := by
  obtain ⟨m, hn, hl⟩ := id I.loc
  have hcls : (X.env.scope.kind == .class || (X.env.scope.kind == .module && X.env.locals != X.env.globals)) = false := by rw [I.ok.kind]; rfl
  have cne := I.cne
  refine wpAny_nameGoes_keeps hk hn hcls fun h' v hn' hs => ?_
  obtain ⟨oL, _, _, hoL, _⟩ := id hn
  refine h _ ⟨I.ok, I.os, I.bare, ⟨fun b o e n hb hx => ?_, fun b o e n hb hx => ?_, I.base.free, fun b o e hx => ?_, I.base.tups, I.base.frzs, I.base.tbls⟩, ⟨_, hn', fun j y v' e1 e2 e3 => ?_⟩, fun y c e => ?_, I.free, I.freeC, fun p hp => ?_, fun b ob e => ?_, by simpa using I.len⟩
  · exact (hs.2 b (Nat.ne_of_lt (Nat.lt_of_lt_of_le (Heap.lt_size e) I.ok.above))).trans (I.base.keep b o e n hb hx)
  · obtain ⟨sl, e1⟩ := I.base.slot b o e n hb hx
    exact ⟨sl, (hs.2 b (Nat.ne_of_lt (Nat.lt_of_lt_of_le (Heap.lt_size e) I.ok.above))).trans e1⟩
  · obtain ⟨o', e1⟩ := I.base.there b o e hx
    exact ⟨o', (hs.2 b (Nat.ne_of_lt (Nat.lt_of_lt_of_le (Heap.lt_size e) I.ok.above))).trans e1⟩
  · by_cases hj : j = i
    · subst hj
      rw [List.getElem?_set] at e2
      simp at e2
    · rw [List.getElem?_set_ne (Ne.symm hj)] at e2
      obtain ⟨u', r', q⟩ := hl j y v' e1 e2 e3
      refine ⟨u', r', ?_⟩
      rcases q with ⟨k, e⟩ | ⟨k, c, e, z⟩
      · refine .inl ⟨k, ?_⟩
        have : y ≠ n := fun e => hj (nodup_ix hN e1 (e ▸ hi))
        simp [this, e]
      · exact .inr ⟨k, c, e, z.sameBut hs (cne y c e)⟩
  · obtain ⟨w', z⟩ := I.cell y c e
    exact ⟨w', z.sameBut hs (cne y c e)⟩
  · obtain ⟨e, n, ne, nf, d⟩ := I.pin p hp
    exact ⟨(hs.2 p.1 ne).trans e, n, ne, nf, d⟩
  · refine (I.hok b ob e).stay (fun c w' hc q => (hs.2 c ?_).trans q) (fun _ q => q) fun _ _ q => q
    rintro rfl
    rcases hc with rfl | hc
    · rw [I.free] at e; cases e
    · rw [I.free] at hc; cases hc
/-- what an exception that flies into this frame leaves behind -/
theorem Inv.landed {ea : Addr} {cls a0 : Value} {B h5 : Heap} {g' : Array GenState} {d' : Drawn} {t' : Nat} (W : X.Own) (I : Inv X pins σ H s) (u : Un (frs X.stack) [] H H' s.heap h5) (fl : Heap.FlyingW B X.stack ea cls a0 h5) (hok : HOk X.prog X.w H' B)
    (th : ∀ b o, s.heap.get? b = some o → b ∉ frs X.stack → ∃ o', B.get? b = some o') (hg : AllBare g') :
    H' ea = none ∧ Inv X pins σ H' { s with heap := h5, gens := g', drawn := d', toks := t' } ∧ Inv X pins σ (upd H' ea (excAt ea cls)) { s with heap := h5, gens := g', drawn := d', toks := t' } := by
  have J : Inv X pins σ H' { s with heap := h5, gens := g', drawn := d', toks := t' } := I.call (ch := []) u (hok.kept fl.1) hg (fun b z => absurd z (by simp))
  obtain ⟨oe, vs, he, hc, hd, _⟩ := fl.first
  have ne : ∀ b o, s.heap.get? b = some o → b ≠ ea := fun b o e z => by
    subst z
    by_cases hb : b ∈ frs X.stack
    · obtain ⟨_, o', ho', hnf⟩ := fl.2.2.1.mem hb
      rw [he] at ho'
      cases ho'
      exact hnf vs hd
    · obtain ⟨o2, e2⟩ := th b o e hb
      rw [fl.2.1] at e2
      cases e2
  have hn : H' ea = none := by
    cases q : H' ea with
    | none => rfl
    | some u =>
      obtain ⟨ob, e⟩ := (hok ea u q).is
      rw [fl.2.1] at e
      cases e
  refine ⟨hn, J, J.track hn (fun b o e => ?_) ?_ (fun x c e => ?_) (fun p hp => ?_) ?_⟩
  · obtain ⟨o1, e1⟩ := I.base.there b o e (by rw [W.ex]; simp)
    exact ne b o1 e1
  · obtain ⟨m, ⟨oL, _, _, hoL, _⟩, _⟩ := I.loc
    exact ne _ oL hoL
  · obtain ⟨v, o, ho, _⟩ := I.cell x c e
    exact ne c o ho
  · obtain ⟨e, _⟩ := I.pin p hp
    exact ne p.1 p.2 e
  · exact ⟨⟨oe, vs, he, hc, hd⟩, ⟨oe, he⟩, fun h1 h2 ⟨o, vs, e, r⟩ k => ⟨o, vs, k o e, r⟩⟩
end

section
variable {X : Cx} {body suite : List Stmt} {b₀ : Stmt} {n xn : Str} {i : Nat} {C : Addr} {tb : (St → XK) → TS} {ts : TS} {np hpos pos : Pos}
/-- try: body except C as n: suite; the suite raises nothing -/
def sTry (K : PySem.W.Frag) (C : Addr) (i : Nat) (tb : (St → XK) → TS) (ts : TS) : TS := fun D σ H =>
  tb (fun σ' cls _ H' => PySem.W.exmOne K cls (.ref C) = some true ∧ ∀ ea, H' ea = none →
    ts { nx := fun σ2 H2 => D.nx (σ2.set i none) H2, rt := D.rt, bk := fun σ2 H2 => D.bk (σ2.set i none) H2, ct := fun σ2 H2 => D.ct (σ2.set i none) H2 } (σ'.set i (some (.ref ea))) (upd H' ea (excAt ea cls))) D σ H
theorem ps_try (W : X.Own) (hb : ∀ (Ek : St → XK) (pn : List (Addr × Obj)) (xe : Value → Shared → Prop), Lv (X.other pn xe) Ek → PSs (X.other pn xe) body (tb Ek)) (hs : ∀ ea, PSs (X.suite ea) (b₀ :: suite) ts)
    (hg : Gl X xn) (hm : X.mg xn = some (.ref C)) (hN : X.N.Nodup) (hi : X.N[i]? = some n) (hk : X.env.scope.names.lookup n = some .local) (hd : (xn == ("__debug__" : Str)) = false := by decide) :
    PS X (.Try body [.ExceptHandler (some (.Name xn np)) (some n) (b₀ :: suite) hpos] [] [] pos) (sTry X.K C i tb ts) := by
  intro pins s σ H D I h
  refine wpAny_Try_except ?_
  refine wpAny_mono (hb _ (X.pn ++ pins) _ ?L [] s σ H D (I.other _) h) (fun f s1 hf => ?_) (fun e s1 hx => hx)
  case L =>
    refine ⟨fun pins' σ' ea cls H1 H2 s1 s2 J F q => ?_⟩
    have J0 : Inv X pins σ' H1 s1 := J.unother
    obtain ⟨B, a0, fl, hok, kp, th⟩ := F.ex
    obtain ⟨q1, q2⟩ := q
    obtain ⟨hh, g2, d2, t2, os2⟩ := s2
    have eo : os2 = s1.os := F.os
    subst eo
    have fl1 : Heap.FlyingW B X.stack ea cls a0 hh := fl
    have fl2 := fl1
    rw [W.stk] at fl2
    refine wpAny_looks_onW (by rw [I.ok.frames, W.stk]) W.fr fl2 fun h4 held up4 => ?_
    refine wpAny_landsW held fun h5 fl5 up5 => ?_
    have u5 := F.un.flown fl1.2.2.1 (up4.trans up5) fl5.1 kp th
    obtain ⟨hn, J5, _⟩ := J0.landed (g' := g2) (d' := d2) (t' := t2) W u5 (by rw [W.stk]; exact fl5) hok th F.bare
    refine wpAny_handleBy_cons (codeAny_handlers_test ?_) (by intro q; cases q)
    refine ld_glob (X := X.suite ea) (J5.suite ea) hg hm ?_ hd
    have LT : PySem.W.Looks (model X.prog X.w) h5 (typeOf (.ref ea)) cls := by
      obtain ⟨ob, e1, e2⟩ := fl5.there
      exact e2 ▸ (PySem.W.Looks.ld e1).andThen .now
    refine PySem.W.Looks.here (s := { s1 with heap := h5, gens := g2, drawn := d2, toks := t2 }) (PySem.W.exm_one J5.kIn LT q1) ?_
    show codeAny _ _ _ _ _
    refine codeAny_handlers_suite_as ?_
    refine lands_againW fl5 fun h6 fl6 up6 => ?_
    have u6 := F.un.flown fl1.2.2.1 ((up4.trans up5).trans up6) fl6.1 kp th
    obtain ⟨_, _, J6⟩ := J0.landed (g' := g2) (d' := d2) (t' := t2) W u6 (by rw [W.stk]; exact fl6) hok th F.bare
    refine store_ok (X := X.suite ea) (v := .ref ea) (J6.suite ea) hN hi (Or.inl hk) rfl (fun s7 J7 => ?_) (Or.inr hk)
    refine wpAny_mono (hs ea pins s7 _ _ _ J7 (q2 ea hn)) (fun f s8 hf => ?_) (fun _ _ z => z.elim)
    cases f with
    | next =>
      obtain ⟨σ8, H8, J8, q8⟩ := hf
      exact (J8.unsuite J5.ok).unbind hN hi hk fun s9 J9 => ⟨_, _, J9, q8⟩
    | brk =>
      obtain ⟨σ8, H8, J8, q8⟩ := hf
      exact (J8.unsuite J5.ok).unbind hN hi hk fun s9 J9 => ⟨_, _, J9, q8⟩
    | cont =>
      obtain ⟨σ8, H8, J8, q8⟩ := hf
      exact (J8.unsuite J5.ok).unbind hN hi hk fun s9 J9 => ⟨_, _, J9, q8⟩
    | ret u =>
      obtain ⟨v, σ8, H8, J8, r8, q8⟩ := hf
      exact (J8.unsuite J5.ok).unbind hN hi hk fun s9 J9 => ⟨v, _, _, J9, r8, q8⟩
  cases f with
  | next =>
    obtain ⟨σ8, H8, J8, q8⟩ := hf
    exact wpAny_execs_nil ⟨σ8, H8, J8.unother, q8⟩
  | brk =>
    obtain ⟨σ8, H8, J8, q8⟩ := hf
    exact ⟨σ8, H8, J8.unother, q8⟩
  | cont =>
    obtain ⟨σ8, H8, J8, q8⟩ := hf
    exact ⟨σ8, H8, J8.unother, q8⟩
  | ret u =>
    obtain ⟨v, σ8, H8, J8, r8, q8⟩ := hf
    exact ⟨v, σ8, H8, J8.unother, r8, q8⟩
end
end L2
namespace L2
open PySem PySem.Spec PyProof.Rows
/-- THE RULE for a def that may raise: its body as a term of rules, and the reading of that term -/
theorem Fun.okX {P : Program} {w : World} {K : PySem.W.Frag} {mg : Str → Option Value} {base : Heap} {x qual : Str} {st : Stmt} {f : Addr} {fd : FuncData} {N ps : List Str} {k : Nat} {sp : Sp} (F : Fun K x qual st f fd) (S : FnScope N ps (defScope st)) (len : ∀ vs H Q E, sp vs H Q E → vs.length = ps.length)
    (hbody : ∀ (cdv : Value) (A : Around) (outer : List Env) (s : Shared) (H : Hp) (vs : List V) (Q : VK) (E : XK), LvR (cxOf (CXE P w) P w K mg base N qual (defScope st) f cdv A outer s H E) (fun _ => E) → Room k (A.deeper (envOfC qual (defScope st) s.heap.objs.size f cdv)) → sp vs H Q E →
      ∃ t, PSs (cxOf (CXE P w) P w K mg base N qual (defScope st) f cdv A outer s H E) (defBody st) t ∧ t { nx := fun _ H' => Q .non H', rt := Q } (start N vs) H) : FnOk P w K mg base (CXE P w) (k + 1) f fd ps sp := by
  obtain ⟨oc, od, kV, doc, pm, an, cdv, ct, osl, rfl, lk, hcd⟩ := F.ex
  exact fn_of lk hcd S len fun A outer s H vs Q E hr hsp => hbody cdv A outer s H vs Q E lv_def hr hsp
end L2

/-! ## MORE RULES over the layer: isinstance, any, ... -/
namespace L2
open PySem PySem.Spec PyProof.Rows
theorem bb_len : bootBuiltins "len" = some (.builtin "len") := by decide +kernel
theorem bb_min : bootBuiltins "min" = some (.builtin "min") := by decide +kernel
theorem bb_max : bootBuiltins "max" = some (.builtin "max") := by decide +kernel
theorem bb_divmod : bootBuiltins "divmod" = some (.builtin "divmod") := by decide +kernel
theorem bb_isinstance : bootBuiltins "isinstance" = some (.builtin "isinstance") := by decide +kernel
theorem bb_int : bootBuiltins "int" = some (.type "int") := by decide +kernel
theorem bb_bool : bootBuiltins "bool" = some (.type "bool") := by decide +kernel
theorem bb_tuple : bootBuiltins "tuple" = some (.type "tuple") := by decide +kernel
theorem bb_list : bootBuiltins "list" = some (.type "list") := by decide +kernel
/-! ### the class of an exception that lies there -/
open PySem.Builtin PySem.Builtin.ObjectAttr PySem.Builtin.Getset_descriptor
structure ExcCls (K : PySem.W.Frag) (D : Addr) : Prop where
  cls : (PySem.W.clsIn K D).isSome = true
  ga : PySem.W.findIn K (.ref D) "__getattribute__" = some (some (.builtin "BaseException.__getattribute__"))
  gt : PySem.W.findIn K (.ref D) "__getattr__" = some none
  cl : PySem.W.findIn K (.ref D) "__class__" = some (some (.builtin "object.__class__"))
  mo : PySem.W.mroIn K D (.type "object") = some true
  mb : PySem.W.mroIn K D (.type "BaseException") = some true
section
variable {prog : Program} {w : World} {A : Around} {E : Value → Shared → Prop} {h : Heap} {g : Array GenState} {d : Drawn} {t : Nat} {os : OsState} {K : PySem.W.Frag} {a D : Addr} {o : Obj}
theorem exc_ty {M : Model} (hx : h.get? a = some o) (hc : o.cls = .ref D) : PySem.W.Looks M h (typeOf (.ref a)) (.ref D) := hc ▸ (PySem.W.Looks.ld hx).andThen .now
theorem exc_class_get {R : Result → Shared → Prop} (X : K.In h) (C : ExcCls K D) (hx : h.get? a = some o) (hc : o.cls = .ref D) (hq : R (.ok (.ret (.ref D))) ⟨h, g, d, t, os⟩) :
    codeAny (model prog w) A (.call (.builtin "getset_descriptor.__get__") ⟨[.builtin "object.__class__", .ref a, .ref D], []⟩) R ⟨h, g, d, t, os⟩ := by
  have L0 := exc_ty (M := model prog w) hx hc
  have L1 := PySem.W.looks_mroIn (M := model prog w) X C.mo
  have T5 : (⟨h, g, d, t, os⟩ : Shared).TypeIs (.builtin "object.__class__") "getset_descriptor" := F.typeOf_object_class
  refine codeAny_call_builtin F.slot_gs_get.plain F.entry_gs_get (F.slot_gs_get.check _ _ _ _ _ _ _ _ T5 (F.args_gs_get _ _ _) ?_)
  unfold Builtin.«getset_descriptor.__get__» descrGet
  rw [PySem.W.dga_obj]
  refine wpAny_bind (wpAny_pure ?_)
  unfold descrGetter descrCheckInstance descrNameAndClass
  unfold isInstance
  simp only [PySem.W.KF.owner_class]
  repeat lk
  refine ⟨Code.quiet_builtin _ (by decide +kernel), codeAny_builtin F.entry_object_class ?_⟩
  unfold Builtin.«object.__class__»
  unfold shownTypeOf
  repeat lk
  exact hq
theorem exc_class_entry {tk : Tok} {Q : Fin → Shared → Prop} (X : K.In h) (C : ExcCls K D) (hx : h.get? a = some o) (hc : o.cls = .ref D) (hq : Q (.done (.ret (.ref D))) ⟨h, g, d, t, os⟩) :
    wpAny (model prog w) A (Builtin.«object.__getattribute__» ⟨[.ref a, .str "__class__" tk], []⟩) Q E ⟨h, g, d, t, os⟩ := by
  have L0 := exc_ty (M := model prog w) hx hc
  have L1 := PySem.W.looks_findIn (M := model prog w) X C.cl
  have T5 : (⟨h, g, d, t, os⟩ : Shared).TypeIs (.builtin "object.__class__") "getset_descriptor" := F.typeOf_object_class
  have f5 := F.typeOf_object_class
  have f6 := F.slot_gs_get.lookup
  have f7 := F.slot_gs_set.lookup
  repeat (any_goals (first | assumption | (with_reducible refine wpAny_loadPart_at hx ?_; rw [hc]) | with_reducible refine PySem.W.Looks.at L1 ?_ | wp_step))
  refine exc_class_get X C hx hc ?_
  repeat (any_goals (first | assumption | wp_step))
theorem exc_class_call {tk : Tok} {R : Result → Shared → Prop} (X : K.In h) (C : ExcCls K D) (hx : h.get? a = some o) (hc : o.cls = .ref D) (hq : R (.ok (.ret (.ref D))) ⟨h, g, d, t, os⟩)
    (hk : ∀ (Q : Unit → Shared → Prop) (E : Value → Shared → Prop) (A : Around) (nameV : Value), Q () ⟨h, g, d, t, os⟩ → wpAny (model prog w) A (checkBuiltinCall "BaseException.__getattribute__" ⟨[.ref a, nameV], []⟩) Q E ⟨h, g, d, t, os⟩) :
    codeAny (model prog w) A (.call (.builtin "BaseException.__getattribute__") ⟨[.ref a, .str "__class__" tk], []⟩) R ⟨h, g, d, t, os⟩ :=
  codeAny_call_builtin F.excAttr_ValueError.ga.plain F.entry_bexc_ga (hk _ _ _ _ (exc_class_entry X C hx hc hq))
theorem exc_check {M : Model} {nameV : Value} {Q : Unit → Shared → Prop} (X : K.In h) (C : ExcCls K D) (hx : h.get? a = some o) (hc : o.cls = .ref D) (hq : Q () ⟨h, g, d, t, os⟩) :
    wpAny M A (checkBuiltinCall "BaseException.__getattribute__" ⟨[.ref a, nameV], []⟩) Q E ⟨h, g, d, t, os⟩ := by
  have k1 : builtinKind "BaseException.__getattribute__" = some .slot := by decide +kernel
  have k2 : splitId "BaseException.__getattribute__" = some ("BaseException", "__getattribute__") := by decide +kernel
  have L0 := exc_ty (M := M) hx hc
  have L1 := PySem.W.looks_mroIn (M := M) X C.mb
  have k3 := F.args_bexc_ga (.ref a) nameV
  simp only [checkBuiltinCall, k1, k2]
  refine wpAny_bind ?_
  unfold isInstance
  repeat (any_goals (first | assumption | (with_reducible refine wpAny_loadPart_at hx ?_; rw [hc]) | with_reducible refine PySem.W.Looks.at L1 ?_ | wp_step))
theorem exc_class_attr {Q : Option Value → Shared → Prop} (X : K.In h) (C : ExcCls K D) (hx : h.get? a = some o) (hc : o.cls = .ref D) (hq : Q (some (.ref D)) ⟨h, g, d, t + 1, os⟩) :
    wpAny (model prog w) A (getAttr? (.ref a) "__class__") Q E ⟨h, g, d, t, os⟩ := by
  have L0 := exc_ty (M := model prog w) hx hc
  have L1 := PySem.W.looks_findIn (M := model prog w) X C.ga
  have L2 := PySem.W.looks_findIn (M := model prog w) X C.gt
  have f3 := F.excAttr_ValueError.ga.bind (.ref a)
  have x2 : (Value.builtin "BaseException.__getattribute__" == Value.builtin "object.__getattribute__") = false := by decide +kernel
  have x1 : (onTheHeap (Value.ref D) && Value.builtin "BaseException.__getattribute__" == Value.builtin "object.__getattribute__") = false := by rw [x2]; rfl
  have x0 : (false && onTheHeap (Value.builtin "BaseException.__getattribute__")) = false := rfl
  unfold getAttr? getAttrBy?
  repeat (any_goals (first | assumption | (with_reducible refine wpAny_loadPart_at hx ?_; rw [hc]) | with_reducible refine PySem.W.Looks.at L1 ?_ | with_reducible refine PySem.W.Looks.at L2 ?_ | wp_step))
  refine exc_class_call X C hx hc ?_ (fun Q E A n q => exc_check X C hx hc q)
  repeat (any_goals (first | assumption | wp_step))
end

/-- isinstance of an exception that lies there -/
theorem kitx_exc {K : PySem.W.Frag} {a D : Addr} (C : ExcCls K D) : PySem.W.KitX K (.ref a) (.ref D) (fun h => ∃ o vs, h.get? a = some o ∧ o.cls = .ref D ∧ o.data = .fields vs) where
  ty := fun _ _ _ ⟨_, _, h1, h2, _⟩ => exc_ty h1 h2
  it := fun _ _ X _ => by
    obtain ⟨cd, hc⟩ := Option.isSome_iff_exists.mp C.cls
    unfold PySem.W.clsIn at hc
    split at hc
    case h_2 => cases hc
    case h_1 ho =>
      intro A' Q' E' s' k q
      unfold isType loadHead
      exact wpAny_bind (wpAny_loadPart (k _ _ (X _ _ ho)) (wpAny_pure q))
  ne := fun h tp dd its n sl X htp => by
    obtain ⟨cd, hc⟩ := Option.isSome_iff_exists.mp C.cls
    unfold PySem.W.clsIn at hc
    refine Bool.eq_false_iff.mpr fun q => ?_
    obtain rfl : D = tp := Value.ref.inj (beq_iff_eq.mp q)
    split at hc
    case h_2 => cases hc
    case h_1 ho => cases (X _ _ ho).symm.trans htp
  ca := fun {_ _ _ _ _ s} X ⟨_, _, h1, h2, _⟩ k => by
    obtain ⟨h, g, d, t, os⟩ := s
    exact exc_class_attr X C h1 h2 k
/-- what a value's class is -/
inductive TyX (K : PySem.W.Frag) (H : Hp) : V → Value → Prop where
  | old {x : V} {t : Value} (h : TyOf K H x t) : TyX K H x t
  | exc {a D : Addr} (e : H a = some (excAt a (.ref D))) (C : ExcCls K D) : TyX K H (.ref a) (.ref D)
theorem call_isinst {X : Cx} : CallR X (.builtin "isinstance") (fun xs H Q => ∃ x c t cv b, xs = [x, c] ∧ TyX X.K H x t ∧ RelV c cv ∧ PySem.W.kitOne X.K t cv = some b ∧ Q (.bl b) H) := by
  intro pins s σ H xs us Q I r h
  obtain ⟨x, c, t, cv, b, rfl, ty, rc, e, q⟩ := h
  obtain ⟨u, u2, rfl, r1, r2⟩ := vals2 r
  have e2 : u2 = cv := by
    cases c <;> first
      | exact r2.trans rc.symm
      | (exfalso
         obtain ⟨t2, z⟩ := rc
         subst z
         revert e
         unfold PySem.W.kitOne PySem.W.kitCls
         cases ty with
         | exc e C => simp
         | old h => cases h <;> simp)
  subst e2
  cases ty with
  | old h => exact isinst_ok I r1 h e fun tk => ⟨.bl b, H, I.tok tk, rfl, q⟩
  | @exc a D ea C =>
    cases (show u = Value.ref a from r1)
    obtain ⟨p, _⟩ := (show ObjOk X.prog X.w H s.heap a (excAt a (.ref D)) from I.hok a _ ea)
    exact PySem.W.kia_one (kitx_exc C) I.kIn p e (fun z => nomatch z) fun tk => ⟨.bl b, H, I.tok tk, rfl, q⟩
/-- a class of the text -/
structure ClsOk (K : PySem.W.Frag) (C : Addr) : Prop where
  cls : (PySem.W.clsIn K C).isSome = true
  ty : PySem.W.typeIn K (.ref C) = some (.type "type")
  me : PySem.W.mroIn K C (.ref C) = some true
theorem kit_ref {K : PySem.W.Frag} {D C : Addr} {b : Bool} (hC : ClsOk K C) (e : PySem.W.mroIn K D (.ref C) = some b) : PySem.W.kitOne K (.ref D) (.ref C) = some b := by
  unfold PySem.W.kitOne
  by_cases q : (Value.ref D == Value.ref C) = true
  · rw [if_pos q]
    obtain rfl : D = C := Value.ref.inj (beq_iff_eq.mp q)
    rw [hC.me] at e
    exact e
  · rw [if_neg q]
    unfold PySem.W.kitCls PySem.W.subIn
    simp only [hC.cls, hC.ty, beq_self_eq_true, Bool.and_self, if_true]
    exact e
theorem exm_ref {K : PySem.W.Frag} {D C : Addr} {b : Bool} (hC : ClsOk K C) (hb : PySem.W.mroIn K C (.type "BaseException") = some true) (e : PySem.W.mroIn K D (.ref C) = some b) : PySem.W.exmOne K (.ref D) (.ref C) = some b := by
  unfold PySem.W.exmOne PySem.W.kitCls PySem.W.subIn
  simp only [hb, hC.cls, hC.ty, beq_self_eq_true, Bool.and_self, if_true]
  exact e
theorem kit_int_int {K : PySem.W.Frag} : PySem.W.kitOne K (.type "int") (.type "int") = some true := by
  unfold PySem.W.kitOne
  rw [if_pos (by decide)]
theorem kit_int_bool {K : PySem.W.Frag} : PySem.W.kitOne K (.type "int") (.type "bool") = some false := by
  unfold PySem.W.kitOne
  rw [if_neg (by decide)]
  kernel_rfl
section
variable {X : Cx}
end
section
variable {X : Cx}
/-- a class or a def of the text as a value; a built-in type -/
theorem pe_ref {x : Str} {a : Addr} {pos : Pos} (hg : Gl X x) (hm : X.mg x = some (.ref a)) (hd : (x == ("__debug__" : Str)) = false := by decide) : PE X (.Name x pos) (tC (.ref a)) := pe_glob (v := .ref a) hg hm rfl hd
theorem pe_ty {x : Str} {n : String} {pos : Pos} (hg : Gl X x) (hm : X.mg x = none) (hv : bootBuiltins x = some (.type n)) (hn : x ≠ "__name__" := by decide) (hd : (x == ("__debug__" : Str)) = false := by decide) : PE X (.Name x pos) (tC (.ty n)) :=
  pe_bltn (v := .ty n) hg hm hv rfl hn hd
end
theorem cx_K {CX : CXT} {P : Program} {w : World} {K : PySem.W.Frag} {mg : Str → Option Value} {base : Heap} {N : List Str} {qual : Str} {scope : Scope} {f : Addr} {cd : Value} {A : Around} {outer : List Env} {s : Shared} {H : Hp} {E : XK} :
    (cxOf CX P w K mg base N qual scope f cd A outer s H E).K = K := rfl
theorem slT {n : Nat} (h : n ≤ 1000) : (n ≤ sizeLine) = True := eq_true (Nat.le_trans h (by decide))
theorem ixL {K : PySem.W.Frag} {H : Hp} {p : Addr} {xs : List V} {i : Int} {v : V} {Q : VK} (h : SqL K H p xs) (e : atI xs i = some v) (q : Q v H) : rIxL K (.ref p) (.int i) H Q := ⟨p, xs, i, v, rfl, rfl, h, e, q⟩
theorem ixT {K : PySem.W.Frag} {H : Hp} {p : Addr} {xs : List V} {i : Int} {v : V} {Q : VK} (h : SqT K H p xs) (e : atI xs i = some v) (q : Q v H) : rIxT K (.ref p) (.int i) H Q := ⟨p, xs, i, v, rfl, rfl, h, e, q⟩
theorem at_ints {xs : List Int} {i : Int} (h0 : 0 ≤ i) (h1 : i < xs.length) : atI (xs.map V.int) i = some (.int (xs.getD i.toNat 0)) := by
  obtain ⟨k, rfl⟩ := Int.eq_ofNat_of_zero_le h0
  have hk : k < xs.length := by omega
  refine atI_nat ?_
  rw [List.getElem?_map, List.getElem?_eq_getElem hk, Int.toNat_natCast, List.getD_eq_getElem?_getD, List.getElem?_eq_getElem hk]
  rfl
theorem same_new {H : Hp} {p : Addr} (h : H p = none) (o : HO) : Same H (upd H p o) := fun b u q => by rw [upd_ne (ne_of_none q h)]; exact q
theorem scal_ii (a b : Int) : (scal (.int a) (.int b) = true) = True := eq_true rfl
theorem scal_bb (a b : Bool) : (scal (.bl a) (.bl b) = true) = True := eq_true rfl
theorem scal_ss (a b : Str) : (scal (.str a) (.str b) = true) = True := eq_true rfl
theorem scal_ni (b : Int) : (scal .non (.int b) = true) = True := eq_true rfl
theorem scal_in (a : Int) : (scal (.int a) .non = true) = True := eq_true rfl
end L2

/-! ## tuples of ints compared; small rules -/
namespace L2
open PySem PySem.Spec PyProof.Rows
section
variable {X : Cx}
end
theorem same_upd {H H' : Hp} {p : Addr} {o : HO} (s : Same H H') (h : H p = none) : Same H (upd H' p o) := fun b u q => by
  rw [upd_ne (ne_of_none q h)]
  exact s b u q
theorem Same.sqT {K : PySem.W.Frag} {H H' : Hp} {a : Addr} {xs : List V} (e : Same H H') (h : SqT K H a xs) : SqT K H' a xs := by
  rcases h with (h | ⟨o, h⟩) | h
  · exact .inl (.inl (e _ _ h))
  · exact .inl (.inr ⟨o, e _ _ h⟩)
  · exact .inr h
theorem kit_tup_tup {K : PySem.W.Frag} : PySem.W.kitOne K (.type "tuple") (.type "tuple") = some true := by
  unfold PySem.W.kitOne
  rw [if_pos (by decide)]
end L2

/-! ## a cut between statements; a call of a local; rules inside a try -/
namespace L2
open PySem PySem.Spec PyProof.Rows
/-- the statement's end is named once: what follows is read once -/
def tCut (t : TS) : TS := fun D σ H => ∃ R : St → Hp → Prop, t { D with nx := R } σ H ∧ ∀ σ' H', R σ' H' → D.nx σ' H'
theorem ps_cut {X : Cx} {st : Stmt} {t : TS} (h : PS X st t) : PS X st (tCut t) := by
  intro pins s σ H D I q
  obtain ⟨R, q1, q2⟩ := q
  refine thn (h pins s σ H { D with nx := R } I q1) fun f s1 z => ?_
  cases f with
  | next =>
    obtain ⟨σ', H', I', z⟩ := z
    exact ⟨σ', H', I', q2 _ _ z⟩
  | ret v => exact z
  | brk => exact z
  | cont => exact z
section
variable {X : Cx} {Ek : St → XK} {k : Nat} {f : Addr} {fd : FuncData} {ps : List Str} {sp : Sp} {x : Str} {p pos : Pos} {e : Expr} {es : List Expr} {t : TA}
/-- g(e, ..), g a local that holds the def at f -/
def tCallL (i : Nat) (f : Addr) (sp : Sp) (Ek : St → XK) (t : TA) : TE := fun σ H Q => σ[i]? = some (some (.ref f)) ∧ t σ H fun vs H1 => sp vs H1 Q (Ek σ)
end
section
variable {X : Cx} {K : PySem.W.Frag}
end
end L2

/-! ## texts, as lists of their signs' numbers -/
namespace L2
open PySem PySem.Spec PyProof.Rows
/-- the text of these signs -/
def SL (cs : List Nat) : Str := ⟨cs.toArray⟩
theorem SL_len (cs : List Nat) : (SL cs).length = cs.length := by show cs.toArray.size = _; simp
theorem SL_app (a b : List Nat) : SL a ++ SL b = SL (a ++ b) := by
  show (⟨a.toArray ++ b.toArray⟩ : Str) = ⟨(a ++ b).toArray⟩
  simp
theorem SL_inj (a b : List Nat) : (SL a = SL b) = (a = b) := by
  refine propext ⟨fun h => ?_, fun h => by rw [h]⟩
  have := congrArg (fun z : Str => z.cps.toList) h
  exact this
/-- the walk over a text -/
def Its (x : Str) : It := ⟨fun i _ => i < x.cps.size, fun i H v H' => H' = H ∧ ∃ c, x.cps[i]? = some c ∧ v = .str ⟨#[c]⟩, fun i _ => i = x.cps.size⟩
section
variable {X : Cx} {tg : Expr}
def iStr (tl : TE) : TI := fun σ H R => tl σ H fun x H1 => ∃ z, x = .str z ∧ R (Its z) H1
end
/-- the figures of a number -/
def dg (n : Nat) : List Nat := (Nat.toDigits 10 n).map Char.toNat
section
variable {X : Cx}
theorem pe_strL {x : Str} {cs : List Nat} {j pos} (e : x = SL cs) : PE X (.Constant (.str x) j pos) (tC (.str (SL cs))) := e ▸ pe_str
theorem op_add_s : OpR X (binaryOp .Add) (fun x y H Q => ∃ a b, x = .str (SL a) ∧ y = .str (SL b) ∧ a.length + b.length ≤ sizeLine ∧ Q (.str (SL (a ++ b))) H) := by
  intro pins s σ H x y v u Q I rx ry h
  obtain ⟨a, b, rfl, rfl, hz, q⟩ := h
  exact op_add_str pins s σ H _ _ v u Q I rx ry ⟨_, _, rfl, rfl, by rw [SL_len, SL_len]; exact hz, by rw [SL_app]; exact q⟩
theorem ix_s : IxR X (fun x y H Q => ∃ cs i c, x = .str (SL cs) ∧ y = .int i ∧ cs.length ≤ sizeLine ∧ atI cs i = some c ∧ Q (.str (SL [c])) H) := by
  intro value slice pins s σ H x y v u Q I rx ry h hs
  obtain ⟨cs, i, c, rfl, rfl, hz, he, q⟩ := h
  exact ix_str value slice pins s σ H _ _ v u Q I rx ry ⟨_, i, c, rfl, rfl, by rw [SL_len]; exact hz, he, q⟩ hs
end
def zf (cs : List Nat) (n : Nat) : List Nat := List.replicate (n - cs.length) 48 ++ cs
section
variable {X : Cx}
end
end L2

namespace L2
open PySem PySem.NumText
/-- the last k figures of a number, by the signs' numbers -/
def fig : Nat → Int → List Nat
  | 0, _ => []
  | k + 1, n => (48 + (n / 10 ^ k % 10).toNat) :: fig k n
theorem fig_snoc : ∀ (k : Nat) (n : Int), fig (k + 1) n = fig k (n / 10) ++ [48 + (n % 10).toNat]
  | 0, n => by
    show [48 + (n / 10 ^ 0 % 10).toNat] = [48 + (n % 10).toNat]
    rw [Int.pow_zero, Int.ediv_one]
  | k + 1, n => by
    have e : n / 10 / 10 ^ k = n / 10 ^ (k + 1) := by
      rw [Int.pow_succ, Int.mul_comm, Int.ediv_ediv_of_nonneg (by decide)]
    show (48 + (n / 10 ^ (k + 1) % 10).toNat) :: fig (k + 1) n = ((48 + (n / 10 / 10 ^ k % 10).toNat) :: fig k (n / 10)) ++ _
    rw [fig_snoc k n, e]
    rfl
theorem fig_digits : ∀ (k : Nat) (n : Int), AllDigits (fig k n)
  | 0, _ => fun c h => by cases h
  | k + 1, n => fun c h => by
    rcases List.mem_cons.mp h with rfl | h
    · have := Int.emod_lt_of_pos (n / 10 ^ k) (show (0 : Int) < 10 by decide)
      omega
    · exact fig_digits k n c h
theorem digit_char : ∀ d : Nat, d < 10 → (Nat.digitChar d).toNat = 48 + d := by decide
theorem dg_lt {n : Nat} (h : n < 10) : dg n = [48 + n] := by
  unfold dg
  rw [Nat.toDigits_of_lt_base h, List.map_cons, List.map_nil, digit_char n h]
theorem dg_ge {n : Nat} (h : 10 ≤ n) : dg n = dg (n / 10) ++ [48 + n % 10] := by
  have hm : n % 10 < 10 := Nat.mod_lt n (by decide)
  have t : Nat.toDigits 10 (n / 10) ++ Nat.toDigits 10 (n % 10) = Nat.toDigits 10 (10 * (n / 10) + n % 10) := Nat.toDigits_append_toDigits (by decide) (by omega) hm
  rw [Nat.div_add_mod] at t
  unfold dg
  rw [← t, List.map_append, Nat.toDigits_of_lt_base hm, List.map_cons, List.map_nil, digit_char _ hm]
theorem dg_digits (n : Nat) : AllDigits (dg n) := by
  induction n using Nat.strongRecOn with
  | _ n ih =>
    by_cases h : n < 10
    · rw [dg_lt h]
      intro c hc
      rw [List.mem_singleton] at hc
      omega
    · rw [dg_ge (by omega)]
      intro c hc
      rcases List.mem_append.mp hc with hc | hc
      · exact ih (n / 10) (by omega) c hc
      · rw [List.mem_singleton] at hc
        omega
theorem dg_pos (n : Nat) : 0 < (dg n).length := by
  by_cases h : n < 10
  · rw [dg_lt h]; exact Nat.one_pos
  · rw [dg_ge (by omega), List.length_append]; exact Nat.succ_pos _
theorem getD_in {xs : List Int} {lo hi : Int} (h : ∀ x ∈ xs, lo ≤ x ∧ x ≤ hi) {i : Int} (h0 : 0 ≤ i) (h1 : i < xs.length) : lo ≤ xs.getD i.toNat 0 ∧ xs.getD i.toNat 0 ≤ hi := by
  have hl : i.toNat < xs.length := by omega
  rw [List.getD_eq_getElem?_getD, List.getElem?_eq_getElem hl]
  exact h _ (List.getElem_mem hl)
end L2

/-! ## a list unpacked; str.replace (its arguments' tokens must not be 0) -/
namespace L2
open PySem PySem.Spec PyProof.Rows
section
variable {prog : Program} {w : World} {A : Around} {E : Value → Shared → Prop}
theorem draw_list {it l : Addr} {items : Array Value} (hne : l ≠ it) : ∀ (n i : Nat) (s : Shared) (Q : List Value → Shared → Prop), s.heap.IsListIter it l i → s.heap.IsList l items → i + n ≤ items.size →
    (∀ h', h'.IsListIter it l (i + n) → Heap.SameBut it s.heap h' → Q ((items.toList.drop i).take n) { s with heap := h' }) → wpAny (model prog w) A (draw (.ref it) n) Q E s
  | 0, i, s, Q, hit, _, _, hQ => by
    show wpAny _ _ (pure []) Q E s
    exact wpAny_pure (by simpa using hQ s.heap hit (Heap.SameBut.refl ..))
  | n + 1, i, s, Q, hit, ht, hle, hQ => by
    have hlt : i < items.size := by omega
    show wpAny _ _ (pyNext (.ref it) >>= _) Q E s
    refine wpAny_bind (wpAny_pyNext_list_item hit ht (x := items[i]) (by simp [hlt]) fun h₁ hit₁ hs₁ => ?_)
    refine wpAny_bind (wpAny_holding (draw_list hne n (i + 1) _ _ hit₁ (ht.extBut hs₁.extBut hne) (by omega) fun h₂ hit₂ hs₂ => wpAny_pure ?_))
    have hd : items.toList.drop i = items[i] :: items.toList.drop (i + 1) := by simp [List.drop_eq_getElem_cons, hlt]
    have := hQ h₂ (by rw [show i + (n + 1) = i + 1 + n by omega]; exact hit₂) (hs₁.trans hs₂)
    rw [hd, List.take_succ_cons] at this
    exact this
theorem unpackItems_list {s : Shared} {t : Addr} {items : Array Value} {Q : List Value → Shared → Prop} (hh : A.handled = none) (ht : s.heap.IsList t items)
    (hQ : ∀ h', Heap.ExtBut s.heap.objs.size s.heap h' → Q items.toList { s with heap := h' }) : wpAny (model prog w) A (unpackItems (.ref t) items.size none) Q E s := by
  have hlt : t ≠ s.heap.objs.size := by obtain ⟨o, ho, _⟩ := ht; exact Nat.ne_of_lt (Heap.lt_size ho)
  have hp : ∀ o, (s.heap.push o).IsList t items := fun o => ht.at fun _ e => Heap.get?_push_of_some _ e
  unfold unpackItems
  refine wpAny_bind ?_
  · unfold notIterableAtAll
    refine wpAny_bind (wpAny_specialOf ht.typeIs F.slot_list_iter.lookup ?_)
    refine wpAny_pure ?_
    simp only [Bool.false_eq_true, if_false]
    refine wpAny_bind (wpAny_holding (wpAny_pyIter_list ht ?_))
    refine wpAny_bind (wpAny_holding (draw_list hlt items.size 0 _ _ ⟨_, Heap.get?_push_size _ rfl, rfl, rfl⟩ (hp _) (by omega) fun h₁ hit₁ hs₁ => ?_))
    have hall : List.take items.size (List.drop 0 items.toList) = items.toList := by
      rw [List.drop_zero]; exact List.take_of_length_le (by simp)
    rw [hall]
    rw [if_neg (by simp)]
    have ht₁ : h₁.IsList t items := (hp _).extBut hs₁.extBut hlt
    refine wpAny_bind (wpAny_holding (wpAny_pyNext_list_end hh hit₁ ht₁ (by simp) fun h₂ he₂ => ?_))
    simp only [Option.isSome_none, Bool.false_eq_true, if_false]
    refine wpAny_pure (hQ h₂ fun b o hb e => he₂ b o hb (hs₁.extBut b o hb (Heap.get?_push_of_some _ e)))
theorem assign_Tuple_list {s : Shared} {env : Env} {elts : List Expr} {x1} {pos : Pos} {t : Addr} {items : Array Value} {Q : Unit → Shared → Prop} (hh : A.handled = none) (ht : s.heap.IsList t items)
    (hn : (assignEach elts env).length = items.size) (hstar : (assignEach elts env).findIdx? (·.1) = none)
    (h : ∀ h', Heap.ExtBut s.heap.objs.size s.heap h' → wpAny (model prog w) A (assignInOrder ((assignEach elts env).map (·.2)) items.toList) Q E { s with heap := h' }) :
    wpAny (model prog w) A (assign (.Tuple elts x1 pos) env (.ref t)) Q E s := by
  rw [assign_Tuple]
  refine wpAny_bind (wpAny_standAt ?_)
  unfold unpack
  rw [hn, hstar]
  exact wpAny_bind (wpAny_holding (unpackItems_list hh ht h))
end
section
variable {X : Cx} {pos : Pos}
def gLst (K : PySem.W.Frag) (n : Nat) (t : TGs) : TG := fun v σ H Q => ∃ a xs, v = .ref a ∧ SqL K H a xs ∧ xs.length = n ∧ t xs σ H Q
theorem pg_lst {es : List Expr} {k : Nat} {t : TGs} {n : Nat} (hc : X.calm = true) (h : PGs X es t)
    (hn : (assignEach es X.env).length = n := by rfl) (hst : (assignEach es X.env).findIdx? (·.1) = none := by rfl) : PG X (.Tuple es k pos) (gLst X.K n t) := by
  intro pins s σ H v u Q I r hw
  obtain ⟨a, xs, e1, hq, hl, hw⟩ := hw
  subst e1
  cases r
  obtain ⟨its, rv, ht, hz⟩ := I.list hq
  refine assign_Tuple_list (I.ok.hd hc) ht.isList (by simp [hn, ← hl, rv.length]) hst fun h' hx => ?_
  have I1 : Inv X pins σ H { s with heap := h' } := I.kept (t' := s.toks) fun b o e => hx b o (Nat.ne_of_lt (Heap.lt_size e)) e
  exact h pins _ σ H xs _ Q I1 (by simpa using rv) hw
end
/-! ### where a token has been made -/
def PEt (X : Cx) (e : Expr) (t : TE) : Prop :=
  ∀ (pins : List (Addr × Obj)) (s : Shared) (σ : St) (H : Hp) (Q : VK), 0 < s.toks → Inv X pins σ H s → t σ H Q → wpAny (model X.prog X.w) X.A (eval e X.env) (EP X pins σ Q) X.xe s
def PAt (X : Cx) (es : List Expr) (t : TA) : Prop :=
  ∀ (pos : Pos) (pins : List (Addr × Obj)) (s : Shared) (σ : St) (H : Hp) (Q : List V → Hp → Prop), 0 < s.toks → Inv X pins σ H s → t σ H Q → wpAny (model X.prog X.w) X.A (spliced (backTo pos (starEach es X.env))) (AP X pins σ Q) X.xe s
def PSst (X : Cx) (st : List Stmt) (t : TS) : Prop :=
  ∀ (pins : List (Addr × Obj)) (s : Shared) (σ : St) (H : Hp) (D : Ends), 0 < s.toks → Inv X pins σ H s → t D σ H → wpAny (model X.prog X.w) X.A (execs st X.env) (SP X pins D) X.xe s
section
variable {X : Cx} {a b e o : Expr} {es : List Expr} {te ta tb to : TE} {t : TA} {pos apos cpos : Pos}
end
theorem at_strs {ys : List (List Nat)} {i : Int} (h0 : 0 ≤ i) (h1 : i < ys.length) : ∃ y, y ∈ ys ∧ atI (ys.map fun y => V.str (SL y)) i = some (.str (SL y)) := by
  obtain ⟨k, rfl⟩ := Int.eq_ofNat_of_zero_le h0
  have hk : k < ys.length := by omega
  refine ⟨ys[k], List.getElem_mem hk, atI_nat ?_⟩
  rw [List.getElem?_map, List.getElem?_eq_getElem hk]
  rfl
end L2

/-! ## list comprehensions: the block as a context of its own -/
namespace L2
open PySem PySem.Spec PyProof.Rows
section
variable {prog : Program} {w : World} {A : Around} {R : Result → Shared → Prop} {s : Shared}
abbrev NoE : Value → Shared → Prop := fun _ _ => False
theorem compLoop_go {elt target iter : Expr} {ifs : List Expr} {scope : Scope} {pos : Pos} {it acc : Value} {env : Env} (I : Nat → Shared → Prop)
    (turn : ∀ n s, I n s → wpAny (model prog w) A (pyNext it) (fun r s₁ => match r with
      | none => R (.ok .next) s₁
      | some v => wpAny (model prog w) A (letOwnedTupleGo target it v) (fun _ s₁' => wpAny (model prog w) A (assign target env v) (fun _ s₂ =>
          wpAny (model prog w) A (forIn ifs true fun c r => if r = true then do let ok ← isTrue c env (eval c env); pure (ForInStep.yield ok) else pure (ForInStep.yield r)) (fun ok s₃ =>
            if ok = true then wpAny (model prog w) A (eval elt env) (fun x s₄ =>
              wpAny (model prog w) A (call (.builtin "list.append") [acc, x]) (fun _ s₅ => ∃ m, m < n ∧ I m s₅) NoE s₄) NoE s₃
            else ∃ m, m < n ∧ I m s₃) NoE s₂) NoE s₁') NoE s₁) NoE s)
    (n : Nat) (h : I n s) :
    codeAny (model prog w) A (.compLoop (.ListComp elt [⟨target, iter, ifs, 0⟩] scope pos) 0 it acc env) R s := by
  refine codeAny_loop rfl I (fun n s hI => ?_) n h
  show wpAny _ A ((compTurn (.ListComp elt [⟨target, iter, ifs, 0⟩] scope pos) 0 it acc env).onRaise (fun x => do noteFrame x env; theTreesLotGoes x)) _ _ s
  refine wpAny_noted ?_
  rw [compTurn_list]
  refine wpAny_bind (wpAny_standAt (wpAny_bind (wpAny_mono (turn n s hI) (fun r s₁ h₁ => ?_) fun _ _ h' => h'.elim)))
  cases r with
  | none => exact wpAny_pure h₁
  | some v =>
    refine wpAny_bind (wpAny_mono h₁ (fun _ s₁' h₁' => ?_) fun _ _ h' => h'.elim)
    refine wpAny_bind (wpAny_mono h₁' (fun _ s₂ h₂ => wpAny_bind (wpAny_mono h₂ (fun ok s₃ h₃ => ?_) fun _ _ h' => h'.elim)) fun _ _ h' => h'.elim)
    cases ok with
    | false => exact wpAny_pure ⟨rfl, h₃⟩
    | true =>
      exact wpAny_bind (wpAny_bind (wpAny_mono h₃ (fun x s₄ h₄ => wpAny_bind (wpAny_mono h₄ (fun _ s₅ h₅ => wpAny_pure (wpAny_pure ⟨rfl, h₅⟩)) fun _ _ h' => h'.elim)) fun _ _ h' => h'.elim))
end
/-- what a comprehension's block stands on -/
structure CA where
  cl : List (Str × Addr)
  C : Addr
  s : Shared
  H : Hp
  fp : List Addr
def Cx.comp (X : Cx) (scope : Scope) (N : List Str) (a : CA) : Cx :=
  { X with N := N, s₀ := a.s, H₀ := a.H, env := compEnvC scope a.cl a.C X.env, outer := X.stack, ex := a.fp, fn := fun _ => false, pn := [], xe := NoE }
theorem comp_K {X : Cx} {scope : Scope} {N : List Str} {a : CA} : (X.comp scope N a).K = X.K := rfl
theorem lv_no {X : Cx} : Lv X (fun _ _ _ _ => False) := ⟨fun _ _ _ _ _ _ _ _ _ _ q => q.elim⟩
/-- the names of a block: n of its own, then those at js of the names around it -/
def capOk (outer : List (Str × NameKind)) (oN : List Str) (inner : List (Str × NameKind)) (N : List Str) (n : Nat) (js : List Nat) : Bool :=
  N.length == n + js.length &&
  (inner.all fun p => p.2 != .cell && (p.2 != .local || inner.lookup p.1 == some .local) && (p.2 != .free || (inner.lookup p.1 == some .free && (outer.lookup p.1 == some .cell || outer.lookup p.1 == some .free)))) &&
  (List.range js.length).all fun k => match js[k]?, N[n + k]? with
    | some j, some x => oN[j]? == some x && (outer.lookup x == some .cell || outer.lookup x == some .free) && inner.lookup x == some .free
    | _, _ => false
/-- the values of a block's names at its beginning -/
def capσ (σ : St) (n : Nat) (js : List Nat) : St := List.replicate n none ++ js.map fun j => (σ[j]?).join
def Sub (σ τ : St) : Prop := σ.length = τ.length ∧ ∀ (i : Nat) v, σ[i]? = some (some v) → τ[i]? = some (some v)
theorem sub_nil : Sub [] [] = True := eq_true ⟨rfl, fun i v h => by simp at h⟩
theorem sub_none {σ τ : St} {x : Option V} : Sub (none :: σ) (x :: τ) = Sub σ τ := by
  refine propext ⟨fun h => ⟨by simpa using h.1, fun i v e => by simpa using h.2 (i + 1) v (by simpa using e)⟩, fun h => ⟨by simpa using h.1, fun i v e => ?_⟩⟩
  cases i with
  | zero => simp at e
  | succ i => simpa using h.2 i v (by simpa using e)
theorem sub_some {σ τ : St} {x : V} : Sub (some x :: σ) (some x :: τ) = Sub σ τ := by
  refine propext ⟨fun h => ⟨by simpa using h.1, fun i v e => by simpa using h.2 (i + 1) v (by simpa using e)⟩, fun h => ⟨by simpa using h.1, fun i v e => ?_⟩⟩
  cases i with
  | zero => simpa using e
  | succ i => simpa using h.2 i v (by simpa using e)
/-! ### the cells that a block closes over -/
theorem closure_of {scope : Scope} {env : Env} (h : ∀ p ∈ scope.names, p.2 = NameKind.free → ∃ c, env.cells.lookup p.1 = some c) :
    ∃ cl, closureFor scope env = pure cl ∧ (∀ x c, cl.lookup x = some c → env.cells.lookup x = some c) ∧ ∀ p ∈ scope.names, p.2 = NameKind.free → ∃ c, cl.lookup p.1 = some c := by
  have go : ∀ (names : List (Str × NameKind)) (acc : List (Str × Addr)), (∀ p ∈ names, p.2 = NameKind.free → ∃ c, env.cells.lookup p.1 = some c) → (∀ x c, acc.lookup x = some c → env.cells.lookup x = some c) →
      ∃ cl, (forIn names acc (fun x r => match x with | (name, kind) => if (kind == NameKind.free) = true then do let c ← cellOf env name; pure (ForInStep.yield ((name, c) :: r)) else pure (ForInStep.yield r)) : Sem (List (Str × Addr))) = pure cl ∧
        (∀ x c, cl.lookup x = some c → env.cells.lookup x = some c) ∧ (∀ p ∈ names, p.2 = NameKind.free → ∃ c, cl.lookup p.1 = some c) ∧ ∀ x, (∃ c, acc.lookup x = some c) → ∃ c, cl.lookup x = some c := by
    intro names
    induction names with
    | nil => intro acc _ ha; exact ⟨acc, rfl, ha, fun p hp => absurd hp (by simp), fun _ q => q⟩
    | cons p r ih =>
      intro acc hp ha
      obtain ⟨nm, k⟩ := p
      by_cases hk : k = NameKind.free
      · subst hk
        obtain ⟨c, hc⟩ := hp (nm, .free) List.mem_cons_self rfl
        have ec : cellOf env nm = pure c := by unfold cellOf; rw [hc]
        have ha' : ∀ x c', ((nm, c) :: acc).lookup x = some c' → env.cells.lookup x = some c' := fun x c' e => by
          rw [List.lookup_cons] at e
          cases z : x == nm with
          | true => rw [z] at e; cases e; rw [eq_of_beq z]; exact hc
          | false => rw [z] at e; exact ha x c' e
        obtain ⟨cl, e, q1, q2, q3⟩ := ih ((nm, c) :: acc) (fun p hp' => hp p (List.mem_cons_of_mem _ hp')) ha'
        refine ⟨cl, ?_, q1, fun p hp' hf => ?_, fun x hx => q3 x ?_⟩
        · rw [List.forIn_cons]
          simp only [beq_self_eq_true, if_true, ec]
          exact e
        · rcases List.mem_cons.mp hp' with rfl | hp'
          · exact q3 nm ⟨c, by rw [List.lookup_cons, beq_self_eq_true]⟩
          · exact q2 p hp' hf
        · rw [List.lookup_cons]
          cases z : x == nm with
          | true => exact ⟨c, rfl⟩
          | false => exact hx
      · obtain ⟨cl, e, q1, q2, q3⟩ := ih acc (fun p hp' => hp p (List.mem_cons_of_mem _ hp')) ha
        refine ⟨cl, ?_, q1, fun p hp' hf => ?_, q3⟩
        · rw [List.forIn_cons]
          have z : (k == NameKind.free) = false := by simpa using hk
          simp only [z, Bool.false_eq_true, if_false]
          exact e
        · rcases List.mem_cons.mp hp' with rfl | hp'
          · exact absurd hf hk
          · exact q2 p hp' hf
  obtain ⟨cl, e, q1, q2, _⟩ := go scope.names [] h (fun x c e => by simp at e)
  refine ⟨cl, ?_, q1, q2⟩
  unfold closureFor
  simp only [pure_bind, bind_pure]
  exact e
theorem cap_facts {outer : List (Str × NameKind)} {oN : List Str} {inner : List (Str × NameKind)} {N : List Str} {n : Nat} {js : List Nat} (h : capOk outer oN inner N n js = true) :
    N.length = n + js.length ∧ (∀ p ∈ inner, p.2 ≠ NameKind.cell) ∧ (∀ p ∈ inner, p.2 = NameKind.local → inner.lookup p.1 = some .local) ∧
    (∀ p ∈ inner, p.2 = NameKind.free → inner.lookup p.1 = some .free ∧ (outer.lookup p.1 = some .cell ∨ outer.lookup p.1 = some .free)) ∧
    ∀ k j x, js[k]? = some j → N[n + k]? = some x → oN[j]? = some x ∧ (outer.lookup x = some .cell ∨ outer.lookup x = some .free) ∧ inner.lookup x = some .free := by
  unfold capOk at h
  simp only [Bool.and_eq_true, beq_iff_eq, List.all_eq_true, List.mem_range] at h
  obtain ⟨⟨h1, h2⟩, h3⟩ := h
  refine ⟨h1, fun p hp => by simpa using (h2 p hp).1.1, fun p hp e => ?_, fun p hp e => ?_, fun k j x e1 e2 => ?_⟩
  · have z := (h2 p hp).1.2
    rw [e] at z
    simpa using z
  · have z := (h2 p hp).2
    rw [e] at z
    simpa using z
  · have z := h3 k (List.getElem?_eq_some_iff.mp e1).1
    rw [e1, e2] at z
    simpa [and_assoc] using z
theorem relabel_lookup {scope : Scope} {env : Env} {x : Str} : (relabel scope env).names.lookup x = (scope.names.lookup x).map (fun k => if (k == NameKind.free && env.scope.kind == .function && env.kindOf x == some .cell) = true then NameKind.cell else k) := by
  show (scope.names.map fun (n, k) => if (k == NameKind.free && env.scope.kind == .function && env.kindOf n == some .cell) = true then (n, NameKind.cell) else (n, k)).lookup x = _
  induction scope.names with
  | nil => rfl
  | cons p r ih =>
    obtain ⟨nm, k⟩ := p
    rw [List.map_cons]
    dsimp only
    cases z : x == nm with
    | true =>
      obtain rfl := eq_of_beq z
      by_cases c : (k == NameKind.free && env.scope.kind == .function && env.kindOf x == some .cell) = true
      · simp only [c, if_true, List.lookup_cons, z, Option.map_some]
      · rw [if_neg c]
        simp only [List.lookup_cons, z, Option.map_some, if_neg c]
    | false =>
      by_cases c : (k == NameKind.free && env.scope.kind == .function && env.kindOf nm == some .cell) = true
      · rw [if_pos c]
        simp only [List.lookup_cons, z]
        exact ih
      · rw [if_neg c]
        simp only [List.lookup_cons, z]
        exact ih
section
variable {X : Cx} {scope : Scope} {N : List Str} {n : Nat} {js : List Nat} {pins : List (Addr × Obj)} {σ : St} {H : Hp} {s₃ : Shared} {cl : List (Str × Addr)} {fp : List Addr}
theorem comp_inv (cap : capOk X.env.scope.names X.N scope.names N n js = true) (hkind : scope.kind = .function) (I : Inv X pins σ H s₃) (hc1 : ∀ x c, cl.lookup x = some c → X.env.cells.lookup x = some c)
    (hc2 : ∀ p ∈ scope.names, p.2 = NameKind.free → ∃ c, cl.lookup p.1 = some c) (hf : ∀ b ∈ fp, FpOk X pins H b) (hlt : ∀ b ∈ fp, b < s₃.heap.objs.size) {h₁ : Heap} {t : Nat} {m : Str → Option Value}
    (hns : h₁.Ns s₃.heap.objs.size m) (hk : ∀ b o, s₃.heap.get? b = some o → h₁.get? b = some o) :
    Inv (X.comp scope N ⟨cl, s₃.heap.objs.size, s₃, H, fp⟩) [] (capσ σ n js) H { s₃ with heap := h₁, toks := t } := by
  obtain ⟨k1, k2, k3, k4, k5⟩ := cap_facts cap
  have kf : ∀ x, ((relabel scope X.env).names.lookup x = some .cell ∨ (relabel scope X.env).names.lookup x = some .free) → scope.names.lookup x = some .free := fun x h => by
    rw [relabel_lookup] at h
    cases e : scope.names.lookup x with
    | none => rw [e] at h; simp at h
    | some k =>
      rw [e, Option.map_some] at h
      cases k with
      | free => rfl
      | cell => exact absurd rfl (k2 (x, .cell) (PySem.mem_of_lookup e))
      | «local» => simp at h
      | _ => simp at h
  have bf : ∀ x, scope.names.lookup x = some .free → (relabel scope X.env).names.lookup x = some .cell ∨ (relabel scope X.env).names.lookup x = some .free := fun x h => by
    rw [relabel_lookup, h, Option.map_some]
    split
    · exact .inl rfl
    · exact .inr rfl
  have isC : ∀ c v, s₃.heap.IsCell c v → h₁.IsCell c v := fun c v ⟨o, ho, r⟩ => ⟨o, hk _ _ ho, r⟩
  refine ⟨⟨I.ok.mod, hkind, I.ok.glob, I.ok.blt, Nat.le_refl _, fun x y c e1 e2 => I.ok.inj x y c (hc1 x c e1) (hc1 y c e2), fun x h => hc2 (x, .free) (PySem.mem_of_lookup (kf x h)) rfl, fun x c h => absurd h Bool.false_ne_true, I.ok.hd, I.ok.frames, .inl rfl,
      fun b hb => ⟨Nat.ne_of_lt (hlt b hb), fun x c e => (hf b hb).2.2.2.2.1 x c (hc1 x c e)⟩, I.bs, Nat.le_trans I.ok.bsz I.sz, fun b o e hb => ?_, fun b hb hz => ?_, I.stack, I.stkFree⟩,
    rfl, I.bare, Un.kept hk, ⟨m, hns, fun i x v e1 e2 e3 => ?_⟩, fun x c e => ?_, I.hok.fresh (Nat.le_refl _), fun x c e => I.freeC x c (hc1 x c e), fun p hp => absurd hp (by simp [Cx.comp]), I.hok.kept hk, ?_⟩
  · rcases (hf b hb).2.2.2.1 with z | z
    · exact I.ok.noex b o e z
    · exact absurd (Nat.lt_of_lt_of_le (Heap.lt_size e) (Nat.le_trans I.ok.bsz z)) (Nat.lt_irrefl _)
  · rcases List.mem_cons.mp (I.stkSub b hz) with z | z
    · exact (hf b hb).2.1 z
    · exact (hf b hb).2.2.1 z
  · have e2' : (capσ σ n js)[i]? = some (some v) := e2
    unfold capσ at e2'
    by_cases hi : i < n
    · rw [List.getElem?_append_left (by simpa using hi), List.getElem?_replicate, if_pos hi] at e2'
      cases e2'
    · rw [List.getElem?_append_right (by simpa using hi), List.length_replicate, List.getElem?_map] at e2'
      cases ej : js[i - n]? with
      | none => rw [ej] at e2'; cases e2'
      | some j =>
        rw [ej, Option.map_some] at e2'
        have e4 : (σ[j]?).join = some v := Option.some.inj e2'
        have e5 : σ[j]? = some (some v) := by
          cases q : σ[j]? with
          | none => rw [q] at e4; cases e4
          | some w => rw [q] at e4; rw [show w = some v from e4]
        have e1' : N[n + (i - n)]? = some x := by rw [show n + (i - n) = i by omega]; exact e1
        obtain ⟨c1, c2, c3⟩ := k5 (i - n) j x ej e1'
        obtain ⟨m', hn', hl'⟩ := I.loc
        obtain ⟨u, ru, lk⟩ := hl' j x v c1 e5 (.inr c2)
        refine ⟨u, ru, ?_⟩
        rcases lk with ⟨hk', _⟩ | ⟨_, c, hc, hcell⟩
        · have hk'' : X.env.scope.names.lookup x = some .local := hk'
          rcases c2 with c2 | c2 <;> (rw [hk''] at c2; cases c2)
        · obtain ⟨c', hc'⟩ := hc2 (x, .free) (PySem.mem_of_lookup c3) rfl
          have := hc1 x c' hc'
          rw [hc] at this
          cases this
          exact .inr ⟨bf x c3, c, hc', isC _ _ hcell⟩
  · obtain ⟨v, z⟩ := I.cell x c (hc1 x c e)
    exact ⟨v, isC _ _ z⟩
  · show (capσ σ n js).length = N.length
    unfold capσ
    rw [List.length_append, List.length_replicate, List.length_map, k1]
end
/-! ### the tests of a block -/
def PIf (X : Cx) (ifs : List Expr) (t : TT) : Prop :=
  ∀ (pins : List (Addr × Obj)) (s : Shared) (σ : St) (H : Hp) (Q : Bool → Hp → Prop), Inv X pins σ H s → t σ H Q →
    wpAny (model X.prog X.w) X.A (forIn ifs true fun c r => if r = true then do let ok ← isTrue c X.env (eval c X.env); pure (ForInStep.yield ok) else pure (ForInStep.yield r)) (TP X pins σ Q) X.xe s
def tYes : TT := fun _ H Q => Q true H
theorem pif_nil {X : Cx} : PIf X [] tYes := fun _ _ _ H _ I h => wpAny_tests_nil ⟨H, I, h⟩
theorem pif_one {X : Cx} {c : Expr} {t : TT} (hc : PT X c t) : PIf X [c] t := fun pins s σ H Q I h => wpAny_tests_one (hc pins s σ H Q I h)
/-- a comprehension's reading: W by the turn, a measure, what is told so far -/
def CompR (J : It) (σ0 : St) (g : TG) (tc : TT) (te : TE) (l : Addr) (Q : VK) (H1 : Hp) : Prop :=
  ∃ W : Nat → Nat → List V → Hp → Prop, (∃ m, W 0 m [] (upd H1 l (.lst []))) ∧ ∀ i m xs H, W i m xs H → H l = some (.lst xs) ∧ xs.length < sizeLine ∧
    ((J.stop i H ∧ Q (.ref l) H) ∨ (J.go i H ∧ ∀ x H', J.yld i H x H' → g x σ0 H' fun σ2 H2 => Sub σ0 σ2 ∧ tc σ2 H2 fun b H3 =>
      if b = true then te σ2 H3 fun v H4 => H4 l = some (.lst xs) ∧ ∃ m', m' < m ∧ W (i + 1) m' (xs ++ [v]) (upd H4 l (.lst (xs ++ [v]))) else ∃ m', m' < m ∧ W (i + 1) m' xs H3))
section
variable {X : Cx} {tg elt iter : Expr} {ifs : List Expr} {scope : Scope} {pos : Pos} {N : List Str} {n : Nat} {js : List Nat} {g : CA → TG} {tc : CA → TT} {te : CA → TE}
theorem comp_core {pins : List (Addr × Obj)} {σ : St} {H₁ : Hp} {s₂ : Shared} {E : Value → Shared → Prop} (cap : capOk X.env.scope.names X.N scope.names N n js = true) (hkind : scope.kind = .function) (hcalm : X.calm = true)
    (hg : ∀ a, PG (X.comp scope N a) tg (g a)) (hc : ∀ a, PIf (X.comp scope N a) ifs (tc a)) (he : ∀ a, PE (X.comp scope N a) elt (te a))
    (I : Inv X pins σ H₁ s₂) {it : Addr} {fp : List Addr} {tn : Nat → Heap → Prop} {J : It} (T : Turn X.prog X.w X.K tg J fp it tn) (h0 : tn 0 s₂.heap) (hf : ∀ b ∈ fp, FpOk X pins H₁ b)
    {cl : List (Str × Addr)} (hc1 : ∀ x c, cl.lookup x = some c → X.env.cells.lookup x = some c) (hc2 : ∀ p ∈ scope.names, p.2 = NameKind.free → ∃ c, cl.lookup p.1 = some c)
    {Q : VK} (hq : ∀ l, H₁ l = none → ∀ a, CompR J (capσ σ n js) (g a) (tc a) (te a) l Q H₁)
    {RR : Value → Addr → Result → Shared → Prop}
    (hRR : ∀ l C H' s' m, Inv X pins σ H' s' → s'.heap.Ns C m → H' C = none → C ≠ X.env.locals → X.s₀.heap.objs.size ≤ C → (∀ x c, X.env.cells.lookup x = some c → c ≠ C) → (∀ p ∈ X.pn ++ pins, p.1 ≠ C) → C ∉ X.fs → Q (.ref l) H' → RR (.ref l) C (.ok .next) s') :
    wpAny (model X.prog X.w) X.A (newList []) (fun acc s₃ => wpAny (model X.prog X.w) X.A (newFunctionEnv scope X.env.globals cl [] X.env.qual none .none (some X.env)) (fun cenv s₄ =>
      codeAny (model X.prog X.w) X.A (.compStart (.ListComp elt [⟨tg, iter, ifs, 0⟩] scope pos) 0 (.ref it) acc { cenv with scope := relabel scope X.env }) (RR acc cenv.locals) s₄) E s₃) E s₂ := by
  obtain ⟨k1, k2, k3, k4, k5⟩ := cap_facts cap
  refine wpAny_newObj_type (wpAny_newFunctionEnv k2 (by intro y hy; simp at hy) (fun h₁ hns₁ hsb₁ => ?_) hkind)
  dsimp only at hns₁ hsb₁ ⊢
  obtain ⟨s3, hs3⟩ : ∃ s3 : Shared, s3 = { s₂ with heap := s₂.heap.push { cls := .type "list", dict := none, data := .seq ([] : List Value).toArray } } := ⟨_, rfl⟩
  have eh : s₂.heap.push { cls := .type "list", dict := none, data := .seq ([] : List Value).toArray } = s3.heap := by rw [hs3]
  rw [eh] at hns₁ hsb₁ ⊢
  have kp3 : ∀ b o, s₂.heap.get? b = some o → s3.heap.get? b = some o := fun b o e => by rw [← eh]; exact Heap.get?_push_of_some _ e
  have hl0 : H₁ s₂.heap.objs.size = none := I.hok.fresh (Nat.le_refl _)
  have I3 : Inv X pins σ (upd H₁ s₂.heap.objs.size (.lst [])) s3 := by
    rw [hs3]
    exact I.laid (t' := s₂.toks) (fun b u e => Heap.get?_push_of_some _ e) (Nat.le_refl _) ⟨Nat.zero_le _, [], 0, .nil, Heap.get?_push_size _ rfl⟩
  have fpo : ∀ b ∈ fp, ∃ o, s₂.heap.get? b = some o := fun b hb => let ⟨o, e, _⟩ := T.obj _ _ h0 b hb; ⟨o, e⟩
  have fpl : ∀ b ∈ fp, b ≠ s₂.heap.objs.size := fun b hb z => let ⟨o, e⟩ := fpo b hb; Nat.lt_irrefl _ (z ▸ Heap.lt_size e)
  have hf3 : ∀ b ∈ fp, FpOk X pins (upd H₁ s₂.heap.objs.size (.lst [])) b := fun b hb => ⟨by rw [upd_ne (fpl b hb)]; exact (hf b hb).1, (hf b hb).2⟩
  have hlt3 : ∀ b ∈ fp, b < s3.heap.objs.size := fun b hb => let ⟨o, e⟩ := fpo b hb; Heap.lt_size (kp3 b o e)
  have kp1 : ∀ b o, s3.heap.get? b = some o → h₁.get? b = some o := fun b o e => hsb₁.extBut b o (Nat.ne_of_lt (Heap.lt_size e)) (Heap.get?_push_of_some _ e)
  have IC := comp_inv (t := s3.toks) cap hkind I3 hc1 hc2 hf3 hlt3 hns₁ kp1
  have hCl : X.env.locals < s3.heap.objs.size := I3.lt
  obtain ⟨a, ha⟩ : ∃ a : CA, a = ⟨cl, s3.heap.objs.size, s3, upd H₁ s₂.heap.objs.size (.lst []), fp⟩ := ⟨_, rfl⟩
  rw [← ha] at IC
  have aC : a.C = s3.heap.objs.size := by rw [ha]
  obtain ⟨W, ⟨m0, w0⟩, turn⟩ := hq _ hl0 a
  have tn1 : tn 0 h₁ := T.keep _ _ _ h0 fun b _ o e => kp1 b o (kp3 b o e)
  -- the iterator's records, seen from the block
  have stat : ∀ {H' : Hp}, (∀ b ∈ fp, H' b = none) → ∀ b ∈ fp, FpOk (X.comp scope N a) [] H' b := fun {H'} hn b hb =>
    ⟨hn b hb, by show b ≠ a.C; rw [aC]; exact Nat.ne_of_lt (hlt3 b hb), fun hz => by
        rcases List.mem_cons.mp (I3.stkSub b hz) with z | z
        · exact (hf b hb).2.1 z
        · exact (hf b hb).2.2.1 z, .inl (by show b ∈ a.fp; rw [ha]; exact hb), fun x c e => (hf b hb).2.2.2.2.1 x c (hc1 x c (by rw [ha] at e; exact e)), fun p hp => absurd hp (by simp [Cx.comp])⟩
  have loop : ∀ s4 : Shared, s4 = { s3 with heap := h₁, toks := s3.toks } →
      codeAny (model X.prog X.w) X.A (.compLoop (.ListComp elt [⟨tg, iter, ifs, 0⟩] scope pos) 0 (.ref it) (.ref s₂.heap.objs.size) (X.comp scope N a).env) (RR (.ref s₂.heap.objs.size) s3.heap.objs.size) s4 := by
    rintro s4 rfl
    refine compLoop_go (fun k s' => ∃ i xs H', Inv (X.comp scope N a) [] (capσ σ n js) H' s' ∧ tn i s'.heap ∧ (∀ b ∈ fp, H' b = none) ∧ W i k xs H') ?_ m0 ⟨0, [], _, IC, tn1, fun b hb => (hf3 b hb).1, w0⟩
    rintro k s5 ⟨i, xs, H5, I5, t5, f5, w5⟩
    obtain ⟨hl5, hz5, alt⟩ := turn i k xs H5 w5
    rcases alt with ⟨stop, qn⟩ | ⟨go, step⟩
    · refine thn (T.done (X.comp scope N a) rfl rfl rfl hcalm i [] s5 _ H5 NoE I5 (stat f5) t5 stop) fun r s6 ⟨hr, I6⟩ => ?_
      subst hr
      obtain ⟨m6, hn6, _⟩ := I6.loc
      have hn6' : s6.heap.Ns s3.heap.objs.size m6 := by rw [← aC]; exact hn6
      have u6 : Un (frs X.stack) fp (upd H₁ s₂.heap.objs.size (.lst [])) H5 s3.heap s6.heap := by
        have z := I6.base
        rw [ha] at z
        exact z
      have os6 : s6.os = s3.os := by
        have z := I6.os
        rw [ha] at z
        exact z
      have I7 : Inv X pins σ H5 s6 := I3.call' os6 u6 I6.hok I6.bare fun b hb => ⟨(hf b hb).2.2.2.1, (hf b hb).2.1, (hf b hb).2.2.2.2.1, (hf b hb).2.2.2.2.2⟩
      refine hRR _ _ H5 s6 m6 I7 hn6' (by have z := I6.free; rw [show (X.comp scope N a).env.locals = s3.heap.objs.size from aC] at z; exact z) (Nat.ne_of_gt hCl) I3.sz (fun x c e z => ?_) (fun p hp z => ?_) (I3.nofs (Nat.le_refl _)) qn
      · obtain ⟨v, q⟩ := I3.cell x c e
        exact Nat.lt_irrefl _ (z ▸ q.lt)
      · exact Nat.lt_irrefl _ (z ▸ Heap.lt_size (I3.pin p hp).1)
    · refine thn (T.item (X.comp scope N a) rfl rfl rfl hcalm i [] s5 _ H5 NoE I5 (stat f5) t5 go) fun r s6 ⟨u, hr, h6⟩ => ?_
      subst hr
      refine thn h6 fun _ s7 ⟨x, H7, I7, r7, y7, t7, f7⟩ => ?_
      have I7' := I7.pinned (stat f7) (T.obj _ _ t7)
      rw [List.nil_append] at I7'
      refine thn (hg a _ s7 _ H7 x u _ I7' r7 (step x H7 y7)) fun _ s8 ⟨σ8, H8, I8, sub8, q8⟩ => ?_
      refine thn (hc a _ s8 σ8 H8 _ I8 q8) fun ok s9 ⟨H9, I9, q9⟩ => ?_
      have back : ∀ {σ' : St} {H' : Hp} {s' : Shared}, Inv (X.comp scope N a) (pinsAt fp s7.heap) σ' H' s' → Sub (capσ σ n js) σ' → Inv (X.comp scope N a) [] (capσ σ n js) H' s' ∧ tn (i + 1) s'.heap ∧ ∀ b ∈ fp, H' b = none := fun {σ' H' s'} I' sb => by
        refine ⟨(I'.pins_of fun p hp => absurd hp (by simp)).weak sb.1 sb.2, T.keep _ _ _ t7 fun b hb o e => (I'.pin (b, o) (List.mem_append_right _ (mem_pinsAt hb e))).1, fun b hb => ?_⟩
        obtain ⟨o, e, d⟩ := T.obj _ _ t7 b hb
        exact (I'.pin (b, o) (List.mem_append_right _ (mem_pinsAt hb e))).2.1
      cases ok with
      | false =>
        obtain ⟨m', lt, w'⟩ := q9
        obtain ⟨b1, b2, b3⟩ := back I9 sub8
        exact ⟨m', lt, i + 1, xs, H9, b1, b2, b3, w'⟩
      | true =>
        refine thn (he a _ s9 σ8 H9 _ I9 q9) fun y s10 ⟨v, H10, I10, r10, hl10, m', lt, w'⟩ => ?_
        refine thn (mt_append (X := X.comp scope N a) _ s10 σ8 H10 (.ref s₂.heap.objs.size) [v] _ [y] (fun _ H' => H' = upd H10 s₂.heap.objs.size (.lst (xs ++ [v]))) I10 rfl (.cons r10 .nil) ⟨_, xs, v, rfl, rfl, hl10, hz5, rfl⟩) fun _ s11 ⟨_, H11, I11, _, e11⟩ => ?_
        subst e11
        obtain ⟨b1, b2, b3⟩ := back I11 sub8
        exact ⟨m', lt, i + 1, _, _, b1, b2, b3, w'⟩
  have eE : { newEnv scope s3.heap.objs.size X.env.globals cl X.env.qual none Value.none (some X.env) builtinsNs with scope := relabel scope X.env } = (X.comp scope N a).env := by rw [ha]; rfl
  have lp := loop _ rfl
  rw [← eE] at lp
  have sf := T.self X.A 0 { s3 with heap := h₁, toks := s3.toks } (fun it' s' => codeAny (model X.prog X.w) X.A (.compLoop (.ListComp elt [⟨tg, iter, ifs, 0⟩] scope pos) 0 it' (.ref s₂.heap.objs.size) { newEnv scope s3.heap.objs.size X.env.globals cl X.env.qual none Value.none (some X.env) builtinsNs with scope := relabel scope X.env }) (RR (.ref s₂.heap.objs.size) s3.heap.objs.size) s')
    (notedBy (model X.prog X.w) X.A { newEnv scope s3.heap.objs.size X.env.globals cl X.env.qual none Value.none (some X.env) builtinsNs with scope := relabel scope X.env } fun x s' => RR (.ref s₂.heap.objs.size) s3.heap.objs.size (.error x) s') tn1 lp
  have fin := codeAny_compStart_list lp sf
  rw [hs3] at fin ⊢
  exact fin
def tComp (n : Nat) (js : List Nat) (wi : TI) (g : CA → TG) (tc : CA → TT) (te : CA → TE) : TE := fun σ H Q => wi σ H fun J H1 => ∀ l, H1 l = none → ∀ a : CA, CompR J (capσ σ n js) (g a) (tc a) (te a) l Q H1
theorem comp_closure {pins : List (Addr × Obj)} {σ : St} {H : Hp} {s : Shared} (cap : capOk X.env.scope.names X.N scope.names N n js = true) (I : Inv X pins σ H s) :
    ∃ cl, closureFor scope X.env = pure cl ∧ (∀ x c, cl.lookup x = some c → X.env.cells.lookup x = some c) ∧ ∀ p ∈ scope.names, p.2 = NameKind.free → ∃ c, cl.lookup p.1 = some c :=
  closure_of fun p hp e => I.ok.has p.1 ((cap_facts cap).2.2.2.1 p hp e).2
/-- [elt for tg in iter if ..] -/
theorem pe_comp {wi : TI} (cap : capOk X.env.scope.names X.N scope.names N n js = true) (hkind : scope.kind = .function) (hcalm : X.calm = true) (hi : PI X tg iter wi)
    (hg : ∀ a, PG (X.comp scope N a) tg (g a)) (hc : ∀ a, PIf (X.comp scope N a) ifs (tc a)) (he : ∀ a, PE (X.comp scope N a) elt (te a))
    (hs : ∀ x, foldedSetIterable iter X.env x = pure x := by intro _; rfl) : PE X (.ListComp elt [⟨tg, iter, ifs, 0⟩] scope pos) (tComp n js wi g tc te) := by
  intro pins s σ H Q I h
  obtain ⟨cl, hclos, hc1, hc2⟩ := comp_closure cap I
  rw [eval_ListComp]
  refine wpAny_comprehension_free (use := none) rfl hs hclos hkind (cap_facts cap).2.2.1 (thn (hi pins s σ H _ I h) fun v s1 h1 => thn h1 fun itv s2 h2 => ?_)
  obtain ⟨it, fp, tn, J, H2, rfl, I2, T, st2, f2, q⟩ := h2
  refine comp_core (RR := fun acc C => compPost (model X.prog X.w) X.A X.xe none (EP X pins σ Q) acc C) cap hkind hcalm hg hc he I2 T st2 f2 hc1 hc2 q ?_
  intro l C H' s' m I' hn hC hL hs0 hcell hpin hfs hq
  exact ⟨m, hn, fun h' hsb => ⟨.ref l, H', I'.turned (t' := s'.toks) (fun b o hb e => (hsb.2 b hb).trans e) hC hL (.inr hs0) hcell hpin, rfl, hq⟩⟩
/-- x = [elt for tg in iter if ..], x a plain local -/
theorem ps_setC {wi : TI} {i : Nat} {y : Str} {py spos : Pos} (hN : X.N.Nodup) (hi : X.N[i]? = some y) (hy : X.env.scope.names.lookup y = some .local) (cap : capOk X.env.scope.names X.N scope.names N n js = true) (hkind : scope.kind = .function) (hcalm : X.calm = true) (hw : PI X tg iter wi)
    (hg : ∀ a, PG (X.comp scope N a) tg (g a)) (hc : ∀ a, PIf (X.comp scope N a) ifs (tc a)) (he : ∀ a, PE (X.comp scope N a) elt (te a))
    (hsw : swapsWith (.ListComp elt [⟨tg, iter, ifs, 0⟩] scope pos) (some (.Name y py)) spos.line X.env = pure true := by rfl)
    (hs : ∀ x, foldedSetIterable iter X.env x = pure x := by intro _; rfl) : PS X (.Assign [.Name y py] (.ListComp elt [⟨tg, iter, ifs, 0⟩] scope pos) spos) (tAsg (tComp n js wi g tc te) (gName i)) := by
  intro pins s σ H D I h
  obtain ⟨cl, hclos, hc1, hc2⟩ := comp_closure cap I
  rw [exec_Assign_Name_used _ _ _ _ hsw]
  refine wpAny_bind (wpAny_standAt (wpAny_bind ?_))
  show wpAny _ X.A (do let _ ← comprehension (.ListComp elt [⟨tg, iter, ifs, 0⟩] scope pos) scope X.env _ (newList []) false (eval iter X.env) (some (assign (.Name y py) X.env))) _ _ s
  refine wpAny_bind (wpAny_mono (wpAny_comprehension_free (use := some (assign (.Name y py) X.env)) (Q := fun _ s' => SP X pins D .next s') rfl hs hclos hkind (cap_facts cap).2.2.1
    (thn (hw pins s σ H _ I h) fun v s1 h1 => thn h1 fun itv s2 h2 => ?_)) (fun _ s' hq => wpAny_pure (wpAny_pure hq)) fun _ _ e => e)
  obtain ⟨it, fp, tn, J, H2, rfl, I2, T, st2, f2, q⟩ := h2
  refine comp_core (Q := fun x H1 => D.nx (σ.set i (some x)) H1) (RR := fun acc C => compPost (model X.prog X.w) X.A X.xe (some (assign (.Name y py) X.env)) (fun _ s' => SP X pins D .next s') acc C) cap hkind hcalm hg hc he I2 T st2 f2 hc1 hc2 q ?_
  intro l C H' s' m I' hn hC hL hs0 hcell hpin hfs hq
  show wpAny _ X.A (assign (.Name y py) X.env (.ref l)) _ _ _
  refine wpAny_assign_Name (store_ok2 I' hN hi (.inl hy) (v := .ref l) rfl (fun s3 I3 hsb => ?_) (.inr hy))
  obtain ⟨b, hsb, hb⟩ := hsb
  have nb : C ≠ b := by
    rcases hb with rfl | hb
    · exact hL
    · exact fun z => hcell y b hb z.symm
  refine ⟨m, hn.sameBut hsb nb, fun h' hsb' => ?_⟩
  exact ⟨σ.set i (some (.ref l)), H', I3.turned (t' := s3.toks) (fun c o hc e => (hsb'.2 c hc).trans e) hC hL (.inr hs0) hcell hpin, hq⟩
end
/-! ### readings -/
/-- an iterator that yields just ys, whatever comes up beside -/
structure Lists (J : It) (H1 : Hp) (ys : List V) : Prop where
  go : ∀ i H, Same H1 H → i < ys.length → J.go i H
  stop : ∀ H, Same H1 H → J.stop ys.length H
  yld : ∀ i H x H', Same H1 H → J.yld i H x H' → i < ys.length → H' = H ∧ ys[i]? = some x
theorem lists_lst {K : PySem.W.Frag} {H1 : Hp} {a : Addr} {ys : List V} (h : SqL K H1 a ys) : Lists (Itl K a) H1 ys where
  go := fun i H sm hi => ⟨ys, ys[i], sm.seq h, List.getElem?_eq_getElem hi⟩
  stop := fun H sm => ⟨ys, sm.seq h, Nat.le_refl _⟩
  yld := fun i H x H' sm ⟨e, y⟩ _ => ⟨e, y ys (sm.seq h)⟩
theorem lists_tup {K : PySem.W.Frag} {H1 : Hp} {a : Addr} {ys : List V} (h : SqT K H1 a ys) : Lists (Itt K a) H1 ys where
  go := fun i H sm hi => ⟨ys, ys[i], sm.sqT h, List.getElem?_eq_getElem hi⟩
  stop := fun H sm => ⟨ys, sm.sqT h, Nat.le_refl _⟩
  yld := fun i H x H' sm ⟨e, y⟩ _ => ⟨e, y ys (sm.sqT h)⟩
def rng (lo : Int) (n : Nat) : List V := (List.range n).map fun (i : Nat) => V.int (lo + i)
theorem rng_len (lo : Int) (n : Nat) : (rng lo n).length = n := by unfold rng; rw [List.length_map, List.length_range]
theorem rng_get {lo : Int} {n i : Nat} (h : i < n) : (rng lo n)[i]? = some (.int (lo + i)) := by
  unfold rng
  rw [List.getElem?_map, List.getElem?_range h]
  rfl
theorem lists_rng (lo : Int) (n : Nat) (H1 : Hp) : Lists (Itr lo n) H1 (rng lo n) where
  go := fun i H _ hi => by rw [rng_len] at hi; exact hi
  stop := fun H _ => by rw [rng_len]; exact Nat.le_refl _
  yld := fun i H x H' _ ⟨e, y⟩ hi => ⟨e, by rw [rng_len] at hi; rw [rng_get hi, y]⟩
end L2

/-! ## wide numbers; sum, all of a list; values as trees, and their equality -/
namespace L2
open PySem PySem.Spec PyProof.Rows
/-- of at most some nine hundred figures -/
def Sm (i : Int) : Prop := i.natAbs < 2 ^ 3000
theorem Sm.bits {i : Int} (h : Sm i) : Builtin.Int.intBits i ≤ 2 ^ 20 := by
  unfold Builtin.Int.intBits
  by_cases z : i.natAbs = 0
  · obtain rfl : i = 0 := by omega
    decide
  · have q : i.natAbs.log2 < 3000 := (Nat.log2_lt z).mpr h
    have e : (2 : Nat) ^ 20 = 1048576 := by decide
    split <;> omega
theorem Sm.log {i : Int} (h : Sm i) : i.natAbs.log2 < 9000 := by
  by_cases z : i.natAbs = 0
  · rw [z]; decide
  · have q : i.natAbs.log2 < 3000 := (Nat.log2_lt z).mpr h
    omega
theorem Sm.pow10 {i : Int} {k : Nat} (hk : k ≤ 700) (h : i.natAbs ≤ 10 ^ k) : Sm i := by
  refine Nat.lt_of_le_of_lt h ?_
  refine Nat.lt_of_le_of_lt (Nat.pow_le_pow_left (show 10 ≤ 2 ^ 4 by decide) k) ?_
  rw [← Nat.pow_mul]
  exact Nat.pow_lt_pow_right (by decide) (by omega)
section
variable {X : Cx}
theorem op_mulW : OpR X (binaryOp .Mult) (rI (fun i j => CMul i j ∨ (Sm i ∧ Sm j)) fun i j => .int (i * j)) := opI fun _ _ _ _ _ _ _ hc q => mul_int q (by
  rcases hc with hc | ⟨h1, h2⟩
  · exact hc.ok
  · exact IntMulOk.of_bits h1.bits h2.bits)
theorem op_fdivW : OpR X (binaryOp .FloorDiv) (rI (fun _ j => 0 < j ∧ Sm j) fun i j => .int (i / j)) := opI fun i j _ _ _ _ _ hc q => by
  have h1 : (0 : Int) < j := hc.1
  exact floordiv_int (by omega) (by rw [Int.fdiv_eq_ediv_of_nonneg i (by omega)]; exact q) (.inl (PyProof.noPylong_of_log2 hc.2.log))
theorem bb_sum : bootBuiltins "sum" = some (.builtin "sum") := by decide +kernel
theorem bb_sorted : bootBuiltins "sorted" = some (.builtin "sorted") := by decide +kernel
theorem preSum_list (ns : List Int) : ∀ k, k ≤ ns.length → PySem.preSum (fun i => ns.getD i 0) k = (ns.take k).sum
  | 0, _ => rfl
  | k + 1, h => by
    show PySem.preSum (fun i => ns.getD i 0) k + ns.getD k 0 = _
    rw [preSum_list ns k (by omega), List.take_add_one, List.sum_append, List.getD_eq_getElem?_getD, List.getElem?_eq_getElem (by omega)]
    simp
theorem call_sum (hc : X.calm = true) : CallR X (.builtin "sum") (fun xs H Q => ∃ (p : Addr) (ns : List Int), xs = [.ref p] ∧ SqL X.K H p (ns.map V.int) ∧ Q (.int ns.sum) H) := by
  intro pins s σ H xs us Q I r h
  obtain ⟨p, ns, rfl, hq, q⟩ := h
  obtain ⟨u, rfl, ru⟩ := vals1 r
  obtain rfl : u = Value.ref p := ru
  obtain ⟨its, rv, pl, hz⟩ := I.list hq
  have hl : ns.length = its.length := by rw [← rv.length, List.length_map]
  obtain ⟨o0, n0, e0, _⟩ := id pl
  have ne : p ≠ s.heap.objs.size := Nat.ne_of_lt (Heap.lt_size e0)
  refine call_sum_walkG (wpAny_pyIter_list pl.isList ?_)
  refine ⟨s.heap.objs.size, _, _, _, _, _, fun i => ns.getD i 0, rfl, Walks.list (show X.A.in1.handled = none from I.ok.hd hc) s.heap.objs.size p ne its.toArray, ⟨⟨_, Heap.get?_push_size _ rfl, rfl, rfl⟩, ?_⟩, ?_, ?_, fun h' tk t' hk => ?_⟩
  · exact pl.isList.at fun o e => Heap.get?_push_of_some _ e
  · intro b hb
    have hb' : b = s.heap.objs.size ∨ b = p := by simpa using hb
    show b < (s.heap.push _).objs.size
    rw [Heap.size_push]
    rcases hb' with rfl | rfl
    · exact Nat.lt_succ_self _
    · exact Nat.lt_succ_of_lt (Heap.lt_size e0)
  · intro i v hv
    have hi : its[i]? = some v := by simpa using hv
    obtain ⟨hlt, _⟩ := List.getElem?_eq_some_iff.mp hi
    have hb : (ns.map V.int)[i]? = some (.int ns[i]) := by rw [List.getElem?_map, List.getElem?_eq_getElem (by omega)]; rfl
    obtain ⟨u', e', t, rfl⟩ := rv.get hb
    rw [hi] at e'
    cases e'
    have z : ns.getD i 0 = ns[i] := by rw [List.getD_eq_getElem?_getD, List.getElem?_eq_getElem (by omega)]; rfl
    exact ⟨t, by show Value.int ns[i] t = Value.int (ns.getD i 0) t; rw [z]⟩
  · have e : PySem.preSum (fun i => ns.getD i 0) its.toArray.size = ns.sum := by rw [List.size_toArray, ← hl, preSum_list ns _ (Nat.le_refl _), List.take_length]
    rw [e]
    refine ⟨.int _, H, I.kept (t' := tk) fun b o hb => hk b o (fun z => ?_) (Heap.get?_push_of_some _ hb), ⟨_, rfl⟩, q⟩
    have z' : b = s.heap.objs.size := by simpa using z
    exact absurd (z' ▸ Heap.lt_size hb) (Nat.lt_irrefl _)
end
/-! ### values as trees -/
inductive D where
  | non
  | bl (b : Bool)
  | int (i : Int)
  | str (cs : List Nat)
  | tup (ds : List D)
  | lst (ds : List D)
def all2 (f : D → V → Prop) : List D → List V → Prop
  | [], [] => True
  | d :: ds, x :: xs => f d x ∧ all2 f ds xs
  | _, _ => False
/-- the value at v is this tree, of at most so many levels -/
def Dp (K : PySem.W.Frag) (H : Hp) : Nat → D → V → Prop
  | _, .non, v => v = .non
  | _, .bl b, v => v = .bl b
  | _, .int i, v => v = .int i
  | _, .str cs, v => v = .str (SL cs)
  | n + 1, .tup ds, v => ∃ a xs, v = .ref a ∧ SqT K H a xs ∧ all2 (Dp K H n) ds xs
  | n + 1, .lst ds, v => ∃ a xs, v = .ref a ∧ SqL K H a xs ∧ all2 (Dp K H n) ds xs
  | 0, .tup _, _ => False
  | 0, .lst _, _ => False
def all2b (f : D → D → Bool) : List D → List D → Bool
  | [], [] => true
  | a :: r, b :: t => f a b && all2b f r t
  | _, _ => false
/-- == of trees -/
def eqb : Nat → D → D → Bool
  | _, .non, .non => true
  | _, .bl a, .bl b => a == b
  | _, .bl a, .int b => (if a then 1 else 0) == b
  | _, .int a, .bl b => a == (if b then 1 else 0)
  | _, .int a, .int b => a == b
  | _, .str a, .str b => a == b
  | n + 1, .tup a, .tup b => all2b (eqb n) a b
  | n + 1, .lst a, .lst b => all2b (eqb n) a b
  | _, _, _ => false
def isSeq : D → Bool
  | .tup _ => true
  | .lst _ => true
  | _ => false
/-- what == is told of here: no list or tuple beside another kind -/
def cmpOk : Nat → D → D → Prop
  | n + 1, .tup a, .tup b => ∀ (j : Nat) (x y : D), a[j]? = some x → b[j]? = some y → cmpOk n x y
  | n + 1, .lst a, .lst b => ∀ (j : Nat) (x y : D), a[j]? = some x → b[j]? = some y → cmpOk n x y
  | _, a, b => isSeq a = false ∧ isSeq b = false
theorem all2_len {f : D → V → Prop} : ∀ {ds : List D} {xs : List V}, all2 f ds xs → ds.length = xs.length
  | [], [], _ => rfl
  | _ :: _, _ :: _, h => by rw [List.length_cons, List.length_cons, all2_len h.2]
  | [], _ :: _, h => h.elim
  | _ :: _, [], h => h.elim
theorem all2_get {f : D → V → Prop} : ∀ {ds : List D} {xs : List V} {j : Nat} {d : D} {x : V}, all2 f ds xs → ds[j]? = some d → xs[j]? = some x → f d x
  | [], [], _, _, _, _, h, _ => by simp at h
  | a :: r, b :: t, 0, d, x, h, h1, h2 => by
    simp at h1 h2
    rw [← h1, ← h2]
    exact h.1
  | a :: r, b :: t, j + 1, d, x, h, h1, h2 => all2_get h.2 (by simpa using h1) (by simpa using h2)
  | [], _ :: _, _, _, _, h, _, _ => h.elim
  | _ :: _, [], _, _, _, h, _, _ => h.elim
theorem all2_imp {f g : D → V → Prop} : ∀ {ds : List D} {xs : List V}, (∀ d ∈ ds, ∀ x, f d x → g d x) → all2 f ds xs → all2 g ds xs
  | [], [], _, _ => trivial
  | d :: r, x :: t, h, q => ⟨h d List.mem_cons_self x q.1, all2_imp (fun d hd => h d (List.mem_cons_of_mem _ hd)) q.2⟩
  | [], _ :: _, _, h => h.elim
  | _ :: _, [], _, h => h.elim
theorem Dp.same {K : PySem.W.Frag} {H H' : Hp} (sm : Same H H') : ∀ {n : Nat} {d : D} {v : V}, Dp K H n d v → Dp K H' n d v
  | _, .non, _, h => by unfold Dp at h ⊢; exact h
  | _, .bl _, _, h => by unfold Dp at h ⊢; exact h
  | _, .int _, _, h => by unfold Dp at h ⊢; exact h
  | _, .str _, _, h => by unfold Dp at h ⊢; exact h
  | n + 1, .tup ds, v, h => by
    unfold Dp at h ⊢
    obtain ⟨a, xs, e, hq, hs⟩ := h
    exact ⟨a, xs, e, sm.sqT hq, all2_imp (fun d _ x q => Dp.same sm q) hs⟩
  | n + 1, .lst ds, v, h => by
    unfold Dp at h ⊢
    obtain ⟨a, xs, e, hq, hs⟩ := h
    exact ⟨a, xs, e, sm.seq hq, all2_imp (fun d _ x q => Dp.same sm q) hs⟩
  | 0, .tup _, _, h => by unfold Dp at h; exact h.elim
  | 0, .lst _, _, h => by unfold Dp at h; exact h.elim
theorem all2b_refl {f : D → D → Bool} : ∀ {ds : List D}, (∀ d ∈ ds, f d d = true) → all2b f ds ds = true
  | [], _ => rfl
  | d :: r, h => by
    unfold all2b
    rw [h d List.mem_cons_self, all2b_refl fun x hx => h x (List.mem_cons_of_mem _ hx)]
    rfl
theorem all2_mem {f : D → V → Prop} {ds : List D} {xs : List V} (h : all2 f ds xs) {d : D} (hd : d ∈ ds) : ∃ x, f d x := by
  obtain ⟨j, hj, rfl⟩ := List.getElem_of_mem hd
  have hl := all2_len h
  exact ⟨xs[j], all2_get h (List.getElem?_eq_getElem hj) (List.getElem?_eq_getElem (by omega))⟩
theorem eqb_refl {K : PySem.W.Frag} {H : Hp} : ∀ {n : Nat} {d : D} {v : V}, Dp K H n d v → eqb n d d = true
  | _, .non, _, _ => by unfold eqb; rfl
  | _, .bl _, _, _ => by unfold eqb; simp
  | _, .int _, _, _ => by unfold eqb; simp
  | _, .str _, _, _ => by unfold eqb; simp
  | n + 1, .tup ds, v, h => by
    unfold Dp at h
    obtain ⟨a, xs, e, hq, hs⟩ := h
    unfold eqb
    exact all2b_refl fun d hd => let ⟨x, hx⟩ := all2_mem hs hd; eqb_refl hx
  | n + 1, .lst ds, v, h => by
    unfold Dp at h
    obtain ⟨a, xs, e, hq, hs⟩ := h
    unfold eqb
    exact all2b_refl fun d hd => let ⟨x, hx⟩ := all2_mem hs hd; eqb_refl hx
  | 0, .tup _, _, h => by unfold Dp at h; exact h.elim
  | 0, .lst _, _, h => by unfold Dp at h; exact h.elim
theorem cmpOk_refl {K : PySem.W.Frag} {H : Hp} : ∀ {n : Nat} {d : D} {v : V}, Dp K H n d v → cmpOk n d d
  | 0, .non, _, _ => ⟨rfl, rfl⟩
  | 0, .bl _, _, _ => ⟨rfl, rfl⟩
  | 0, .int _, _, _ => ⟨rfl, rfl⟩
  | 0, .str _, _, _ => ⟨rfl, rfl⟩
  | _ + 1, .non, _, _ => ⟨rfl, rfl⟩
  | _ + 1, .bl _, _, _ => ⟨rfl, rfl⟩
  | _ + 1, .int _, _, _ => ⟨rfl, rfl⟩
  | _ + 1, .str _, _, _ => ⟨rfl, rfl⟩
  | n + 1, .tup ds, v, h => by
    unfold Dp at h
    obtain ⟨a, xs, e, hq, hs⟩ := h
    intro j x y h1 h2
    rw [h1] at h2
    cases h2
    obtain ⟨z, hz⟩ := all2_mem hs (List.mem_of_getElem? h1)
    exact cmpOk_refl hz
  | n + 1, .lst ds, v, h => by
    unfold Dp at h
    obtain ⟨a, xs, e, hq, hs⟩ := h
    intro j x y h1 h2
    rw [h1] at h2
    cases h2
    obtain ⟨z, hz⟩ := all2_mem hs (List.mem_of_getElem? h1)
    exact cmpOk_refl hz
  | 0, .tup _, _, h => by unfold Dp at h; exact h.elim
  | 0, .lst _, _, h => by unfold Dp at h; exact h.elim
/-- a tree that is no list and no tuple -/
def sc : D → Option V
  | .non => some .non
  | .bl b => some (.bl b)
  | .int i => some (.int i)
  | .str cs => some (.str (SL cs))
  | _ => none
theorem Dp.sc {K : PySem.W.Frag} {H : Hp} {n : Nat} {d : D} {v x : V} (h : sc d = some x) : Dp K H n d v = (v = x) := by
  cases d with
  | non => cases h; unfold Dp; rfl
  | bl b => cases h; unfold Dp; rfl
  | int i => cases h; unfold Dp; rfl
  | str cs => cases h; unfold Dp; rfl
  | tup ds => cases h
  | lst ds => cases h
theorem Dp.flat {K : PySem.W.Frag} {H : Hp} {d : D} {v : V} (h : Dp K H 0 d v) : ∃ x, L2.sc d = some x := by
  cases d with
  | tup ds => unfold Dp at h; exact h.elim
  | lst ds => unfold Dp at h; exact h.elim
  | _ => exact ⟨_, rfl⟩
theorem Dp.isRef {K : PySem.W.Frag} {H : Hp} {n : Nat} {d : D} {v : V} (h : L2.sc d = none) (p : Dp K H n d v) : ∃ a, v = .ref a := by
  cases d with
  | tup ds =>
    cases n with
    | zero => unfold Dp at p; exact p.elim
    | succ n => unfold Dp at p; obtain ⟨a, _, e, _⟩ := p; exact ⟨a, e⟩
  | lst ds =>
    cases n with
    | zero => unfold Dp at p; exact p.elim
    | succ n => unfold Dp at p; obtain ⟨a, _, e, _⟩ := p; exact ⟨a, e⟩
  | non => cases h
  | bl _ => cases h
  | int _ => cases h
  | str _ => cases h
theorem sc_ref {d : D} {x : V} {a : Addr} (h : sc d = some x) : x ≠ .ref a := by
  cases d <;> cases h <;> (intro z; cases z)
theorem sc_flat {d : D} {x : V} (h : sc d = some x) : flatV x = true := by
  cases d <;> cases h <;> rfl
theorem sc_inj {d e : D} {x : V} (h : sc d = some x) (g : sc e = some x) : d = e := by
  cases d <;> cases h <;> cases e <;> first
    | rfl
    | (cases g; rfl)
    | cases g
    | (have z := V.str.inj (Option.some.inj g)
       rw [SL_inj] at z
       rw [z])
theorem cmp_mix1 {n : Nat} {d e : D} {x : V} (h : sc d = some x) (g : sc e = none) : ¬ cmpOk n d e := by
  intro c
  cases n <;> cases d <;> cases h <;> cases e <;> first
    | (unfold cmpOk at c; obtain ⟨_, z⟩ := c; cases z; done)
    | (cases g; done)
theorem cmp_mix2 {n : Nat} {d e : D} {x : V} (h : sc d = none) (g : sc e = some x) : ¬ cmpOk n d e := by
  intro c
  cases n <;> cases e <;> cases g <;> cases d <;> first
    | (unfold cmpOk at c; obtain ⟨z, _⟩ := c; cases z; done)
    | (cases h; done)
theorem SL_beq (a b : List Nat) : (SL a == SL b) = (a == b) := by
  rw [Bool.eq_iff_iff, beq_iff_eq, beq_iff_eq, SL_inj]
theorem eqb_sc {n : Nat} {d e : D} {x y : V} (h : sc d = some x) (g : sc e = some y) : eqb n d e = eqV x y := by
  cases d <;> cases h <;> cases e <;> cases g <;> (unfold eqb eqV) <;> first
    | rfl
    | exact (SL_beq _ _).symm
section
variable {X : Cx} {pins : List (Addr × Obj)} {σ : St} {H : Hp} {s : Shared}
theorem tl_apart (I : Inv X pins σ H s) {a : Addr} {xs ys : List V} (h : SqT X.K H a xs) (g : SqL X.K H a ys) : False := by
  obtain ⟨i1, _, ⟨o1, e1, c1, _⟩, _⟩ := I.tuple h
  obtain ⟨i2, _, ⟨o2, n2, e2, c2, _⟩, _⟩ := I.list g
  rw [e1] at e2
  cases e2
  rw [c1] at c2
  revert c2
  simp
theorem all2_det {f g : D → V → Prop} : ∀ {ds es : List D} {xs : List V}, (∀ d ∈ ds, ∀ e x, f d x → g e x → d = e) → all2 f ds xs → all2 g es xs → ds = es
  | [], [], [], _, _, _ => rfl
  | d :: r, e :: t, x :: z, h, p, q => by rw [h d List.mem_cons_self e x p.1 q.1, all2_det (fun d hd => h d (List.mem_cons_of_mem _ hd)) p.2 q.2]
  | [], _ :: _, [], _, _, q => q.elim
  | [], _ :: _, _ :: _, _, p, _ => p.elim
  | _ :: _, [], [], _, p, _ => p.elim
  | _ :: _, [], _ :: _, _, _, q => q.elim
  | _ :: _, _ :: _, [], _, p, _ => p.elim
  | [], [], _ :: _, _, p, _ => p.elim
theorem Dp.det (I : Inv X pins σ H s) : ∀ {n : Nat} {d e : D} {v : V}, Dp X.K H n d v → Dp X.K H n e v → d = e := by
  intro n
  induction n with
  | zero =>
    intro d e v p q
    obtain ⟨x, hx⟩ := Dp.flat p
    obtain ⟨y, hy⟩ := Dp.flat q
    rw [Dp.sc hx] at p
    rw [Dp.sc hy] at q
    exact sc_inj hx (by rw [hy, ← q, p])
  | succ n ih =>
    intro d e v p q
    cases hx : L2.sc d with
    | some x =>
      rw [Dp.sc hx] at p
      cases hy : L2.sc e with
      | some y =>
        rw [Dp.sc hy] at q
        exact sc_inj hx (by rw [hy, ← q, p])
      | none =>
        obtain ⟨a, e2⟩ := Dp.isRef hy q
        exact absurd (p.symm.trans e2) (sc_ref hx)
    | none =>
      cases hy : L2.sc e with
      | some y =>
        rw [Dp.sc hy] at q
        obtain ⟨a, e2⟩ := Dp.isRef hx p
        exact absurd (q.symm.trans e2) (sc_ref hy)
      | none =>
        cases d with
        | tup ds =>
          unfold Dp at p
          obtain ⟨a, xs, rfl, h1, p⟩ := p
          cases e with
          | tup es =>
            unfold Dp at q
            obtain ⟨b, ys, eb, h2, q⟩ := q
            cases eb
            have exy := I.tuple_inj h1 h2
            subst exy
            exact congrArg D.tup (all2_det (f := Dp X.K H n) (g := Dp X.K H n) (fun d _ e x p q => ih p q) p q)
          | lst es =>
            unfold Dp at q
            obtain ⟨b, ys, eb, h2, q⟩ := q
            cases eb
            exact (tl_apart I h1 h2).elim
          | non => cases hy
          | bl _ => cases hy
          | int _ => cases hy
          | str _ => cases hy
        | lst ds =>
          unfold Dp at p
          obtain ⟨a, xs, rfl, h1, p⟩ := p
          cases e with
          | lst es =>
            unfold Dp at q
            obtain ⟨b, ys, eb, h2, q⟩ := q
            cases eb
            have exy := I.list_inj h1 h2
            subst exy
            exact congrArg D.lst (all2_det (f := Dp X.K H n) (g := Dp X.K H n) (fun d _ e x p q => ih p q) p q)
          | tup es =>
            unfold Dp at q
            obtain ⟨b, ys, eb, h2, q⟩ := q
            cases eb
            exact (tl_apart I h2 h1).elim
          | non => cases hy
          | bl _ => cases hy
          | int _ => cases hy
          | str _ => cases hy
        | non => cases hx
        | bl _ => cases hx
        | int _ => cases hx
        | str _ => cases hx
theorem range_all2 {n : Nat} : ∀ (ds es : List D), ((List.range (min ds.length es.length)).all (fun j => eqb n (ds.getD j .non) (es.getD j .non)) && ds.length == es.length) = all2b (eqb n) ds es := by
  intro ds es
  rw [Bool.eq_iff_iff, Bool.and_eq_true, List.all_eq_true, beq_iff_eq]
  induction ds generalizing es with
  | nil =>
    cases es with
    | nil => simp [all2b]
    | cons e t => simp [all2b]
  | cons d r ih =>
    cases es with
    | nil => simp [all2b]
    | cons e t =>
      unfold all2b
      rw [Bool.and_eq_true, ← ih t]
      constructor
      · rintro ⟨h, hl⟩
        refine ⟨by simpa using h 0 (List.mem_range.mpr (by simp)), fun j hj => ?_, by simpa using hl⟩
        have := h (j + 1) (List.mem_range.mpr (by rw [List.length_cons, List.length_cons]; have := List.mem_range.mp hj; omega))
        simpa using this
      · rintro ⟨h0, h, hl⟩
        refine ⟨fun j hj => ?_, by simpa using hl⟩
        cases j with
        | zero => simpa using h0
        | succ j =>
          have hj' := List.mem_range.mp hj
          rw [List.length_cons, List.length_cons] at hj'
          simpa using h j (List.mem_range.mpr (by omega))
theorem all2_at {n : Nat} {ds : List D} {xs : List V} {its : List Value} (h : all2 (Dp X.K H n) ds xs) (r : Vals xs its) (j : Nat) (hj : j < its.toArray.size) : ∃ x, ds[j]? = some (ds.getD j .non) ∧ Dp X.K H n (ds.getD j .non) x ∧ RelV x its.toArray[j] := by
  have hl := all2_len h
  have hr := r.length
  have hj' : j < its.length := by simpa using hj
  have e1 : ds[j]? = some (ds.getD j .non) := by
    rw [List.getD_eq_getElem?_getD, List.getElem?_eq_getElem (by omega)]
    rfl
  have e2 : xs[j]? = some xs[j] := List.getElem?_eq_getElem (by omega)
  obtain ⟨u, eu, ru⟩ := r.get e2
  refine ⟨xs[j], e1, all2_get h e1 e2, ?_⟩
  rw [List.getElem?_eq_getElem hj'] at eu
  rw [List.getElem_toArray]
  rw [Option.some.inj eu]
  exact ru
/-- == of two trees -/
theorem eqAt_deep (I : Inv X pins σ H s) : ∀ {n : Nat} {d e : D} {v w : V} {u u' : Value} {A : Around}, cmpOk n d e → Dp X.K H n d v → Dp X.K H n e w → RelV v u → RelV w u' → A.units + n < cLine → SeqAt.EqAt A s u u' (eqb n d e) := by
  intro n
  induction n with
  | zero =>
    intro d e v w u u' A c p q rv rw' hu
    obtain ⟨x, hx⟩ := Dp.flat p
    obtain ⟨y, hy⟩ := Dp.flat q
    rw [Dp.sc hx] at p
    rw [Dp.sc hy] at q
    subst p q
    rw [eqb_sc hx hy]
    exact eqAt_V rv rw' (sc_flat hx) (sc_flat hy)
  | succ n ih =>
    intro d e v w u u' A c p q rv rw' hu
    cases hx : L2.sc d with
    | some x =>
      cases hy : L2.sc e with
      | some y =>
        rw [Dp.sc hx] at p
        rw [Dp.sc hy] at q
        subst p q
        rw [eqb_sc hx hy]
        exact eqAt_V rv rw' (sc_flat hx) (sc_flat hy)
      | none => exact absurd c (cmp_mix1 hx hy)
    | none =>
      cases hy : L2.sc e with
      | some y => exact absurd c (cmp_mix2 hx hy)
      | none =>
        by_cases same : v = w
        · subst same
          have ed := Dp.det I p q
          subst ed
          rw [eqb_refl p]
          have eu : u = u' := by
            obtain ⟨a, rfl⟩ := Dp.isRef hx p
            cases rv
            cases rw'
            rfl
          subst eu
          exact SeqAt.EqAt.same _
        · cases d with
          | tup ds =>
            cases e with
            | tup es =>
              unfold Dp at p q
              obtain ⟨a, xs, rfl, h1, p⟩ := p
              obtain ⟨b, ys, rfl, h2, q⟩ := q
              cases rv
              cases rw'
              obtain ⟨i1, r1, t1, _⟩ := I.tuple h1
              obtain ⟨i2, r2, t2, _⟩ := I.tuple h2
              have l1 := all2_len p
              have l2 := all2_len q
              have l3 := r1.length
              have l4 := r2.length
              refine SeqAt.EqAt.of_refs (fun z => same (by rw [z])) ?_
              have fin := SeqAt.RcAt.tuples (A := A) (e := fun j => eqb n (ds.getD j .non) (es.getD j .non)) t1 t2 (by omega) (fun j j1 j2 => ?_)
              · rw [List.size_toArray, List.size_toArray, show i1.length = ds.length by omega, show i2.length = es.length by omega, range_all2] at fin
                unfold eqb
                exact fin
              · obtain ⟨x, g1, d1, f1⟩ := all2_at p r1 j j1
                obtain ⟨y, g2, d2, f2⟩ := all2_at q r2 j j2
                exact ih (c j _ _ g1 g2) d1 d2 f1 f2 (by show A.units + 1 + n < cLine; omega)
            | lst es => exact absurd c (by unfold cmpOk; simp [isSeq])
            | non => cases hy
            | bl _ => cases hy
            | int _ => cases hy
            | str _ => cases hy
          | lst ds =>
            cases e with
            | lst es =>
              unfold Dp at p q
              obtain ⟨a, xs, rfl, h1, p⟩ := p
              obtain ⟨b, ys, rfl, h2, q⟩ := q
              cases rv
              cases rw'
              obtain ⟨i1, r1, t1, _⟩ := I.list h1
              obtain ⟨i2, r2, t2, _⟩ := I.list h2
              have l1 := all2_len p
              have l2 := all2_len q
              have l3 := r1.length
              have l4 := r2.length
              refine SeqAt.EqAt.of_refs (fun z => same (by rw [z])) ?_
              have r0 := range_all2 (n := n) ds es
              unfold eqb
              by_cases hs : i1.length = i2.length
              · have fin := SeqAt.RcAt.lists (A := A) (e := fun j => eqb n (ds.getD j .non) (es.getD j .non)) t1.isList t2.isList (by simpa using hs) (by omega) (fun j j1 j2 => ?_)
                · have e1 : ds.length = es.length := by omega
                  rw [← e1, Nat.min_self, beq_self_eq_true, Bool.and_true] at r0
                  rw [List.size_toArray, show i1.length = ds.length by omega, r0] at fin
                  exact fin
                · obtain ⟨x, g1, d1, f1⟩ := all2_at p r1 j j1
                  obtain ⟨y, g2, d2, f2⟩ := all2_at q r2 j j2
                  exact ih (c j _ _ g1 g2) d1 d2 f1 f2 (by show A.units + 1 + n < cLine; omega)
              · have fin := SeqAt.RcAt.lists_lengths (A := A) t1.isList t2.isList (by simpa using hs) (by omega)
                have z : (ds.length == es.length) = false := by
                  rw [beq_eq_false_iff_ne]
                  omega
                rw [z, Bool.and_false] at r0
                rw [← r0]
                exact fin
            | tup es => exact absurd c (by unfold cmpOk; simp [isSeq])
            | non => cases hy
            | bl _ => cases hy
            | int _ => cases hy
            | str _ => cases hy
          | non => cases hx
          | bl _ => cases hx
          | int _ => cases hx
          | str _ => cases hx
theorem rcAt_deep (I : Inv X pins σ H s) {n : Nat} {d e : D} {v w : V} {u u' : Value} {A : Around} (c : cmpOk (n + 1) d e) (p : Dp X.K H (n + 1) d v) (q : Dp X.K H (n + 1) e w) (hx : sc d = none) (hy : sc e = none) (rv : RelV v u) (rw' : RelV w u') (hu : A.units + (n + 1) < cLine) :
    SeqAt.RcAt A s u u' (eqb (n + 1) d e) ∧ SeqAt.RcNeAt A s u u' (!eqb (n + 1) d e) := by
  cases d with
  | tup ds =>
    cases e with
    | tup es =>
      unfold Dp at p q
      obtain ⟨a, xs, rfl, h1, p⟩ := p
      obtain ⟨b, ys, rfl, h2, q⟩ := q
      cases rv
      cases rw'
      obtain ⟨i1, r1, t1, _⟩ := I.tuple h1
      obtain ⟨i2, r2, t2, _⟩ := I.tuple h2
      have l1 := all2_len p
      have l2 := all2_len q
      have l3 := r1.length
      have l4 := r2.length
      have el : ∀ j (j1 : j < i1.toArray.size) (j2 : j < i2.toArray.size), SeqAt.EqAt A.in1 s i1.toArray[j] i2.toArray[j] (eqb n (ds.getD j .non) (es.getD j .non)) := fun j j1 j2 => by
        obtain ⟨x, g1, d1, f1⟩ := all2_at p r1 j j1
        obtain ⟨y, g2, d2, f2⟩ := all2_at q r2 j j2
        exact eqAt_deep I (c j _ _ g1 g2) d1 d2 f1 f2 (by show A.units + 1 + n < cLine; omega)
      have f1 := SeqAt.RcAt.tuples (A := A) (e := fun j => eqb n (ds.getD j .non) (es.getD j .non)) t1 t2 (by omega) el
      have f2 := SeqAt.RcNeAt.tuples (A := A) (e := fun j => eqb n (ds.getD j .non) (es.getD j .non)) t1 t2 (by omega) el
      rw [List.size_toArray, List.size_toArray, show i1.length = ds.length by omega, show i2.length = es.length by omega, range_all2] at f1 f2
      unfold eqb
      exact ⟨f1, f2⟩
    | lst es => exact absurd c (by unfold cmpOk; simp [isSeq])
    | non => cases hy
    | bl _ => cases hy
    | int _ => cases hy
    | str _ => cases hy
  | lst ds =>
    cases e with
    | lst es =>
      unfold Dp at p q
      obtain ⟨a, xs, rfl, h1, p⟩ := p
      obtain ⟨b, ys, rfl, h2, q⟩ := q
      cases rv
      cases rw'
      obtain ⟨i1, r1, t1, _⟩ := I.list h1
      obtain ⟨i2, r2, t2, _⟩ := I.list h2
      have l1 := all2_len p
      have l2 := all2_len q
      have l3 := r1.length
      have l4 := r2.length
      have el : ∀ j (j1 : j < i1.toArray.size) (j2 : j < i2.toArray.size), SeqAt.EqAt A.in1 s i1.toArray[j] i2.toArray[j] (eqb n (ds.getD j .non) (es.getD j .non)) := fun j j1 j2 => by
        obtain ⟨x, g1, d1, f1⟩ := all2_at p r1 j j1
        obtain ⟨y, g2, d2, f2⟩ := all2_at q r2 j j2
        exact eqAt_deep I (c j _ _ g1 g2) d1 d2 f1 f2 (by show A.units + 1 + n < cLine; omega)
      have r0 := range_all2 (n := n) ds es
      unfold eqb
      by_cases hs : i1.length = i2.length
      · have f1 := SeqAt.RcAt.lists (A := A) (e := fun j => eqb n (ds.getD j .non) (es.getD j .non)) t1.isList t2.isList (by simpa using hs) (by omega) el
        have f2 := SeqAt.RcNeAt.lists (A := A) (e := fun j => eqb n (ds.getD j .non) (es.getD j .non)) t1.isList t2.isList (by simpa using hs) (by omega) el
        have e1 : ds.length = es.length := by omega
        rw [← e1, Nat.min_self, beq_self_eq_true, Bool.and_true] at r0
        rw [List.size_toArray, show i1.length = ds.length by omega, r0] at f1 f2
        exact ⟨f1, f2⟩
      · have f1 := SeqAt.RcAt.lists_lengths (A := A) t1.isList t2.isList (by simpa using hs) (by omega)
        have f2 := SeqAt.RcNeAt.lists_lengths (A := A) t1.isList t2.isList (by simpa using hs) (by omega)
        have z : (ds.length == es.length) = false := by
          rw [beq_eq_false_iff_ne]
          omega
        rw [z, Bool.and_false] at r0
        rw [← r0]
        exact ⟨f1, f2⟩
    | tup es => exact absurd c (by unfold cmpOk; simp [isSeq])
    | non => cases hy
    | bl _ => cases hy
    | int _ => cases hy
    | str _ => cases hy
  | non => cases hx
  | bl _ => cases hx
  | int _ => cases hx
  | str _ => cases hx
end
section
variable {X : Cx}
/-- == (neg: !=) of two lists or two tuples, by their trees -/
def rEqD (K : PySem.W.Frag) (neg : Bool) : R2 := fun x y H Q => ∃ n d e, Dp K H (n + 1) d x ∧ Dp K H (n + 1) e y ∧ sc d = none ∧ sc e = none ∧ n ≤ 50 ∧ cmpOk (n + 1) d e ∧ Q (.bl (if neg then !eqb (n + 1) d e else eqb (n + 1) d e)) H
theorem op_eqD {k : Nat} (hr : Room k X.A) : OpR X (compareOp .Eq) (rEqD X.K false) := by
  intro pins s σ H x y v u Q I rx ry h
  obtain ⟨n, d, e, p, q, hx, hy, hn, c, hq⟩ := h
  have hu := hr.units
  exact (rcAt_deep I (A := X.A) c p q hx hy rx ry (by omega)).1 X.prog X.w _ _ ⟨.bl _, H, I, rfl, hq⟩
theorem op_neD {k : Nat} (hr : Room k X.A) : OpR X (compareOp .NotEq) (rEqD X.K true) := by
  intro pins s σ H x y v u Q I rx ry h
  obtain ⟨n, d, e, p, q, hx, hy, hn, c, hq⟩ := h
  have hu := hr.units
  exact (rcAt_deep I (A := X.A) c p q hx hy rx ry (by omega)).2 X.prog X.w _ _ ⟨.bl _, H, I, rfl, hq⟩
/-- the two are one tree -/
theorem eqD {K : PySem.W.Frag} {H : Hp} {n : Nat} {d : D} {x y : V} {Q : VK} (p : Dp K H (n + 1) d x) (q : Dp K H (n + 1) d y) (hx : sc d = none) (hn : n ≤ 50) (h : Q (.bl true) H) : rEqD K false x y H Q :=
  ⟨n, d, d, p, q, hx, hx, hn, cmpOk_refl p, by rw [eqb_refl p]; exact h⟩
theorem neD {K : PySem.W.Frag} {H : Hp} {n : Nat} {d : D} {x y : V} {Q : VK} (p : Dp K H (n + 1) d x) (q : Dp K H (n + 1) d y) (hx : sc d = none) (hn : n ≤ 50) (h : Q (.bl false) H) : rEqD K true x y H Q :=
  ⟨n, d, d, p, q, hx, hx, hn, cmpOk_refl p, by rw [eqb_refl p]; exact h⟩
end
theorem Dp_tup {K : PySem.W.Frag} {H : Hp} {n : Nat} {a : Addr} {ds : List D} {xs : List V} (h : SqT K H a xs) (q : all2 (Dp K H n) ds xs) : Dp K H (n + 1) (.tup ds) (.ref a) := by
  unfold Dp
  exact ⟨a, xs, rfl, h, q⟩
theorem Dp_lst {K : PySem.W.Frag} {H : Hp} {n : Nat} {a : Addr} {ds : List D} {xs : List V} (h : SqL K H a xs) (q : all2 (Dp K H n) ds xs) : Dp K H (n + 1) (.lst ds) (.ref a) := by
  unfold Dp
  exact ⟨a, xs, rfl, h, q⟩
theorem Dp_int {K : PySem.W.Frag} {H : Hp} {n : Nat} {i : Int} : Dp K H n (.int i) (.int i) := by unfold Dp; rfl
theorem Dp_str {K : PySem.W.Frag} {H : Hp} {n : Nat} {cs : List Nat} : Dp K H n (.str cs) (.str (SL cs)) := by unfold Dp; rfl
theorem Dp_non {K : PySem.W.Frag} {H : Hp} {n : Nat} : Dp K H n .non .non := by unfold Dp; rfl
theorem all2_ints {K : PySem.W.Frag} {H : Hp} {n : Nat} : ∀ is : List Int, all2 (Dp K H n) (is.map D.int) (is.map V.int)
  | [] => trivial
  | _ :: r => ⟨Dp_int, all2_ints r⟩
end L2

/-! ## new things, told by what stands there alone (no upd in the reading) -/
namespace L2
open PySem PySem.Spec PyProof.Rows
/-- a new object: its address was free, all else stays -/
def New (H : Hp) (o : HO) (Q : VK) : Prop := ∀ p H', H p = none → Same H H' → H' p = some o → Q (.ref p) H'
theorem New.at {H : Hp} {o : HO} {Q : VK} (h : New H o Q) {p : Addr} (hp : H p = none) : Q (.ref p) (upd H p o) := h p _ hp (same_new hp o) upd_same
section
variable {X : Cx} {es : List Expr} {t : TA} {pos : Pos}
def tTupS (t : TA) : TE := fun σ H Q => t σ H fun xs H1 => xs.length ≤ sizeLine ∧ New H1 (.tup xs) Q
def tLstS (t : TA) : TE := fun σ H Q => t σ H fun xs H1 => xs.length ≤ sizeLine ∧ New H1 (.lst xs) Q
theorem pe_tupS {x1} (h : PA X es t) : PE X (.Tuple es x1 pos) (tTupS t) := by
  intro pins s σ H Q I hq
  refine wpAny_Tuple_spliced (thn (h pos pins s σ H _ I hq) fun us s1 ⟨xs, H1, I1, r, z, q⟩ => ⟨by rw [← r.length]; exact z, ?_⟩)
  have hf : H1 s1.heap.objs.size = none := I1.hok.fresh (Nat.le_refl _)
  refine ⟨.ref s1.heap.objs.size, upd H1 s1.heap.objs.size (.tup xs), I1.laid (t' := s1.toks) (fun b u e => Heap.get?_push_of_some _ e) (Nat.le_refl _) ?_, rfl, q.at hf⟩
  exact ⟨z, us, r, ⟨_, Heap.get?_push_size _ rfl, rfl, _, rfl⟩⟩
theorem pe_lstS (h : PA X es t) : PE X (.List es pos) (tLstS t) := by
  intro pins s σ H Q I hq
  refine wpAny_List_spliced (thn (h pos pins s σ H _ I hq) fun us s1 ⟨xs, H1, I1, r, z, q⟩ => ⟨by rw [← r.length]; exact z, ?_⟩)
  have hf : H1 s1.heap.objs.size = none := I1.hok.fresh (Nat.le_refl _)
  refine ⟨.ref s1.heap.objs.size, upd H1 s1.heap.objs.size (.lst xs), I1.laid (t' := s1.toks) (fun b u e => Heap.get?_push_of_some _ e) (Nat.le_refl _) ?_, rfl, q.at hf⟩
  exact ⟨z, us, 0, r, Heap.get?_push_size _ rfl⟩
theorem OpR.imp {f : Value → Value → Sem Value} {r r' : R2} (h : OpR X f r) (i : ∀ x y H Q, r' x y H Q → r x y H Q) : OpR X f r' := fun pins s σ H x y v u Q I rx ry q => h pins s σ H x y v u Q I rx ry (i _ _ _ _ q)
theorem SlR.imp {r r' : V → Option Int → Option Int → Hp → VK → Prop} (h : SlR X r) (i : ∀ x lo hi H Q, r' x lo hi H Q → r x lo hi H Q) : SlR X r' :=
  fun pins s σ H x v vl vu lo hi sl Q I rx hs pl pu q => h pins s σ H x v vl vu lo hi sl Q I rx hs pl pu (i _ _ _ _ _ q)
theorem CallR.imp {f : Value} {r r' : List V → Hp → VK → Prop} (h : CallR X f r) (i : ∀ xs H Q, r' xs H Q → r xs H Q) : CallR X f r' := fun pins s σ H xs us Q I rx q => h pins s σ H xs us Q I rx (i _ _ _ q)
def rCatS : R2 := fun x y H Q => ∃ p q xs ys, x = .ref p ∧ y = .ref q ∧ H p = some (.lst xs) ∧ H q = some (.lst ys) ∧ xs.length + ys.length ≤ sizeLine ∧ New H (.lst (xs ++ ys)) Q
theorem op_catS : OpR X (binaryOp .Add) rCatS := op_cat.imp fun _ _ _ _ ⟨p, q, xs, ys, e1, e2, h1, h2, hz, hq⟩ => ⟨p, q, xs, ys, e1, e2, h1, h2, hz, fun _ hp => hq.at hp⟩
theorem call_list_ofS : CallR X (.type "list") (fun xs H Q => ∃ p ys, xs = [.ref p] ∧ (SqL X.K H p ys ∨ SqT X.K H p ys) ∧ New H (.lst ys) Q) := call_list_of.imp fun _ _ _ ⟨p, ys, e, h, q⟩ => ⟨p, ys, e, h, fun _ hp => q.at hp⟩
end
end L2
namespace L2
open PySem PySem.Spec PyProof.Rows
theorem small_len {n : Nat} (h : n ≤ 1000) : n < sizeLine := Nat.lt_of_le_of_lt h (by decide)
theorem le_line {n : Nat} (h : n ≤ 1000) : n ≤ sizeLine := Nat.le_of_lt (small_len h)
end L2
namespace L2
open PySem PySem.Spec PyProof.Rows
def tEither (t u : TE) : TE := fun σ H Q => t σ H Q ∨ u σ H Q
end L2

/-! ## a loop's iterator on its own; two lists side by side (zip) -/
namespace L2
open PySem PySem.Spec PyProof.Rows
/-- what a loop asks of its iterator -/
def Loop (g : TG) (tb : TS) (D : Ends) (σ : St) (J : It) (H1 : Hp) : Prop := ∃ W : Nat → Nat → St → Hp → Prop, (∃ m, W 0 m σ H1) ∧ ∀ i m σ H, W i m σ H →
  (J.stop i H ∧ D.nx σ H) ∨ (J.go i H ∧ ∃ N : St → Hp → Prop, (∀ σ' H', N σ' H' → ∃ m', m' < m ∧ W (i + 1) m' σ' H') ∧ ∀ x H', J.yld i H x H' → g x σ H' fun σ2 H2 => tb { D with nx := N, ct := N, bk := D.nx } σ2 H2)
/-- the loop's rest as one name, so that the simp call sees the iterator only -/
theorem for_by {wi : TI} {g : TG} {tb : TS} {D : Ends} {σ : St} {H : Hp} (k : ∀ R : It → Hp → Prop, (∀ J H1, Loop g tb D σ J H1 → R J H1) → wi σ H R) : tFor wi g tb D σ H := k _ fun _ _ h => h
/-- two lists side by side: each turn makes a new pair -/
def Itz (K : PySem.W.Frag) (a b : Addr) : It :=
  ⟨fun i H => ∃ xs ys x y, SqL K H a xs ∧ SqL K H b ys ∧ xs[i]? = some x ∧ ys[i]? = some y,
   fun i H v H' => ∃ p, v = .ref p ∧ H p = none ∧ Same H H' ∧ ∃ x y, H' p = some (.tup [x, y]) ∧ (∀ xs, SqL K H a xs → xs[i]? = some x) ∧ ∀ ys, SqL K H b ys → ys[i]? = some y,
   fun i H => ∃ xs ys, SqL K H a xs ∧ SqL K H b ys ∧ (xs.length ≤ i ∨ ys.length ≤ i)⟩
section
variable {X : Cx} {pins : List (Addr × Obj)} {σ : St} {H : Hp} {s : Shared} {h' : Heap} {ch : List Addr} {t' : Nat}
theorem Inv.turnedL (I : Inv X pins σ H s) (hf : ∀ b ∈ ch, FpOk X pins H b) (k : ∀ b o, b ∉ ch → s.heap.get? b = some o → h'.get? b = some o) : Inv X pins σ H { s with heap := h', toks := t' } := by
  have nit : ∀ b u, H b = some u → b ∉ ch := fun b u e z => by rw [(hf b z).1] at e; cases e
  refine I.step (g' := s.gens) (d' := s.drawn) (ch := ch) (fun b hb => ?_) (fun b o _ _ hc e _ => k b o hc e) (fun b o _ _ hc e _ => ⟨o.slots, k b o hc e⟩) (fun _ _ _ _ n => n)
    (fun b o hc e => ⟨o, k b o hc e⟩) (fun _ _ e => e) (fun _ _ _ e => e) (fun b ps e => ⟨#[], by rw [e]; simp⟩) (fun m hm => ?_) (fun b u e => ?_) I.bare
  · obtain ⟨_, f1, _, f3, f4, f5⟩ := hf b hb
    exact ⟨f3, f1, f4, f5⟩
  · obtain ⟨o, es, ep, ho, r⟩ := hm
    exact ⟨o, es, ep, k _ o (fun z => (hf _ z).2.1 rfl) ho, r⟩
  · refine (I.hok b u e).stay (fun c v hc q => k c v ?_ q) (fun _ q => q) fun _ _ q => q
    rcases hc with z | z
    · rw [z]; exact nit b u e
    · exact nit c _ z
theorem Inv.laidL {a : Addr} {o : HO} (I : Inv X pins σ H s) (hf : ∀ b ∈ ch, FpOk X pins H b) (k : ∀ b o, b ∉ ch → s.heap.get? b = some o → h'.get? b = some o) (hp : s.heap.objs.size ≤ a) (new : ObjOk X.prog X.w (upd H a o) h' a o) :
    Inv X pins σ (upd H a o) { s with heap := h', toks := t' } := by
  have hn := I.hok.fresh hp
  have nit : ∀ b u, H b = some u → b ∉ ch := fun b u e z => by rw [(hf b z).1] at e; cases e
  refine I.step (g' := s.gens) (d' := s.drawn) (ch := ch) (fun b hb => ?_) (fun b o _ _ hc e _ => k b o hc e) (fun b o _ _ hc e _ => ⟨o.slots, k b o hc e⟩)
    (fun b u _ e n => by rw [upd_ne (Nat.ne_of_lt (Nat.lt_of_lt_of_le (Heap.lt_size e) hp))]; exact n)
    (fun b o hc e => ⟨o, k b o hc e⟩) (fun b xs e => by rw [upd_ne (ne_of_none e hn)]; exact e) (fun b o u e => by rw [upd_ne (ne_of_none e hn)]; exact e) (fun b ps e => ⟨#[], by rw [upd_ne (ne_of_none e hn), e]; simp⟩) (fun m hm => ?_) (fun b u e => ?_) I.bare
  · obtain ⟨_, f1, _, f3, f4, f5⟩ := hf b hb
    exact ⟨f3, f1, f4, f5⟩
  · obtain ⟨o, es, ep, ho, r⟩ := hm
    exact ⟨o, es, ep, k _ o (fun z => (hf _ z).2.1 rfl) ho, r⟩
  · by_cases hb : b = a
    · subst hb; rw [upd_same] at e; cases e; exact new
    · rw [upd_ne hb] at e
      refine (I.hok b u e).stay (fun c v hc q => k c v ?_ q) (fun c q => by rw [upd_ne (ne_of_none q hn)]; exact q) fun c xs q => by rw [upd_ne (ne_of_none q hn)]; exact q
      rcases hc with z | z
      · rw [z]; exact nit b u e
      · exact nit c _ z
end
def iZip (K : PySem.W.Frag) (ta : TA) : TI := fun σ H R => ta σ H fun vs H1 => ∃ a b, vs = [.ref a, .ref b] ∧ (∃ xs, SqL K H1 a xs) ∧ (∃ ys, SqL K H1 b ys) ∧ R (Itz K a b) H1
theorem kit_lst_lst {K : PySem.W.Frag} : PySem.W.kitOne K (.type "list") (.type "list") = some true := by
  unfold PySem.W.kitOne
  rw [if_pos (by decide)]
section
variable {X : Cx}
end
/-! ### f(e, .., k = v, ..) where f may raise -/
section
variable {X : Cx} {Ek : St → XK} {k : Nat} {f : Addr} {fd : FuncData} {ps ks : List Str} {sp : Sp} {x : Str} {p pos : Pos} {e : Expr} {es : List Expr} {kws : List Keyword} {t tk : TA} {g : List Value → List Value → List Value} {gV : List V → List V → List V}
def tCallKX (sp : Sp) (gV : List V → List V → List V) (Ek : St → XK) (t tk : TA) : TE := fun σ H Q => t σ H fun vs H1 => tk σ H1 fun zs H2 => sp (gV vs zs) H2 Q (Ek σ)
end
/-! ### a def with a default for its last argument -/
structure FunD (K : PySem.W.Frag) (x qual : Str) (st : Stmt) (f : Addr) (fd : FuncData) : Prop where
  ex : ∃ (dV oc : Value) (od : Option Addr) (kV doc pm : Value) (an : Option Addr) (cdv ct : Value) (osl : Array (Option Value)),
    fd = PySem.W.fnOf x qual (defArgs st) (defBody st) (defScope st) dV kV doc pm an cdv ct ∧ K.lookup f = some ⟨oc, od, .func fd, osl⟩ ∧ PySem.W.codeIn K cdv qual = true
  kp : PySem.W.keepIn K (.ref f) = true
theorem FunD.okX {P : Program} {w : World} {K : PySem.W.Frag} {mg : Str → Option Value} {base : Heap} {x qual : Str} {st : Stmt} {f : Addr} {fd : FuncData} {N ps : List Str} {k : Nat} {sp : Sp} (F : FunD K x qual st f fd) (S : FnScope N ps (defScope st)) (len : ∀ vs H Q E, sp vs H Q E → vs.length = ps.length)
    (hbody : ∀ (cdv : Value) (A : Around) (outer : List Env) (s : Shared) (H : Hp) (vs : List V) (Q : VK) (E : XK), LvR (cxOf (CXE P w) P w K mg base N qual (defScope st) f cdv A outer s H E) (fun _ => E) → Room k (A.deeper (envOfC qual (defScope st) s.heap.objs.size f cdv)) → sp vs H Q E →
      ∃ t, PSs (cxOf (CXE P w) P w K mg base N qual (defScope st) f cdv A outer s H E) (defBody st) t ∧ t { nx := fun _ H' => Q .non H', rt := Q } (start N vs) H) : FnOk P w K mg base (CXE P w) (k + 1) f fd ps sp := by
  obtain ⟨dV, oc, od, kV, doc, pm, an, cdv, ct, osl, rfl, lk, hcd⟩ := F.ex
  exact fn_of lk hcd S len fun A outer s H vs Q E hr hsp => hbody cdv A outer s H vs Q E lv_def hr hsp
/-- one argument by place, one by name -/
def kwG {α : Type} (us ws : List α) : List α := match us, ws with
  | [a], [b] => [a, b]
  | _, _ => []
theorem kwG_one {α : Type} (a b : α) : kwG [a] [b] = [a, b] := rfl
end L2

/-! ## an amount spread by weights -/
namespace Parts
/-- the parts of an amount A, by weights that come behind some of sum w, all of sum s -/
def pts (A s : Int) : Int → List Int → List Int
  | _, [] => []
  | w, x :: r => (A * (w + x) / s - A * w / s) :: pts A s (w + x) r
def parts (A : Int) (ws : List Int) : List Int := pts A ws.sum 0 ws
variable {A s : Int}
end Parts

/-! ## an argument that is no star, told once (its reduction over a long list is slow) -/
namespace L2
open PySem
section
variable {env : Env} {es : List Expr} {p : Pos}
theorem star_Constant {c : Const} {j : Nat} : starEach (.Constant c j p :: es) env = (false, eval (.Constant c j p) env) :: starEach es env := rfl
theorem star_Name {x : Str} : starEach (.Name x p :: es) env = (false, eval (.Name x p) env) :: starEach es env := rfl
theorem star_BinOp {a b : Expr} {o : Operator} : starEach (.BinOp a o b p :: es) env = (false, eval (.BinOp a o b p) env) :: starEach es env := rfl
theorem star_Tuple {xs : List Expr} {k} : starEach (.Tuple xs k p :: es) env = (false, eval (.Tuple xs k p) env) :: starEach es env := rfl
theorem star_Subscript {a b : Expr} : starEach (.Subscript a b p :: es) env = (false, eval (.Subscript a b p) env) :: starEach es env := rfl
theorem star_Call {f : Expr} {xs : List Expr} {ks : List Keyword} : starEach (.Call f xs ks p :: es) env = (false, eval (.Call f xs ks p) env) :: starEach es env := rfl
end
end L2
/-! ## where a token has been made, through statements and calls (str.replace asks for that) -/
namespace L2
open PySem PySem.Spec PyProof.Rows
def PSt (X : Cx) (st : Stmt) (t : TS) : Prop :=
  ∀ (pins : List (Addr × Obj)) (s : Shared) (σ : St) (H : Hp) (D : Ends), 0 < s.toks → Inv X pins σ H s → t D σ H → wpAny (model X.prog X.w) X.A (exec st X.env) (SP X pins D) X.xe s
def PTt (X : Cx) (e : Expr) (t : TT) : Prop :=
  ∀ (pins : List (Addr × Obj)) (s : Shared) (σ : St) (H : Hp) (Q : Bool → Hp → Prop), 0 < s.toks → Inv X pins σ H s → t σ H Q → wpAny (model X.prog X.w) X.A (isTrue e X.env (eval e X.env)) (TP X pins σ Q) X.xe s
def PWt (X : Cx) (e : Expr) (t : TT) : Prop :=
  ∀ (whole : Sem Value) (pins : List (Addr × Obj)) (s : Shared) (σ : St) (H : Hp) (Q : Bool → Hp → Prop), 0 < s.toks → Inv X pins σ H s → t σ H Q → wpAny (model X.prog X.w) X.A (isTrue e X.env whole) (TP X pins σ Q) X.xe s
theorem PWt.pt {X : Cx} {e : Expr} {t : TT} (h : PWt X e t) : PTt X e t := h _
section
variable {X : Cx} {st : Stmt} {sts rest : List Stmt} {e a b : Expr} {es : List Expr} {u v : TS} {te ta tb to : TE} {tc tA tB' : TT} {tl : TA} {pos : Pos}
theorem PE.t (h : PE X e te) : PEt X e te := fun pins s σ H Q _ I q => h pins s σ H Q I q
theorem PA.t (h : PA X es tl) : PAt X es tl := fun ps pins s σ H Q _ I q => h ps pins s σ H Q I q
theorem PS.t (h : PS X st u) : PSt X st u := fun pins s σ H D _ I q => h pins s σ H D I q
theorem PSs.t (h : PSs X sts u) : PSst X sts u := fun pins s σ H D _ I q => h pins s σ H D I q
theorem PT.t (h : PT X e tc) : PTt X e tc := fun pins s σ H Q _ I q => h pins s σ H Q I q
theorem PW.t (h : PW X e tc) : PWt X e tc := fun wh pins s σ H Q _ I q => h wh pins s σ H Q I q
end
/-! ### a statement that makes a token -/
def PEm (X : Cx) (e : Expr) (t : TE) : Prop :=
  ∀ (pins : List (Addr × Obj)) (s : Shared) (σ : St) (H : Hp) (Q : VK), Inv X pins σ H s → t σ H Q → wpAny (model X.prog X.w) X.A (eval e X.env) (fun v s' => 0 < s'.toks ∧ EP X pins σ Q v s') X.xe s
def PSm (X : Cx) (st : Stmt) (t : TS) : Prop :=
  ∀ (pins : List (Addr × Obj)) (s : Shared) (σ : St) (H : Hp) (D : Ends), Inv X pins σ H s → t D σ H → wpAny (model X.prog X.w) X.A (exec st X.env) (fun f s' => 0 < s'.toks ∧ SP X pins D f s') X.xe s
section
variable {X : Cx} {st : Stmt} {rest : List Stmt} {e a : Expr} {t u : TS} {te ta : TE} {pos cp : Pos}
end
/-! ### defs that are called where a token has been made -/
structure FnOkT (P : Program) (w : World) (K : PySem.W.Frag) (mg : Str → Option Value) (base : Heap) (CX : CXT) (k : Nat) (f : Addr) (fd : FuncData) (ps : List Str) (sp : Sp) : Prop where
  len : ∀ vs H Q E, sp vs H Q E → vs.length = ps.length
  run : ∀ (A : Around) (outer : List Env) (s : Shared) (H : Hp) (args : Args) (us : List Value) (vs : List V) (Q : VK) (E : XK), 0 < s.toks → Room k A → Env0 P w K mg base A outer s H → BindsTo s fd args (ps.zip us) → Vals vs us → sp vs H Q E →
    codeAny (model P w) A (.call (.ref f) args) (CR CX outer P w H s Q E) s
theorem fn_ofT {CX : CXT} {P : Program} {w : World} {K : PySem.W.Frag} {mg : Str → Option Value} {base : Heap} {k : Nat} {f : Addr} {name qual : Str} {params : Arguments} {body : List Stmt} {scope : Scope} {dV kV doc pm cdv ct oc : Value} {an od : Option Addr}
    {osl : Array (Option Value)} {N ps : List Str} {sp : Sp} (lk : K.lookup f = some ⟨oc, od, .func (PySem.W.fnOf name qual params body scope dV kV doc pm an cdv ct), osl⟩) (hcd : PySem.W.codeIn K cdv qual = true) (S : FnScope N ps scope)
    (len : ∀ vs H Q E, sp vs H Q E → vs.length = ps.length)
    (hbody : ∀ (A : Around) (outer : List Env) (s : Shared) (H : Hp) (vs : List V) (Q : VK) (E : XK), Room k (A.deeper (envOfC qual scope s.heap.objs.size f cdv)) → sp vs H Q E →
      ∃ t, PSst (cxOf CX P w K mg base N qual scope f cdv A outer s H E) body t ∧ t { nx := fun _ H' => Q .non H', rt := Q } (start N vs) H) :
    FnOkT P w K mg base CX (k + 1) f (PySem.W.fnOf name qual params body scope dV kV doc pm an cdv ct) ps sp := by
  refine ⟨len, fun A outer s H args us vs Q E h0 hr e0 hb r hsp => ?_⟩
  have hl := len _ _ _ _ hsp
  have KX : K.In s.heap := e0.mod.kin.keeps fun b o e => (e0.bs b o e).1
  have lim : s.heap.NoLimit := e0.mod.nolimit.keeps fun b o e => (e0.bs b o e).1
  have hkind : ∀ y ∈ ps.zip us, scope.names.lookup y.1 = some .local ∨ (scope.names.lookup y.1 = some .cell ∧ ((cellsFrom (s.heap.objs.size + 1) scope.names []).lookup y.1).isSome = true) := fun ⟨n, v⟩ hy => by
    rcases S.par n (List.of_mem_zip hy).1 with q | q
    · exact .inl q
    · exact .inr ⟨q, PySem.W.cellsFrom_some _ _ _ (.inl q)⟩
  refine codeAny_call_function hr.depth (KX _ _ lk) rfl S.co S.gen rfl (PySem.W.codeRec_of KX hcd) (hb _ _ _ _ ?_)
  refine wpAny_with_toks (n := 1) h0 (wpAny_newFunctionEnv_cells S.kind hkind fun env he s1 x l1 => ?_)
  subst he
  refine ⟨lim.keeps x.toInCall.keep, codeAny_func ?_⟩
  obtain ⟨t, ht, hq⟩ := hbody A outer s H vs Q E (hr.deeper _) hsp
  have I : Inv (cxOf CX P w K mg base N qual scope f cdv A outer s H E) [] (start N vs) H s1 := inv_start S hr.hd e0 hl r x
  refine wpAny_mono (ht [] s1 (start N vs) H _ l1 I hq) (fun fl s' hs => ?_) fun e s' hs => hs
  have fin : ∀ {σ' : St} {H' : Hp} {v : V} {u : Value}, Inv (cxOf CX P w K mg base N qual scope f cdv A outer s H E) [] σ' H' s' → RelV v u → Q v H' → CE outer P w H s Q u s' :=
    fun {σ' H' v u} J rv q => ⟨v, H', J.os, J.bare, J.base, J.hok, rv, q⟩
  cases fl with
  | ret u =>
    obtain ⟨v, σ', H', J, rv, q⟩ := hs
    exact fin J rv q
  | next =>
    obtain ⟨σ', H', J, q⟩ := hs
    exact fin (v := V.non) (u := Value.none) J rfl q
  | brk =>
    obtain ⟨_, _, _, q⟩ := hs
    exact False.elim q
  | cont =>
    obtain ⟨_, _, _, q⟩ := hs
    exact False.elim q
section
variable {P : Program} {w : World} {K : PySem.W.Frag} {mg : Str → Option Value} {base : Heap} {x qual : Str} {st : Stmt} {f : Addr} {fd : FuncData} {N ps : List Str} {k : Nat} {sp : Sp}
theorem Fun.okXT (F : Fun K x qual st f fd) (S : FnScope N ps (defScope st)) (len : ∀ vs H Q E, sp vs H Q E → vs.length = ps.length)
    (hbody : ∀ (cdv : Value) (A : Around) (outer : List Env) (s : Shared) (H : Hp) (vs : List V) (Q : VK) (E : XK), LvR (cxOf (CXE P w) P w K mg base N qual (defScope st) f cdv A outer s H E) (fun _ => E) → Room k (A.deeper (envOfC qual (defScope st) s.heap.objs.size f cdv)) → sp vs H Q E →
      ∃ t, PSst (cxOf (CXE P w) P w K mg base N qual (defScope st) f cdv A outer s H E) (defBody st) t ∧ t { nx := fun _ H' => Q .non H', rt := Q } (start N vs) H) : FnOkT P w K mg base (CXE P w) (k + 1) f fd ps sp := by
  obtain ⟨oc, od, kV, doc, pm, an, cdv, ct, osl, rfl, lk, hcd⟩ := F.ex
  exact fn_ofT lk hcd S len fun A outer s H vs Q E hr hsp => hbody cdv A outer s H vs Q E lv_def hr hsp
theorem FunD.okXT (F : FunD K x qual st f fd) (S : FnScope N ps (defScope st)) (len : ∀ vs H Q E, sp vs H Q E → vs.length = ps.length)
    (hbody : ∀ (cdv : Value) (A : Around) (outer : List Env) (s : Shared) (H : Hp) (vs : List V) (Q : VK) (E : XK), LvR (cxOf (CXE P w) P w K mg base N qual (defScope st) f cdv A outer s H E) (fun _ => E) → Room k (A.deeper (envOfC qual (defScope st) s.heap.objs.size f cdv)) → sp vs H Q E →
      ∃ t, PSst (cxOf (CXE P w) P w K mg base N qual (defScope st) f cdv A outer s H E) (defBody st) t ∧ t { nx := fun _ H' => Q .non H', rt := Q } (start N vs) H) : FnOkT P w K mg base (CXE P w) (k + 1) f fd ps sp := by
  obtain ⟨dV, oc, od, kV, doc, pm, an, cdv, ct, osl, rfl, lk, hcd⟩ := F.ex
  exact fn_ofT lk hcd S len fun A outer s H vs Q E hr hsp => hbody cdv A outer s H vs Q E lv_def hr hsp
end
section
variable {X : Cx} {Ek : St → XK} {k : Nat} {f : Addr} {fd : FuncData} {ps ks : List Str} {sp : Sp} {x : Str} {p pos : Pos} {e : Expr} {es : List Expr} {kws : List Keyword} {t tk : TA} {g : List Value → List Value → List Value} {gV : List V → List V → List V} {dvs : List V} {ds : List Value}
end
section
variable {X : Cx} {body suite : List Stmt} {b₀ : Stmt} {n xn : Str} {i : Nat} {C : Addr} {tb : (St → XK) → TS} {ts : TS} {np hpos pos : Pos}
end
end L2
namespace L2
open PySem PySem.Spec PyProof.Rows
section
variable {X : Cx}
end
end L2

/-! ## amounts with places, as texts -/
namespace L2
open PySem PySem.NumText
/-- the figures, padded with noughts ahead, are those ahead of the point and those behind it -/
theorem zf_split : ∀ (p m : Nat), zf (dg m) (p + 1) = dg (m / 10 ^ p) ++ fig p (m : Int)
  | 0, m => by
    rw [Nat.pow_zero, Nat.div_one]
    unfold zf
    have := dg_pos m
    rw [show 0 + 1 - (dg m).length = 0 by omega]
    show dg m = dg m ++ []
    rw [List.append_nil]
  | p + 1, m => by
    rw [fig_snoc]
    have e : ((m : Int) / 10) = ((m / 10 : Nat) : Int) := by omega
    have e2 : ((m : Int) % 10).toNat = m % 10 := by omega
    have e3 : m / 10 ^ (p + 1) = m / 10 / 10 ^ p := by rw [Nat.pow_succ, Nat.mul_comm, Nat.div_div_eq_div_mul]
    rw [e, e2, e3, ← List.append_assoc, ← zf_split p (m / 10)]
    by_cases c : m < 10
    · rw [dg_lt c, show m / 10 = 0 by omega, show m % 10 = m by omega, dg_lt (show 0 < 10 by decide)]
      unfold zf
      rw [List.length_singleton, List.length_singleton, Nat.add_sub_cancel, Nat.add_sub_cancel, List.replicate_succ']
    · rw [dg_ge (n := m) (by omega)]
      unfold zf
      rw [List.length_append, List.length_singleton, ← List.append_assoc]
      congr 3
      omega
/-- the text of the amount n with p places -/
def atxt (n : Int) (p : Nat) : List Nat :=
  (if n < 0 then [45] else []) ++ (dg (n.natAbs / 10 ^ p) ++ (if p = 0 then [] else 46 :: fig p (n.natAbs : Int)))
/-- how many figures it has -/
def acnt (n : Int) (p : Nat) : Nat := (dg (n.natAbs / 10 ^ p)).length + p
theorem dg_len : ∀ (k n : Nat), 0 < k → n < 10 ^ k → (dg n).length ≤ k
  | 0, _, h, _ => absurd h (by decide)
  | k + 1, n, _, h => by
    by_cases c : n < 10
    · rw [dg_lt c, List.length_singleton]; omega
    · rw [dg_ge (by omega), List.length_append, List.length_singleton]
      have k0 : 0 < k := by
        rcases k with _ | k
        · simp at h; omega
        · omega
      have := dg_len k (n / 10) k0 (by rw [Nat.pow_succ] at h; omega)
      omega
theorem strike_digits {cs : List Nat} (h : AllDigits cs) (c : Nat) (hc : c < 48) : cs.filter (· != c) = cs := by
  rw [List.filter_eq_self]
  intro a ha
  have := h a ha
  simp
  omega
theorem atxt_strike (n : Int) (p : Nat) : ((atxt n p).filter (· != 45)).filter (· != 46) = zf (dg n.natAbs) (p + 1) := by
  rw [zf_split]
  have d1 := dg_digits (n.natAbs / 10 ^ p)
  have d2 := fig_digits p (n.natAbs : Int)
  unfold atxt
  rw [List.filter_append, List.filter_append, List.filter_append, List.filter_append]
  rw [strike_digits d1 45 (by decide), strike_digits d1 46 (by decide)]
  have e1 : (List.filter (· != 46) (List.filter (· != 45) (if n < 0 then [45] else []))) = [] := by split <;> rfl
  rw [e1, List.nil_append]
  congr 1
  by_cases z : p = 0
  · subst z
    rfl
  · rw [if_neg z, List.filter_cons, if_pos (by decide), List.filter_cons, if_neg (by decide), strike_digits d2 45 (by decide), strike_digits d2 46 (by decide)]
theorem atxt_head (n : Int) (p : Nat) : (atxt n p).head? = some 45 ↔ n < 0 := by
  unfold atxt
  by_cases h : n < 0
  · rw [if_pos h]
    simp [h]
  · rw [if_neg h, List.nil_append]
    have d1 := dg_digits (n.natAbs / 10 ^ p)
    cases e : dg (n.natAbs / 10 ^ p) with
    | nil => have := dg_pos (n.natAbs / 10 ^ p); rw [e] at this; cases this
    | cons c r =>
      rw [e] at d1
      have := d1 c List.mem_cons_self
      simp only [List.cons_append, List.head?_cons, Option.some.injEq]
      constructor
      · intro z; omega
      · intro z; exact absurd z h
theorem dg_val (n : Nat) : digitsVal (dg n) = n := by
  induction n using Nat.strongRecOn with
  | _ n ih =>
    by_cases h : n < 10
    · rw [dg_lt h]
      have := digitsVal_snoc [] (48 + n)
      simp at this
      rw [this]
      simp [digitsVal]
    · rw [dg_ge (by omega), digitsVal_snoc, ih (n / 10) (by omega)]
      omega
theorem zf_val (m : Nat) : ∀ k, digitsVal (zf (dg m) (k + 1)) = m := by
  intro k
  induction k generalizing m with
  | zero => rw [zf_split, Nat.pow_zero, Nat.div_one]; show digitsVal (dg m ++ []) = m; rw [List.append_nil, dg_val]
  | succ k ih =>
    rw [zf_split, fig_snoc]
    have e : ((m : Int) / 10) = ((m / 10 : Nat) : Int) := by omega
    have e2 : ((m : Int) % 10).toNat = m % 10 := by omega
    have e3 : m / 10 ^ (k + 1) = m / 10 / 10 ^ k := by rw [Nat.pow_succ, Nat.mul_comm, Nat.div_div_eq_div_mul]
    rw [e, e2, e3, ← List.append_assoc, ← zf_split k (m / 10), digitsVal_snoc, ih (m / 10)]
    omega
/-- a text that is written as an amount with p places, of at most sixty figures -/
def Written (cs : List Nat) (p : Nat) (n : Int) : Prop := cs = atxt n p ∧ acnt n p ≤ 60
theorem atxt_inj {n n' : Int} {p : Nat} (h : atxt n p = atxt n' p) : n = n' := by
  have h1 := congrArg (fun cs => digitsVal ((cs.filter (· != 45)).filter (· != 46))) h
  simp only [atxt_strike, zf_val] at h1
  have h2 := atxt_head n p
  have h3 := atxt_head n' p
  rw [h, h3] at h2
  omega
theorem acnt_le {n : Int} {p : Nat} (hn : n.natAbs < 10 ^ 60) (hp : p ≤ 6) : acnt n p ≤ 60 := by
  unfold acnt
  have h : n.natAbs / 10 ^ p < 10 ^ (60 - p) := by
    refine Nat.div_lt_of_lt_mul ?_
    rw [← Nat.pow_add, show p + (60 - p) = 60 by omega]
    exact hn
  have := dg_len (60 - p) _ (by omega) h
  omega
theorem Written.one {cs : List Nat} {p : Nat} {n n' : Int} (h : Written cs p n) (g : Written cs p n') : n = n' := atxt_inj (h.1.symm.trans g.1)
theorem written {n : Int} {p : Nat} (hn : n.natAbs < 10 ^ 60) (hp : p ≤ 6) : Written (atxt n p) p n := ⟨rfl, acnt_le hn hp⟩
/-- how a text behind its sign is read: the point's place, the number, how many figures -/
def Sh (r : List Nat) (pt : Option Nat) (num fg : Nat) : Prop :=
  match pt with
  | none => AllDigits r ∧ num = digitsVal r ∧ fg = r.length
  | some a => ∃ A B, r = A ++ 46 :: B ∧ A.length = a ∧ AllDigits A ∧ AllDigits B ∧ num = digitsVal (A ++ B) ∧ fg = A.length + B.length
theorem Sh.nil : Sh [] none 0 0 := ⟨(fun c h => nomatch h), rfl, rfl⟩
theorem ite_of {c A B : Prop} [Decidable c] (h1 : c → A) (h2 : ¬ c → B) : if c then A else B := by
  by_cases h : c
  · rw [if_pos h]; exact h1 h
  · rw [if_neg h]; exact h2 h
end L2

namespace L2
open PySem PySem.Spec PyProof.Rows

/-! ### lists of pairs as tables -/
section
variable {κ : Type} [DecidableEq κ]
def valV (kvs : List (κ × V)) (k : κ) : Option V := (kvs.find? fun kv => decide (kv.1 = k)).map (·.2)
/-- in its place, or at the end -/
def putK (kvs : List (κ × V)) (k : κ) (v : V) : List (κ × V) :=
  if (kvs.any fun kv => decide (kv.1 = k)) = true then kvs.map (fun kv => if kv.1 = k then (kv.1, v) else kv) else kvs ++ [(k, v)]
def dropK (kvs : List (κ × V)) (k : κ) : List (κ × V) := kvs.filter fun kv => decide (kv.1 ≠ k)

theorem valV_pos {p : κ × V} {r : List (κ × V)} {k : κ} (e : p.1 = k) : valV (p :: r) k = some p.2 := by simp [valV, List.find?_cons, e]
theorem valV_neg {p : κ × V} {r : List (κ × V)} {k : κ} (e : ¬ p.1 = k) : valV (p :: r) k = valV r k := by simp [valV, List.find?_cons, e]
theorem valV_any (k : κ) : ∀ kvs : List (κ × V), (kvs.any fun kv => decide (kv.1 = k)) = (valV kvs k).isSome
  | [] => rfl
  | p :: r => by
    rw [List.any_cons]
    by_cases e : p.1 = k
    · simp only [valV_pos e, decide_eq_true e, Bool.true_or, Option.isSome_some]
    · rw [valV_neg e, decide_eq_false e, Bool.false_or]; exact valV_any k r
theorem length_putK (kvs : List (κ × V)) (k : κ) (v : V) : (putK kvs k v).length ≤ kvs.length + 1 := by
  unfold putK
  split
  · rw [List.length_map]; omega
  · rw [List.length_append, List.length_cons, List.length_nil]; omega
theorem putK_new {kvs : List (κ × V)} {k : κ} (v : V) (h : valV kvs k = none) : putK kvs k v = kvs ++ [(k, v)] := by
  unfold putK
  rw [valV_any, h]
  exact if_neg (by decide)

theorem RelO.isSome_eq {o : Option V} {u : Option Value} (r : RelO o u) : o.isSome = u.isSome := by
  cases o with
  | none => cases u with
    | none => rfl
    | some _ => exact (show False from r).elim
  | some _ => cases u with
    | none => exact (show False from r).elim
    | some _ => rfl
theorem RelO.getD {o : Option V} {u : Option Value} {d : V} {d' : Value} (r : RelO o u) (rd : RelV d d') : RelV (o.getD d) (u.getD d') := by
  cases o with
  | none => cases u with
    | none => exact rd
    | some _ => exact (show False from r).elim
  | some _ => cases u with
    | none => exact (show False from r).elim
    | some _ => exact r

/-- raw tables of the same keys -/
theorem KV.val {kvs : List (κ × V)} {vs : List (κ × Value)} (r : KV kvs vs) (k : κ) : RelO (valV kvs k) (valueAt vs k) := by
  unfold KV at r
  induction r with
  | nil => exact True.intro
  | @cons p q ps qs h t ih =>
    obtain ⟨h1, h2⟩ := h
    by_cases e : p.1 = k
    · have e' : q.1 = k := h1.symm.trans e
      have b : valueAt (q :: qs) k = some q.2 := by simp [valueAt, List.find?_cons, e']
      rw [valV_pos e, b]; exact h2
    · have e' : ¬ q.1 = k := fun z => e (h1.trans z)
      have b : valueAt (q :: qs) k = valueAt qs k := by simp [valueAt, List.find?_cons, e']
      rw [valV_neg e, b]; exact ih
theorem KV.any {kvs : List (κ × V)} {vs : List (κ × Value)} (r : KV kvs vs) (k : κ) : (kvs.any fun kv => decide (kv.1 = k)) = vs.any fun kv => decide (kv.1 = k) := by
  unfold KV at r
  induction r with
  | nil => rfl
  | cons h t ih => rw [List.any_cons, List.any_cons, ih, h.1]
theorem KV.repl {kvs : List (κ × V)} {vs : List (κ × Value)} (r : KV kvs vs) (k : κ) {y : V} {u : Value} (ry : RelV y u) :
    KV (kvs.map fun kv => if kv.1 = k then (kv.1, y) else kv) (vs.map fun kv => if kv.1 = k then (kv.1, u) else kv) := by
  unfold KV at r ⊢
  induction r with
  | nil => exact .nil
  | @cons p q ps qs h t ih =>
    rw [List.map_cons, List.map_cons]
    refine .cons ?_ ih
    obtain ⟨h1, h2⟩ := h
    by_cases e : p.1 = k
    · rw [if_pos e, if_pos (h1.symm.trans e)]; exact ⟨h1, ry⟩
    · rw [if_neg e, if_neg (fun z => e (h1.trans z))]; exact ⟨h1, h2⟩
theorem KV.put {kvs : List (κ × V)} {vs : List (κ × Value)} (r : KV kvs vs) (k : κ) {y : V} {u : Value} (ry : RelV y u) : KV (putK kvs k y) (stored vs k u) := by
  unfold putK stored
  rw [r.any k]
  by_cases e : (vs.any fun kv => decide (kv.1 = k)) = true
  · rw [if_pos e, if_pos e]; exact r.repl k ry
  · rw [if_neg e, if_neg e]; exact Paired.snoc r ⟨rfl, ry⟩
theorem KV.drop {kvs : List (κ × V)} {vs : List (κ × Value)} (r : KV kvs vs) (k : κ) : KV (dropK kvs k) (without vs k) := by
  unfold KV at r ⊢
  unfold dropK without
  induction r with
  | nil => exact .nil
  | @cons p q ps qs h t ih =>
    obtain ⟨h1, h2⟩ := h
    rw [List.filter_cons, List.filter_cons]
    by_cases e : p.1 = k
    · have a : ¬ decide (p.1 ≠ k) = true := by simp [e]
      have b : ¬ decide (q.1 ≠ k) = true := by simp [h1.symm.trans e]
      rw [if_neg a, if_neg b]; exact ih
    · have e' : ¬ q.1 = k := fun z => e (h1.trans z)
      have a : decide (p.1 ≠ k) = true := by simp [e]
      have b : decide (q.1 ≠ k) = true := by simp [e']
      rw [if_pos a, if_pos b]; exact .cons ⟨h1, h2⟩ ih
theorem KV.length {kvs : List (κ × V)} {vs : List (κ × Value)} (r : KV kvs vs) : kvs.length = vs.length := Paired.length r
theorem dropK_le (kvs : List (κ × V)) (k : κ) : (dropK kvs k).length ≤ kvs.length := List.length_filter_le _ _
end


/-! ### a tracked dict, its keys ints and texts or tuples of these -/
theorem kV_is {P : Program} {w : World} {k : Key} {u : Value} (r : RelV (kV k) u) : (mixKind P w).is k u = true := by
  cases k with
  | inl i => obtain ⟨t, e⟩ := (show ∃ t, u = Value.int i t from r); subst e; exact mixKind_int P w i t
  | inr x => obtain ⟨t, e⟩ := (show ∃ t, u = Value.str x t from r); subst e; exact mixKind_str P w x t
theorem items_are {P : Program} {w : World} : ∀ {ks : List Key} {us : List Value}, Vals (ks.map kV) us → ItemsAre (mixKind P w) ks us
  | [], _, r => by rw [List.map_nil] at r; cases r; exact .nil
  | k :: ks, _, r => by
    rw [List.map_cons] at r
    cases r with
    | cons h t => exact .cons (kV_is h) (items_are t)

/-- raw entries of a dict with tuple keys -/
abbrev KT (H : Hp) : List (List Key × V) → List (List Key × Addr × Value) → Prop := Paired fun p q => p.1 = q.1 ∧ H q.2.1 = some (.tup (p.1.map kV)) ∧ RelV p.2 q.2.2
theorem KT.val {H : Hp} {kvs : List (List Key × V)} {xs : List (List Key × Addr × Value)} (r : KT H kvs xs) (k : List Key) : RelO (valV kvs k) ((atKey xs k).map (·.2)) := by
  induction r with
  | nil => exact True.intro
  | @cons p q ps qs h t ih =>
    obtain ⟨h1, _, h2⟩ := h
    by_cases e : p.1 = k
    · have e' : q.1 = k := h1.symm.trans e
      have b : atKey (q :: qs) k = some q.2 := by simp [atKey, List.find?_cons, e']
      rw [valV_pos e, b]; exact h2
    · have e' : ¬ q.1 = k := fun z => e (h1.trans z)
      have b : atKey (q :: qs) k = atKey qs k := by simp [atKey, List.find?_cons, e']
      rw [valV_neg e, b]; exact ih
theorem KT.repl {H : Hp} {kvs : List (List Key × V)} {xs : List (List Key × Addr × Value)} (r : KT H kvs xs) (k : List Key) {y : V} {u : Value} (ry : RelV y u) :
    KT H (kvs.map fun kv => if kv.1 = k then (kv.1, y) else kv) (xs.map (putAt k u)) := by
  induction r with
  | nil => exact .nil
  | @cons p q ps qs h t ih =>
    rw [List.map_cons, List.map_cons]
    refine .cons ?_ ih
    obtain ⟨h1, h2, h3⟩ := h
    unfold putAt
    by_cases e : p.1 = k
    · rw [if_pos e, if_pos (h1.symm.trans e)]; exact ⟨h1, h2, ry⟩
    · rw [if_neg e, if_neg (fun z => e (h1.trans z))]; exact ⟨h1, h2, h3⟩
theorem KT.put {H : Hp} {kvs : List (List Key × V)} {xs : List (List Key × Addr × Value)} (r : KT H kvs xs) (k : List Key) {b : Addr} {y : V} {u : Value} (hb : H b = some (.tup (k.map kV))) (ry : RelV y u) :
    KT H (putK kvs k y) (storedH xs k b u) := by
  have e : (kvs.any fun kv => decide (kv.1 = k)) = (atKey xs k).isSome := by
    rw [valV_any, (r.val k).isSome_eq, Option.isSome_map]
  unfold putK storedH
  rw [e]
  by_cases q : (atKey xs k).isSome = true
  · rw [if_pos q, if_pos q]; exact r.repl k ry
  · rw [if_neg q, if_neg q]; exact Paired.snoc r ⟨rfl, hb, ry⟩
theorem KT.keeps {H H' : Hp} {kvs : List (List Key × V)} {xs : List (List Key × Addr × Value)} (r : KT H kvs xs) (ht : ∀ b ys, H b = some (.tup ys) → H' b = some (.tup ys)) : KT H' kvs xs :=
  Paired.mapP r fun _ _ z => ⟨z.1, ht _ _ z.2.1, z.2.2⟩

section
variable {P : Program} {w : World} {H : Hp} {h : Heap} {a : Addr}
theorem rd_of {u : HO} (ok : HOk P w H h) (e : Rd H a u) : ObjOk P w H h a u := e.ok ok
theorem dk_rd {kvs : List (Key × V)} (ok : HOk P w H h) (e : Rd H a (.dK kvs)) : kvs.length ≤ sizeLine ∧ (a == sysModules) = false ∧ ∃ vs, KV kvs vs ∧ h.DictOf (mixKind P w) a vs :=
  show ObjOk P w H h a (.dK kvs) from rd_of ok e
theorem dk_of {kvs : List (Key × V)} (ok : HOk P w H h) (e : H a = some (.dK kvs)) : kvs.length ≤ sizeLine ∧ (a == sysModules) = false ∧ ∃ vs, KV kvs vs ∧ h.DictOf (mixKind P w) a vs := dk_rd ok (.inl e)
/-- a tracked tuple of ints and texts is a key -/
theorem key_of {ks : List Key} (ok : HOk P w H h) (e : H a = some (.tup (ks.map kV))) : (tupleKind (mixKind P w)).is h ks a := by
  obtain ⟨_, its, r, o, h1, h2, n, h3⟩ := (show ObjOk P w H h a (.tup (ks.map kV)) from ok a _ e)
  exact ⟨o, its.toArray, n, h1, h2, h3, by simpa using items_are r⟩
theorem dt_rd {kvs : List (List Key × V)} (ok : HOk P w H h) (e : Rd H a (.dT kvs)) : kvs.length ≤ sizeLine ∧ (a == sysModules) = false ∧
    ∃ xs, KT H kvs xs ∧ h.DictOfH (tupleKind (mixKind P w)) a xs := by
  obtain ⟨z, y, xs, r, o, es, ep, h1, h2, h3, h4, h5⟩ := (show ObjOk P w H h a (.dT kvs) from rd_of ok e)
  refine ⟨z, y, xs, r, o, es, ep, h1, h2, h3, h4, fun x hx => ?_, h5⟩
  have all : ∀ {l : List (List Key × V)} {m : List (List Key × Addr × Value)}, KT H l m → ∀ x ∈ m, (tupleKind (mixKind P w)).is h x.1 x.2.1 := by
    intro l m q
    induction q with
    | nil => intro x hx; exact nomatch hx
    | @cons p q ps qs hq t ih =>
      intro x hx
      rcases List.mem_cons.mp hx with e | hx
      · subst e
        exact key_of ok (by rw [← hq.1]; exact hq.2.1)
      · exact ih x hx
  exact all r x hx
theorem dt_of {kvs : List (List Key × V)} (ok : HOk P w H h) (e : H a = some (.dT kvs)) : kvs.length ≤ sizeLine ∧ (a == sysModules) = false ∧
    ∃ xs, KT H kvs xs ∧ h.DictOfH (tupleKind (mixKind P w)) a xs := dt_rd ok (.inl e)
end

/-- what the dict at a holds at the key y -/
def DGet (H : Hp) (a : Addr) (y : V) (r : Option V) : Prop :=
  (∃ kvs k, Rd H a (.dK kvs) ∧ y = kV k ∧ r = valV kvs k) ∨ ∃ kvs k b, Rd H a (.dT kvs) ∧ y = .ref b ∧ H b = some (.tup (k.map kV)) ∧ r = valV kvs k
/-- the heap behind a[y] = v -/
def DPut (H : Hp) (a : Addr) (y v : V) (H' : Hp) : Prop :=
  (∃ kvs k, H a = some (.dK kvs) ∧ y = kV k ∧ kvs.length < sizeLine ∧ H' = upd H a (.dK (putK kvs k v))) ∨
  ∃ kvs k b, H a = some (.dT kvs) ∧ y = .ref b ∧ H b = some (.tup (k.map kV)) ∧ kvs.length < sizeLine ∧ H' = upd H a (.dT (putK kvs k v))
theorem DGet.k {H : Hp} {a : Addr} {kvs : List (Key × V)} {k : Key} (e : H a = some (.dK kvs)) : DGet H a (kV k) (valV kvs k) := .inl ⟨kvs, k, .inl e, rfl, rfl⟩
theorem DGet.t {H : Hp} {a b : Addr} {kvs : List (List Key × V)} {k : List Key} (e : H a = some (.dT kvs)) (eb : H b = some (.tup (k.map kV))) : DGet H a (.ref b) (valV kvs k) := .inr ⟨kvs, k, b, .inl e, rfl, eb, rfl⟩
theorem DPut.k {H : Hp} {a : Addr} {kvs : List (Key × V)} {k : Key} {v : V} (e : H a = some (.dK kvs)) (hl : kvs.length < sizeLine) : DPut H a (kV k) v (upd H a (.dK (putK kvs k v))) := .inl ⟨kvs, k, e, rfl, hl, rfl⟩
theorem DPut.t {H : Hp} {a b : Addr} {kvs : List (List Key × V)} {k : List Key} {v : V} (e : H a = some (.dT kvs)) (eb : H b = some (.tup (k.map kV))) (hl : kvs.length < sizeLine) :
    DPut H a (.ref b) v (upd H a (.dT (putK kvs k v))) := .inr ⟨kvs, k, b, e, rfl, eb, hl, rfl⟩


section
variable {X : Cx} {pins : List (Addr × Obj)} {σ : St} {H : Hp} {s : Shared} {a : Addr} {y v : V} {u r : Value} {o : Option V} {A : Around} {E : Value → Shared → Prop}

theorem Inv.big (I : Inv X pins σ H s) : sysModules < s.heap.objs.size := by
  have h : mainGlobals < s.heap.objs.size := (I.mod.glob.keeps I.bk).lt
  exact Nat.lt_trans (by decide) h

/-- a dict's object is replaced -/
theorem d_write {h' : Heap} {t' : Nat} {ob : HO} (I : Inv X pins σ H s) (mu : Mut (H a)) (hs : Heap.SameBut a s.heap h') (he : ∃ q, h'.get? a = some q) (new : ObjOk X.prog X.w (upd H a ob) h' a ob) :
    Inv X pins σ (upd H a ob) { s with heap := h', toks := t' } :=
  I.write (x := a) (e := a) mu (.inl rfl) (fun b q hb z => (hs.2 b hb).trans z) he new
theorem dk_new {P : Program} {w : World} {H' : Hp} {h' : Heap} {kvs : List (Key × V)} {vs : List (Key × Value)} (z : kvs.length ≤ sizeLine) (hd : (a == sysModules) = false) (rel : KV kvs vs) (dd : h'.DictOf (mixKind P w) a vs) :
    ObjOk P w H' h' a (.dK kvs) := ⟨z, hd, vs, rel, dd⟩
/-- d[y] = v -/
theorem d_setItem {H' : Hp} {Q : Unit → Shared → Prop} (hu : A.units + 1 < cLine) (I : Inv X pins σ H s) (g : DPut H a y v H') (ry : RelV y u) (rv : RelV v r) (h : ∀ s', Inv X pins σ H' s' → Q () s') :
    wpAny (model X.prog X.w) A (setItem (.ref a) u r) Q E s := by
  rcases g with ⟨kvs, k, e, ey, l, eH⟩ | ⟨kvs, k, b, e, ey, eb, l, eH⟩
  · subst ey eH
    obtain ⟨z, hd, vs, rel, dd⟩ := dk_of I.hok e
    have hz : vs.length ≤ sizeLine := by rw [← rel.length]; exact z
    have hl : (putK kvs k v).length ≤ sizeLine := by have := length_putK kvs k v; omega
    refine wpAny_setItem_pairs (hsz := hz) (kV_is ry) dd fun h' dd' hs => h _ ?_
    have he : ∃ q, h'.get? a = some q := let ⟨q, _, _, hq, _⟩ := dd'; ⟨q, hq⟩
    exact d_write I (by rw [e]; exact True.intro) hs he (dk_new hl hd (rel.put k rv) dd')
  · subst ey eH
    cases (show u = Value.ref b from ry)
    obtain ⟨z, hd, xs, rel, dd⟩ := dt_of I.hok e
    have hz : xs.length ≤ sizeLine := by rw [← Paired.length rel]; exact z
    have hl : (putK kvs k v).length ≤ sizeLine := by have := length_putK kvs k v; omega
    refine wpAny_setItem_heap (hsz := hz) (tupleKind_room_in1 hu) (key_of I.hok eb) dd fun h' dd' hs => h _ ?_
    obtain ⟨q, es, ep, hq, h2, h3, h4, _, h5⟩ := dd'
    refine d_write I (by rw [e]; exact True.intro) hs ⟨q, hq⟩ ⟨hl, hd, _, (rel.put k eb rv).keeps fun c ys ec => ?_, q, es, ep, hq, h2, h3, h4, h5⟩
    rw [upd_ne (ne_of ec e (fun z => nomatch z))]
    exact ec
end

section
variable {X : Cx} {pins : List (Addr × Obj)} {σ : St} {H : Hp} {s : Shared} {a : Addr} {kvs : List (Key × V)} {k : Key} {u : Value} {A : Around} {E : Value → Shared → Prop}
/-- d.pop(k[, x]), there -/
theorem d_pop {v : V} {more : List Value} {Q : Value → Shared → Prop} (I : Inv X pins σ H s) (e : H a = some (.dK kvs)) (ry : RelV (kV k) u) (l : valV kvs k = some v) (hm : more = [] ∨ ∃ x, more = [x])
    (h : ∀ w' s', Inv X pins σ (upd H a (.dK (dropK kvs k))) s' → RelV v w' → Q w' s') : wpAny (model X.prog X.w) A (call (.builtin "dict.pop") (.ref a :: u :: more)) Q E s := by
  obtain ⟨z, hd, vs, rel, dd⟩ := dk_of I.hok e
  obtain ⟨w', hw, rw'⟩ := RelO.some_of (v := v) (o := valueAt vs k) (by rw [← l]; exact rel.val k)
  have hp : (keyPart u).isSome = true := by
    cases k with
    | inl i => obtain ⟨t, q⟩ := (show ∃ t, u = Value.int i t from ry); subst q; rfl
    | inr x => obtain ⟨t, q⟩ := (show ∃ t, u = Value.str x t from ry); subst q; rfl
  have ha : argsOk "dict.pop" ⟨.ref a :: u :: more, []⟩ := by
    rcases hm with q | ⟨x, q⟩
    · subst q; exact PySem.F.args_dict_pop_2 _ _
    · subst q; exact PySem.F.args_dict_pop_3 _ _ _
  refine call_meetsIn PySem.F.slot_dict_pop dd.typeIs PySem.F.entry_dict_pop ha (meets_dict_pop_there (mixKind X.prog X.w) a (kV_is ry) more hm hp)
    ⟨vs, w', dd, by rw [← rel.length]; exact z, hw, fun h' dd' hs => h w' _ ?_ rw'⟩
  have he : ∃ q, h'.get? a = some q := let ⟨q, _, _, hq, _⟩ := dd'; ⟨q, hq⟩
  exact d_write I (by rw [e]; exact True.intro) hs he (dk_new (Nat.le_trans (dropK_le kvs k) z) hd (rel.drop k) dd')
end


/-! ### readings and rules -/
/-- the element of a subscription, not a slice -/
def NoSl (i : Expr) : Prop := ∀ ov iv, subscripted i false ov iv = operate [ov, iv] (getItem ov iv)
theorem subD_of {prog : Program} {w : World} {A : Around} {E : Value → Shared → Prop} {s : Shared} {env : Env} {value slice : Expr} {pos : Pos} {T id : String} {Q : Value → Shared → Prop}
    (hl : typeLookup (.type T) "__getitem__" = pure (some (.builtin id))) (hs : NoSl slice)
    (h : wpAny (model prog w) A (eval value env) (fun o s₁ => wpAny (model prog w) A (eval slice env) (fun i s₂ => s₂.TypeIs o T ∧ wpAny (model prog w) A (getItem o i) Q E s₂) E s₁) E s) :
    wpAny (model prog w) A (eval (.Subscript value slice pos) env) Q E s := by
  refine Subscript_ (wpAny_mono h (fun o s₁ h₁ => wpAny_mono h₁ (fun i s₂ h₂ => ?_) fun _ _ x => x) fun _ _ x => x)
  obtain ⟨hT, h₂⟩ := h₂
  unfold subscriptTail
  refine wpAny_bind ?_
  rw [getitemInPython_of_ne hT.not_modules]
  refine wpAny_bind (wpAny_specialOf hT hl ?_)
  have fin : wpAny (model prog w) A (subscripted slice false o i) (fun r s₃ => wpAny (model prog w) A (letTemporaryGo value o r >>= fun _ => pure r) Q E s₃) E s₂ := by
    rw [hs o i]
    exact wpAny_operating (wpAny_mono h₂ (fun r s₃ h₃ => wpAny_bind (wpAny_letTemporaryGo (wpAny_pure h₃))) fun _ _ x => x)
  first
    | exact wpAny_pure (wpAny_bind fin)
    | exact wpAny_bind (wpAny_pure (wpAny_bind fin))
    | exact wpAny_bind fin

/-- d[y] -/
def tDGet (td ty : TE) : TE := fun σ H Q => td σ H fun x H1 => ty σ H1 fun y H2 => ∃ a v, x = .ref a ∧ DGet H2 a y (some v) ∧ Q v H2
/-- y in d, y not in d -/
def tDIn (ty td : TE) : TE := fun σ H Q => ty σ H fun y H1 => td σ H1 fun x H2 => ∃ a o, x = .ref a ∧ DGet H2 a y o ∧ Q (.bl o.isSome) H2
def tDNotIn (ty td : TE) : TE := fun σ H Q => ty σ H fun y H1 => td σ H1 fun x H2 => ∃ a o, x = .ref a ∧ DGet H2 a y o ∧ Q (.bl (!o.isSome)) H2
/-- d[y] = v -/
def sDPut (td ty tv : TE) : TS := fun D σ H => tv σ H fun v H1 => td σ H1 fun x H2 => ty σ H2 fun y H3 => ∃ a H4, x = .ref a ∧ DPut H3 a y v H4 ∧ D.nx σ H4
section
variable {X : Cx} {o i e value : Expr} {pos pos' tpos : Pos} {td ty tv : TE}
theorem ps_dput (hu : X.A.units + 1 < cLine) (ho : PE X o td) (hi : PE X i ty) (hv : PE X value tv) (hs : swapsWith value (some (.Subscript o i pos')) pos.line X.env = pure false) :
    PS X (.Assign [.Subscript o i pos'] value pos) (sDPut td ty tv) := by
  intro pins s σ H D I h
  refine wpAny_Assign_Subscript (thn (hv pins s σ H _ I h) fun r s1 ⟨v, H1, I1, rv, q1⟩ => thn (ho pins s1 σ H1 _ I1 q1) fun u s2 ⟨x, H2, I2, rx, q2⟩ => thn (hi pins s2 σ H2 _ I2 q2) fun iv s3 ⟨y, H3, I3, ry, a, H4, ex, g, q3⟩ => ?_) hs
  subst ex
  obtain rfl : u = Value.ref a := rx
  exact d_setItem hu I3 g ry rv fun s4 I4 => ⟨σ, H4, I4, q3⟩
end


/-! ### displays -/
theorem dk_empty {P : Program} {w : World} {H : Hp} (h : Heap) (hb : sysModules < h.objs.size) : ObjOk P w H (h.push { cls := .type "dict", data := .dict #[] }) h.objs.size (.dK []) :=
  ⟨Nat.zero_le _, beq_eq_false_iff_ne.mpr (Ne.symm (Nat.ne_of_lt hb)), [], .nil, Heap.DictOf.new h⟩
/-- {}, to be a dict of the kind that is wanted -/
def tDNewK : TE := fun _ H Q => ∀ p, H p = none → Q (.ref p) (upd H p (.dK []))
section
variable {X : Cx} {pos : Pos}
theorem pe_dnewK : PE X (.Dict [] [] pos) tDNewK := fun pins s σ H Q I h =>
  wpAny_Dict_empty ⟨.ref s.heap.objs.size, _, I.laid (a := s.heap.objs.size) (o := .dK []) (t' := s.toks) (fun _ _ q => Heap.get?_push_of_some _ q) (Nat.le_refl _) (dk_empty s.heap I.big), rfl, h _ (I.hok.fresh (Nat.le_refl _))⟩
end

/-! ### methods -/
/-- a method call o.m(e) of a built-in, with one argument: what must be seen of the text -/
structure M1 (X : Cx) (o : Expr) (m : Str) (apos : Pos) (e : Expr) (cpos : Pos) : Prop where
  base : attributeBase o m X.env (eval o X.env) = eval o X.env
  few : ((backTo cpos (starEach [e] X.env)).all (fun x => !x.1) && (backToKw cpos (keywordEach [] X.env)).all (fun x => x.1.isSome)
    && decide (([e] : List Expr).length + ([] : List Keyword).length + (if ([] : List Keyword).isEmpty then 0 else 1) < 30)) = true
  line : (apos.endLine == cpos.line) = true
  trees : backTo cpos (starEach [e] X.env) = [(false, eval e X.env)]
structure M2 (X : Cx) (o : Expr) (m : Str) (apos : Pos) (e f : Expr) (cpos : Pos) : Prop where
  base : attributeBase o m X.env (eval o X.env) = eval o X.env
  few : ((backTo cpos (starEach [e, f] X.env)).all (fun x => !x.1) && (backToKw cpos (keywordEach [] X.env)).all (fun x => x.1.isSome)
    && decide (([e, f] : List Expr).length + ([] : List Keyword).length + (if ([] : List Keyword).isEmpty then 0 else 1) < 30)) = true
  line : (apos.endLine == cpos.line) = true
  trees : backTo cpos (starEach [e, f] X.env) = [(false, eval e X.env), (false, eval f X.env)]

/-- a is a dict, whatever its keys -/
def IsD (H : Hp) (a : Addr) : Prop := (∃ kvs, Rd H a (.dK kvs)) ∨ ∃ kvs, Rd H a (.dT kvs)
theorem isD_at {X : Cx} {pins : List (Addr × Obj)} {σ : St} {H : Hp} {s : Shared} {a : Addr} (I : Inv X pins σ H s) (d : IsD H a) :
    s.TypeIs (.ref a) "dict" ∧ (∀ b, Value.ref a = .ref b → ∃ ob, s.heap.get? b = some ob ∧ ob.dict = none) ∧ (a == sysModules) = false := by
  rcases d with ⟨kvs, e⟩ | ⟨kvs, e⟩
  · obtain ⟨_, hd, vs, _, dd⟩ := dk_rd I.hok e
    refine ⟨dd.typeIs, fun b q => ?_, hd⟩
    cases q
    obtain ⟨ob, _, _, h1, h2, _⟩ := dd
    exact ⟨ob, h1, h2.2.1⟩
  · obtain ⟨_, hd, xs, _, dd⟩ := dt_rd I.hok e
    refine ⟨dd.typeIs, fun b q => ?_, hd⟩
    cases q
    obtain ⟨ob, _, _, h1, h2, _⟩ := dd
    exact ⟨ob, h1, h2.2.1⟩

section
variable {X : Cx} {pins : List (Addr × Obj)} {σ : St} {H : Hp} {s : Shared} {a : Addr} {y d : V} {u r : Value} {o : Option V} {A : Around} {E : Value → Shared → Prop}
end

def tDGet2 (td ty tx : TE) : TE := fun σ H Q => td σ H fun x H1 => ∃ a, x = .ref a ∧ IsD H1 a ∧ ty σ H1 fun y H2 => tx σ H2 fun z H3 => ∃ o, DGet H3 a y o ∧ Q (o.getD z) H3
/-- d.pop(k): there; d.pop(k, x): there or not -/
def tDPop1 (td ty : TE) : TE := fun σ H Q => td σ H fun x H1 => ∃ a, x = .ref a ∧ IsD H1 a ∧ ty σ H1 fun y H2 => ∃ kvs k v, H2 a = some (.dK kvs) ∧ y = kV k ∧ valV kvs k = some v ∧ Q v (upd H2 a (.dK (dropK kvs k)))
section
variable {X : Cx} {o e f : Expr} {apos cpos : Pos} {td ty tx : TE}
theorem pe_dpop1 (ho : PE X o td) (he : PE X e ty) (m : M1 X o "pop" apos e cpos) : PE X (.Call (.Attribute o "pop" apos) [e] [] cpos) (tDPop1 td ty) := by
  intro pins s σ H Q I h
  refine wpAny_Call_method m.base m.few m.line PySem.F.plainAttrs_dict PySem.F.slot_dict_pop PySem.F.type_dict_pop (thn (ho pins s σ H _ I h) fun u s1 ⟨x, H1, I1, rx, a, ex, d, q1⟩ => ?_)
  subst ex
  obtain rfl : u = Value.ref a := rx
  obtain ⟨t1, t2, _⟩ := isD_at I1 d
  refine ⟨t1, t2, ?_⟩
  rw [m.trees]
  refine Calls.callWith_builtin rfl (Calls.evalArgs_plain (Calls.spliced_cons (thn (he pins s1 σ H1 _ I1 q1) fun iv s2 ⟨y, H2, I2, ry, kvs, k, v, ea, ey, l, q2⟩ => Calls.spliced_nil ?_)))
  subst ey
  exact d_pop I2 ea ry l (.inl rfl) fun w' s3 I3 rw' => ⟨v, _, I3, rw', q2⟩
end

end L2

/-! ## dicts of texts that were met -/
namespace L2
open PySem PySem.Spec PyProof.Rows
def tDNewS : TE := fun _ H Q => New H (.dK []) Q
theorem pe_dnewS {X : Cx} {pos : Pos} : PE X (.Dict [] [] pos) tDNewS := fun pins s σ H Q I h => pe_dnewK pins s σ H Q I fun p hp => h.at hp
/-! ### a whole number or a text; accounts as trees -/
def sv : D → V
  | .int i => .int i
  | .str cs => .str (SL cs)
  | _ => .non
def btw (lo hi : Int) : D → Bool
  | .int i => decide (lo ≤ i) && decide (i ≤ hi)
  | _ => false
def nmOk : D → Bool
  | .str cs => decide (1 ≤ cs.length) && decide (cs.length ≤ 8) && cs.all fun c => decide (97 ≤ c ∧ c ≤ 122)
  | _ => false
def planOk : List D → Bool
  | [n, p, c] => nmOk n && (btw 0 (10 ^ 30 - 1) p && btw 0 400 c)
  | _ => false
def nmOf : List D → List Nat
  | .str cs :: _ => cs
  | _ => []
def plansOk (dss : List (List D)) : Prop := 1 ≤ dss.length ∧ dss.length ≤ 8 ∧ (∀ ds ∈ dss, planOk ds = true) ∧ (dss.map nmOf).Nodup
end L2
namespace L2
open PySem PySem.Spec PyProof.Rows
/-- a comprehension by an invariant of the turn, of what is told, of the heap off the told list -/
theorem comp_by {J : It} {H1 : Hp} {ys : List V} {σ0 : St} {g : TG} {tc : TT} {te : TE} {l : Addr} {Q : VK} (Pv : Nat → List V → Hp → Prop) (L : Lists J H1 ys) (hl : H1 l = none) (hz : ys.length < sizeLine)
    (h0 : ∀ H, Same H1 H → Pv 0 [] H)
    (hs : ∀ i x xs H (K1 : VK) (K0 : Hp → Prop), ys[i]? = some x → Same H1 H → Pv i xs H → H l = some (.lst xs) →
      (∀ v H4, Same H H4 → (∀ H5, (∀ b o, b ≠ l → H4 b = some o → H5 b = some o) → Pv (i + 1) (xs ++ [v]) H5) → K1 v H4) → (∀ H3, Same H H3 → Pv (i + 1) xs H3 → K0 H3) →
      g x σ0 H fun σ2 H2 => Sub σ0 σ2 ∧ tc σ2 H2 fun b H3 => if b = true then te σ2 H3 K1 else K0 H3)
    (hd : ∀ xs H, Same H1 H → Pv ys.length xs H → xs.length ≤ ys.length → H l = some (.lst xs) → Q (.ref l) H) : CompR J σ0 g tc te l Q H1 := by
  refine ⟨fun i m xs H => i ≤ ys.length ∧ m = ys.length - i ∧ Same H1 H ∧ Pv i xs H ∧ xs.length ≤ i ∧ H l = some (.lst xs), ⟨ys.length, Nat.zero_le _, by omega, same_new hl _, h0 _ (same_new hl _), Nat.le_refl _, upd_same⟩, ?_⟩
  rintro i m xs H ⟨hi, rfl, sm, pv, hx, e⟩
  refine ⟨e, Nat.lt_of_le_of_lt hx (by omega), ?_⟩
  by_cases hlt : i < ys.length
  · refine .inr ⟨L.go i H sm hlt, fun x H' y => ?_⟩
    obtain ⟨rfl, hx'⟩ := L.yld i H x H' sm y hlt
    refine hs i x xs H' _ _ hx' sm pv e (fun v H4 s4 p4 => ?_) (fun H3 s3 p3 => ?_)
    · exact ⟨s4 _ _ e, ys.length - (i + 1), by omega, hlt, rfl, same_upd (sm.trans s4) hl, p4 _ fun b o hb q => by rw [upd_ne hb]; exact q, by rw [List.length_append]; simp only [List.length_cons, List.length_nil]; omega, upd_same⟩
    · exact ⟨ys.length - (i + 1), by omega, hlt, rfl, sm.trans s3, p3, by omega, s3 _ _ e⟩
  · have ei : i = ys.length := by omega
    subst ei
    exact .inl ⟨L.stop H sm, hd xs H sm pv hx e⟩
end L2
namespace L2
open PySem PySem.Spec PyProof.Rows
/-- a to z -/
abbrev azL : List Nat := [97, 98, 99, 100, 101, 102, 103, 104, 105, 106, 107, 108, 109, 110, 111, 112, 113, 114, 115, 116, 117, 118, 119, 120, 121, 122]
theorem at_az {r : Int} (h0 : 0 ≤ r) (h1 : r < 26) : atI azL r = some (97 + r.toNat) := by
  obtain ⟨n, rfl⟩ := Int.eq_ofNat_of_zero_le h0
  have : ∀ n : Nat, n < 26 → atI azL (n : Int) = some (97 + n) := by decide
  exact this n (by omega)
/-! ### plans -/
/-- a plan: its name, its price, its count -/
abbrev Pl := List Nat × Int × Int
def plD (x : Pl) : List D := [.str x.1, .int x.2.1, .int x.2.2]
def NmOk (w : List Nat) : Prop := 1 ≤ w.length ∧ w.length ≤ 8 ∧ ∀ c ∈ w, 97 ≤ c ∧ c ≤ 122
def PlOk (x : Pl) : Prop := NmOk x.1 ∧ 0 ≤ x.2.1 ∧ x.2.1 < 10 ^ 30 ∧ 0 ≤ x.2.2 ∧ x.2.2 ≤ 400
def PlsOk (xs : List Pl) : Prop := 1 ≤ xs.length ∧ xs.length ≤ 8 ∧ (∀ x ∈ xs, PlOk x) ∧ (xs.map (·.1)).Nodup
def IsPl (K : PySem.W.Frag) (H : Hp) (z : V × Pl) : Prop := ∃ p, z.1 = .ref p ∧ SqT K H p [.str (SL z.2.1), .int z.2.2.1, .int z.2.2.2]
/-- the plans zs lie there -/
def PlsAt (K : PySem.W.Frag) (H : Hp) (zs : List (V × Pl)) : Prop := ∀ z ∈ zs, IsPl K H z
theorem IsPl.same {K : PySem.W.Frag} {H H' : Hp} {z : V × Pl} (h : IsPl K H z) (s : Same H H') : IsPl K H' z := let ⟨p, e, q⟩ := h; ⟨p, e, s.sqT q⟩
theorem PlsAt.same {K : PySem.W.Frag} {H H' : Hp} {zs : List (V × Pl)} (h : PlsAt K H zs) (s : Same H H') : PlsAt K H' zs := fun z hz => (h z hz).same s
theorem PlOk.len {x : Pl} (h : PlOk x) : x.1.length ≤ sizeLine := le_line (by have := h.1.2.1; omega)
theorem PlOk.ok {x : Pl} (h : PlOk x) : planOk (plD x) = true := by
  obtain ⟨⟨h1, h2, h3⟩, h4, h5, h6, h7⟩ := h
  show (nmOk (.str x.1) && (btw 0 (10 ^ 30 - 1) (.int x.2.1) && btw 0 400 (.int x.2.2))) = true
  have e1 : nmOk (.str x.1) = true := by
    show (decide (1 ≤ x.1.length) && decide (x.1.length ≤ 8) && x.1.all fun c => decide (97 ≤ c ∧ c ≤ 122)) = true
    rw [decide_eq_true h1, decide_eq_true h2, List.all_eq_true.mpr fun c hc => decide_eq_true (h3 c hc)]
    rfl
  have e2 : btw 0 (10 ^ 30 - 1) (.int x.2.1) = true := by
    show (decide (0 ≤ x.2.1) && decide (x.2.1 ≤ 10 ^ 30 - 1)) = true
    rw [decide_eq_true h4, decide_eq_true (by omega)]
    rfl
  have e3 : btw 0 400 (.int x.2.2) = true := by
    show (decide (0 ≤ x.2.2) && decide (x.2.2 ≤ 400)) = true
    rw [decide_eq_true h6, decide_eq_true h7]
    rfl
  rw [e1, e2, e3]
  rfl
theorem PlsOk.ok {xs : List Pl} (h : PlsOk xs) : plansOk (xs.map plD) := by
  obtain ⟨h1, h2, h3, h4⟩ := h
  refine ⟨by rw [List.length_map]; exact h1, by rw [List.length_map]; exact h2, fun ds hd => ?_, ?_⟩
  · obtain ⟨x, hx, rfl⟩ := List.mem_map.mp hd
    exact (h3 x hx).ok
  · rw [List.map_map]
    exact h4
theorem PlsAt.all2 {K : PySem.W.Frag} {H : Hp} : ∀ {zs : List (V × Pl)}, PlsAt K H zs → all2 (Dp K H 1) ((zs.map fun z => plD z.2).map D.tup) (zs.map (·.1))
  | [], _ => trivial
  | z :: r, h => by
    refine ⟨?_, PlsAt.all2 fun y hy => h y (List.mem_cons_of_mem _ hy)⟩
    obtain ⟨p, e, q⟩ := h z List.mem_cons_self
    show Dp K H 1 (D.tup (plD z.2)) z.1
    rw [e]
    exact Dp_tup q ⟨Dp_str, Dp_int, Dp_int, trivial⟩
theorem getD_mem {xs : List Int} {i : Int} (h0 : 0 ≤ i) (h1 : i < xs.length) : xs.getD i.toNat 0 ∈ xs := by
  have hl : i.toNat < xs.length := by omega
  rw [List.getD_eq_getElem?_getD, List.getElem?_eq_getElem hl]
  exact List.getElem_mem hl
/-- a tuple stays where a list is written -/
theorem sqT_upd {K : PySem.W.Frag} {H : Hp} {p l : Addr} {xs ys : List V} {o : HO} (h : SqT K H p xs) (e : H l = some (.lst ys)) : SqT K (upd H l o) p xs := by
  rcases h with (h | ⟨ob, h⟩) | h
  · have np : p ≠ l := fun z => by rw [z, e] at h; cases h
    exact .inl (.inl (by rw [upd_ne np]; exact h))
  · have np : p ≠ l := fun z => by rw [z, e] at h; cases h
    exact .inl (.inr ⟨ob, by rw [upd_ne np]; exact h⟩)
  · exact .inr h
theorem inV_strs (w : List Nat) : ∀ ws : List (List Nat), inV (.str (SL w)) (ws.map fun x => V.str (SL x)) = decide (w ∈ ws)
  | [] => rfl
  | x :: r => by
    have ih := inV_strs w r
    unfold inV at ih ⊢
    rw [List.map_cons, List.any_cons, ih]
    show ((SL x == SL w) || decide (w ∈ r)) = decide (w ∈ x :: r)
    have e : (SL x == SL w) = decide (x = w) := by
      rw [Bool.eq_iff_iff, beq_iff_eq, decide_eq_true_eq, SL_inj]
    rw [e, Bool.eq_iff_iff, Bool.or_eq_true, decide_eq_true_eq, decide_eq_true_eq, decide_eq_true_eq, List.mem_cons]
    constructor
    · rintro (h | h)
      · exact .inl h.symm
      · exact .inr h
    · rintro (h | h)
      · exact .inl h.symm
      · exact .inr h
theorem sqT_off {K : PySem.W.Frag} {H H' : Hp} {p l : Addr} {xs ys : List V} (h : SqT K H p xs) (e : H l = some (.lst ys)) (k : ∀ b o, b ≠ l → H b = some o → H' b = some o) : SqT K H' p xs := by
  rcases h with (h | ⟨ob, h⟩) | h
  · have np : p ≠ l := fun z => by rw [z, e] at h; cases h
    exact .inl (.inl (k _ _ np h))
  · have np : p ≠ l := fun z => by rw [z, e] at h; cases h
    exact .inl (.inr ⟨ob, k _ _ np h⟩)
  · exact .inr h
theorem PlsAt.off {K : PySem.W.Frag} {H H' : Hp} {zs : List (V × Pl)} {l : Addr} {ys : List V} (h : PlsAt K H zs) (e : H l = some (.lst ys)) (k : ∀ b o, b ≠ l → H b = some o → H' b = some o) : PlsAt K H' zs := fun z hz =>
  let ⟨p, e1, q⟩ := h z hz; ⟨p, e1, sqT_off q e k⟩
end L2

/-! ## enumerate; list.remove; dict.pop -/
namespace L2
open PySem PySem.Spec PyProof.Rows
/-- a list with its places: each turn makes a new pair -/
def Ite (K : PySem.W.Frag) (a : Addr) : It :=
  ⟨fun i H => ∃ xs x, SqL K H a xs ∧ xs[i]? = some x,
   fun i H v H' => ∃ p, v = .ref p ∧ H p = none ∧ Same H H' ∧ ∃ x, H' p = some (.tup [.int i, x]) ∧ ∀ xs, SqL K H a xs → xs[i]? = some x,
   fun i H => ∃ xs, SqL K H a xs ∧ xs.length ≤ i⟩
theorem turn_enum {P : Program} {w : World} {K : PySem.W.Frag} {es : List Expr} {n : Nat} {ps : Pos} (e it l : Addr) (hne : e ≠ it) :
    Turn P w K (.Tuple es n ps) (Ite K l) [e, it] e (fun i h => (∃ old, IsEnum h e it i old) ∧ h.IsListIter it l i) where
  mem := by simp
  obj := fun i h st b hb => by
    obtain ⟨⟨old, he⟩, ⟨o1, e1, _, d1⟩⟩ := st
    have hb' : b = e ∨ b = it := by simpa using hb
    rcases hb' with rfl | rfl
    · exact ⟨_, he, fun v q => by
        have q' : Data.fields _ = Data.cell v := q
        cases q'⟩
    · exact ⟨_, e1, fun v q => by rw [d1] at q; cases q⟩
  keep := fun i h h' st k => by
    obtain ⟨⟨old, he⟩, h1⟩ := st
    exact ⟨⟨old, k e (by simp) _ he⟩, h1.at fun o e => k it (by simp) o e⟩
  item := by
    intro X hP hw hK hc i pins s σ H E I hf st hg
    subst hP hw hK
    obtain ⟨xs, x, hx, ex⟩ := hg
    obtain ⟨⟨old, he⟩, h1⟩ := st
    obtain ⟨us, rv, p, _⟩ := I.list hx
    obtain ⟨u, hu, ru⟩ := rv.get ex
    refine wpAny_pyNext_enum_item he h1 p.isList (x := u) (by simpa using hu) hne fun h' a1 a2 a3 a4 hk => ?_
    refine ⟨_, rfl, wpAny_letOwnedTupleGo_enum (s := { s with heap := h', toks := s.toks + 1 }) a1 fun h2' hz' sb => ?_⟩
    have lt : ∀ {c o}, s.heap.get? c = some o → s.heap.objs.size ≠ c := fun e => Nat.ne_of_gt (Heap.lt_size e)
    have hp := I.hok.fresh (Nat.le_refl s.heap.objs.size)
    have pr := sb.extBut _ _ (lt he) a3
    have I1 : Inv X pins σ (upd H s.heap.objs.size (.tup [.int i, x])) { s with heap := h2', toks := s.toks + 1 } := by
      refine I.laidL (ch := [e, it]) (t' := s.toks + 1) (fun b hb => hf b hb) (fun b o hb e' => ?_) (Nat.le_refl _) ⟨le_line (by simp), [.int i s.toks, u], .cons ⟨_, rfl⟩ (.cons ru .nil), ⟨_, pr, rfl, _, rfl⟩⟩
      have hb' : ¬ (b = e ∨ b = it) := fun q => hb (by simpa using q)
      exact sb.extBut _ _ (fun q => hb' (.inl q)) (hk b o (fun q => hb' (.inl q)) (fun q => hb' (.inr q)) e')
    refine ⟨.ref s.heap.objs.size, _, I1, rfl, ⟨_, rfl, hp, same_new hp _, x, upd_same, fun ws hw => ?_⟩, ⟨⟨_, hz'⟩, a2.extBut sb.extBut hne.symm⟩, fun b hb => ?_⟩
    · rw [I.list_inj hw hx]; exact ex
    · have hb' : b = e ∨ b = it := by simpa using hb
      have hs : ∃ o, s.heap.get? b = some o := by
        rcases hb' with rfl | rfl
        · exact ⟨_, he⟩
        · exact ⟨_, h1.choose_spec.1⟩
      obtain ⟨o, e⟩ := hs
      rw [upd_ne (lt e).symm]
      exact (hf b hb).1
  done := by
    intro X hP hw hK hc i pins s σ H E I hf st hg
    subst hP hw hK
    obtain ⟨xs, hx, hl⟩ := hg
    obtain ⟨⟨old, he⟩, h1⟩ := st
    obtain ⟨us, rv, p, _⟩ := I.list hx
    have e1 := rv.length
    refine wpAny_pyNext_enum_end (I.ok.hd hc) he h1 p.isList (by simp; omega) fun h' hk => ⟨rfl, ?_⟩
    refine I.turnedL (ch := [it]) (t' := s.toks) (fun b hb => hf b ?_) (fun b o hb e => ?_)
    · have hb' : b = it := by simpa using hb
      simp [hb']
    · exact hk b o (fun q => hb (by simpa using q)) e
  self := fun _ _ _ _ _ st h => wpAny_pyIter_enum st.1.choose_spec h
def iEnum (K : PySem.W.Frag) (ta : TA) : TI := fun σ H R => ta σ H fun vs H1 => ∃ a, vs = [.ref a] ∧ (∃ xs, SqL K H1 a xs) ∧ R (Ite K a) H1
theorem pi_enum {X : Cx} {es : List Expr} {n : Nat} {ps : Pos} {a : Expr} {ta : TA} {p pos : Pos} (hg : Gl X "enumerate") (hm : X.mg "enumerate" = none) (ha : PA X [a] ta) (hs : starEach [a] X.env = [(false, eval a X.env)] := by rfl) :
    PI X (.Tuple es n ps) (.Call (.Name "enumerate" p) [a] [] pos) (iEnum X.K ta) := by
  intro pins s σ H R I h
  refine Call_ (ld_blt I hg hm boot_enumerate (PyProof.Rows.callWith_type1 (thn (ha pos pins s σ H _ I h) fun us s1 ⟨vs, H1, I1, r1, q1⟩ => ?_) (by rw [hs]; rfl) (by rfl)))
  obtain ⟨i, e, ⟨xs, hx⟩, q⟩ := q1
  subst e
  cases r1 with
  | cons r rr =>
    cases rr
    cases r
    obtain ⟨us, rv, pl, _⟩ := I1.list hx
    refine call_enumerate_list pl.isList fun h' hz hi1 hsz hk => wpAny_pyIter_enum hz ?_
    refine ⟨_, [s1.heap.objs.size + 1, s1.heap.objs.size], _, _, H1, rfl, I1.kept (t' := s1.toks) hk, turn_enum _ _ _ (Nat.succ_ne_self _), ⟨⟨_, hz⟩, hi1⟩, fun b hb => ?_, q⟩
    have hb' : b = s1.heap.objs.size + 1 ∨ b = s1.heap.objs.size := by simpa using hb
    have le : s1.heap.objs.size ≤ b := by
      rcases hb' with rfl | rfl
      · exact Nat.le_add_right _ _
      · exact Nat.le_refl _
    exact I1.fpOk le (I1.hok.fresh le)
/-- a loop over a list that stands still, with its places -/
theorem for_enum {K : PySem.W.Frag} {a : Addr} {xs : List V} {j k : Nat} {tb : TS} {D : Ends} {σ : St} {H : Hp} (Pv : Nat → St → Hp → Prop) (h0 : Pv 0 σ H) (hl : ∀ i σ H, i ≤ xs.length → Pv i σ H → SqL K H a xs)
    (hp : ∀ i σ H H', Pv i σ H → Same H H' → Pv i σ H')
    (hs : ∀ i x σ H, xs[i]? = some x → Pv i σ H → tb { D with nx := Pv (i + 1), ct := Pv (i + 1), bk := D.nx } ((σ.set j (some (.int i))).set k (some x)) H) (hd : ∀ σ H, Pv xs.length σ H → D.nx σ H) :
    Loop (gTup K 2 (gCons (gName j) (gCons (gName k) gNil))) tb D σ (Ite K a) H := by
  refine ⟨fun i m σ H => m = xs.length - i ∧ i ≤ xs.length ∧ Pv i σ H, ⟨xs.length, by simp, Nat.zero_le _, h0⟩, ?_⟩
  rintro i m σ H ⟨rfl, hi, p⟩
  have q1 := hl i σ H hi p
  by_cases hlt : i < xs.length
  · refine .inr ⟨⟨xs, xs[i], q1, by simp [hlt]⟩, Pv (i + 1), fun σ' H' p' => ⟨xs.length - (i + 1), by omega, rfl, hlt, p'⟩, fun v H' yl => ?_⟩
    obtain ⟨pp, rfl, _, sm, x, e, ex⟩ := yl
    exact ⟨pp, [.int i, x], rfl, SqT.of e, rfl, .int i, [x], rfl, x, [], rfl, rfl, hs i x σ H' (ex xs q1) (hp i σ H H' p sm)⟩
  · have e : i = xs.length := by omega
    subst e
    exact .inl ⟨⟨xs, q1, Nat.le_refl _⟩, hd σ H p⟩
/-! ### list.remove, of whole numbers -/
def isK (k : Int) : Value → Bool
  | .int a _ => decide (a = k)
  | _ => false
theorem erase_map : ∀ (ns : List Int) (j : Nat), (ns.eraseIdx j).map V.int = (ns.map V.int).eraseIdx j
  | [], _ => rfl
  | _ :: _, 0 => rfl
  | x :: r, j + 1 => congrArg (V.int x :: ·) (erase_map r j)
theorem intsAt {ns : List Int} {us : List Value} (r : Vals (ns.map V.int) us) {i : Nat} (h : i < us.length) : ∃ (hn : i < ns.length) (t : Tok), us[i] = .int ns[i] t := by
  have hl := r.length
  rw [List.length_map] at hl
  have hn : i < ns.length := by omega
  obtain ⟨u, hu, t, rfl⟩ := r.get (i := i) (x := .int ns[i]) (by rw [List.getElem?_map, List.getElem?_eq_getElem hn]; rfl)
  exact ⟨hn, t, by rw [List.getElem?_eq_getElem h] at hu; exact Option.some.inj hu⟩
def rRemove : V → List V → Hp → VK → Prop := fun x vs H Q => ∃ l, ∃ (ns : List Int) (k : Int), x = .ref l ∧ vs = [.int k] ∧ H l = some (.lst (ns.map V.int)) ∧ k ∈ ns ∧ ns.length ≤ sizeLine ∧ Q .non (upd H l (.lst ((ns.erase k).map V.int)))
theorem mt_remove {X : Cx} : MtM X "list.remove" rRemove := by
  intro pins s σ H x vs v us Q I rx rv h
  obtain ⟨l, ns, k, rfl, rfl, hH, hk, hz, q⟩ := h
  cases rx
  obtain ⟨u, rfl, t, rfl⟩ := rv.one
  obtain ⟨z, its, n, r, hl, e⟩ := I.lstM hH
  have len := r.length
  rw [List.length_map] at len
  have jl : ns.idxOf k < ns.length := List.idxOf_lt_length_iff.mpr hk
  have jk : ns[ns.idxOf k] = k := List.getElem_idxOf jl
  refine call_meets F.slot_list_remove ⟨_, e, rfl⟩ F.entry_list_remove (F.args_list_remove_2 _ _) (MeetsSeq.list_remove l its.toArray n (.int k t) (isK k) (fun y hy => ?_) (ns.idxOf k) (by rw [List.size_toArray]; omega) ?_ (fun m hm hlt => ?_) (by rw [List.size_toArray]; omega)) ⟨e, ?_⟩
  · obtain ⟨i, hi, rfl⟩ := List.mem_iff_getElem.mp (List.mem_toArray.mp hy)
    obtain ⟨hn, t', e'⟩ := intsAt r hi
    rw [e']
    exact MeetsSeq.EqGives.int _ k _ t
  · obtain ⟨hn, t', e'⟩ := intsAt r (i := ns.idxOf k) (by omega)
    rw [List.getElem_toArray, e']
    exact decide_eq_true jk
  · obtain ⟨hn, t', e'⟩ := intsAt r (i := m) (by rw [List.size_toArray] at hm; exact hm)
    rw [List.getElem_toArray, e']
    refine decide_eq_false fun z => ?_
    exact absurd (beq_iff_eq.mpr z) (by have := List.not_of_lt_findIdx (p := (· == k)) (xs := ns) (i := m) hlt; simpa using this)
  · refine ⟨.non, _, I.lset (its' := its.eraseIdx (ns.idxOf k)) hH e ?_ ?_ ?_, rfl, q⟩
    · rw [List.eraseIdxIfInBounds_toArray]
    · rw [List.erase_eq_eraseIdx_of_idxOf rfl, erase_map]
      exact r.eraseIdx _
    · rw [List.length_map]
      exact Nat.le_trans (List.length_erase_le ..) hz
end L2

/-! ## changes, entries, the terms that stand -/
namespace L2
open PySem
/-- a change -/
inductive Ch where
  | plan (d : Int) (nm : List Nat)
  | seats (d n : Int)
  | word (w : Nat) (d : Int)
  | undo (k : Int)
  | grant (a : Int)
  | back
def wordS : Nat → List Nat
  | 0 => [104, 111, 108, 100]
  | 1 => [103, 111]
  | 2 => [115, 116, 111, 112]
  | _ => [108, 97, 115, 116]
def chD : Ch → List D
  | .plan d nm => [.str [112, 108, 97, 110], .int d, .str nm]
  | .seats d n => [.str [115, 101, 97, 116, 115], .int d, .int n]
  | .word w d => [.str (wordS w), .int d]
  | .undo k => [.str [117, 110, 100, 111], .int k]
  | .grant a => [.str [103, 114, 97, 110, 116], .int a]
  | .back => [.str [98, 97, 99, 107]]
theorem ite_t {c : Prop} [Decidable c] {a b : Prop} (h : c) (x : a) : if c then a else b := by rw [if_pos h]; exact x
theorem ite_f {c : Prop} [Decidable c] {a b : Prop} (h : ¬ c) (x : b) : if c then a else b := by rw [if_neg h]; exact x
theorem str_ne {a b : List Nat} (h : a ≠ b) : ¬ V.str (SL a) = V.str (SL b) := fun z => h (by rw [V.str.injEq, SL_inj] at z; exact z)
theorem Same.put {H H' : Hp} {a : Addr} (s : Same H H') (n : H a = none) (o : HO) : Same H (upd H' a o) := fun b u e => by
  rw [upd_ne (ne_of_none e n)]
  exact s b u e
/-- an entry: its value, where its change lies, the day on which it is entered, its change -/
abbrev En := V × Addr × Int × Ch
def isTm : Ch → Bool
  | .plan _ _ => true
  | .seats _ _ => true
  | .word _ _ => true
  | _ => false
def stepL (n : Nat) (L : List Int) : Ch → List Int
  | .undo k => L.erase k
  | .grant _ => L
  | .back => L
  | _ => L ++ [(n : Int)]
def foldS (cs : List Ch) (s : Nat × List Int) : Nat × List Int := cs.foldl (fun s c => (s.1 + 1, stepL s.1 s.2 c)) s
/-- the terms that stand behind these changes -/
def standF (cs : List Ch) : List Int := (foldS cs (0, [])).2
theorem foldS_by (P : Nat → List Int → Prop) (hs : ∀ n L c, P n L → P (n + 1) (stepL n L c)) : ∀ (cs : List Ch) (s : Nat × List Int), P s.1 s.2 → P (foldS cs s).1 (foldS cs s).2
  | [], _, h => h
  | c :: r, s, h => foldS_by P hs r (s.1 + 1, stepL s.1 s.2 c) (hs _ _ _ h)
theorem foldS_fst : ∀ (cs : List Ch) (s : Nat × List Int), (foldS cs s).1 = s.1 + cs.length
  | [], _ => rfl
  | c :: r, s => by
    show (foldS r (s.1 + 1, _)).1 = _
    rw [foldS_fst r, List.length_cons]
    omega
theorem stand_snoc (cs : List Ch) (c : Ch) : standF (cs ++ [c]) = stepL cs.length (standF cs) c := by
  unfold standF foldS
  rw [List.foldl_append]
  show stepL (foldS cs (0, [])).1 _ c = _
  rw [foldS_fst]
  show stepL (0 + cs.length) _ c = _
  rw [Nat.zero_add]
theorem stand_in (cs : List Ch) : (standF cs).Nodup ∧ ∀ k ∈ standF cs, 0 ≤ k ∧ k < cs.length := by
  have h := foldS_by (fun n L => L.Nodup ∧ ∀ k ∈ L, 0 ≤ k ∧ k < (n : Int)) (fun n L c ⟨h1, h2⟩ => by
    have old : ∀ k ∈ L, 0 ≤ k ∧ k < ((n + 1 : Nat) : Int) := fun k hk => ⟨(h2 k hk).1, by have := (h2 k hk).2; omega⟩
    have new : (L ++ [(n : Int)]).Nodup ∧ ∀ k ∈ L ++ [(n : Int)], 0 ≤ k ∧ k < ((n + 1 : Nat) : Int) := by
      refine ⟨List.nodup_append.mpr ⟨h1, List.nodup_cons.mpr ⟨fun z => (nomatch z), List.nodup_nil⟩, fun a ha b hb e => ?_⟩, fun k hk => ?_⟩
      · rw [List.mem_singleton.mp hb] at e
        have := (h2 a ha).2
        omega
      · rcases List.mem_append.mp hk with z | z
        · exact old k z
        · rw [List.mem_singleton.mp z]
          omega
    cases c with
    | plan => exact new
    | seats => exact new
    | word => exact new
    | undo k => exact ⟨h1.erase k, fun k' hk => old k' (List.mem_of_mem_erase hk)⟩
    | grant => exact ⟨h1, old⟩
    | back => exact ⟨h1, old⟩) cs (0, []) ⟨List.nodup_nil, fun k hk => (nomatch hk)⟩
  refine ⟨h.1, fun k hk => ?_⟩
  have := h.2 k hk
  rw [foldS_fst] at this
  have e : (0, ([] : List Int)).1 + cs.length = cs.length := Nat.zero_add _
  rw [e] at this
  exact this
theorem stand_len (cs : List Ch) : (standF cs).length ≤ cs.length := by
  have h := foldS_by (fun n L => L.length ≤ n) (fun n L c h => by
    cases c with
    | plan => show (L ++ [(n : Int)]).length ≤ n + 1; rw [List.length_append, List.length_singleton]; omega
    | seats => show (L ++ [(n : Int)]).length ≤ n + 1; rw [List.length_append, List.length_singleton]; omega
    | word => show (L ++ [(n : Int)]).length ≤ n + 1; rw [List.length_append, List.length_singleton]; omega
    | undo k => exact Nat.le_trans (Nat.le_trans (List.length_erase_le ..) h) (Nat.le_succ n)
    | grant => exact Nat.le_succ_of_le h
    | back => exact Nat.le_succ_of_le h) cs (0, []) (Nat.le_refl 0)
  rw [foldS_fst] at h
  have e : (0, ([] : List Int)).1 + cs.length = cs.length := Nat.zero_add _
  rw [e] at h
  exact h
/-! ### a dict by whole numbers -/
def kvG (g : Int → V) (L : List Int) : List (Key × V) := L.map fun k => ((Sum.inl k : Key), g k)
theorem kv_val (g : Int → V) (x : Int) : ∀ L : List Int, valV (kvG g L) (Sum.inl x) = if x ∈ L then some (g x) else none
  | [] => rfl
  | k :: r => by
    unfold kvG
    rw [List.map_cons]
    by_cases e : k = x
    · subst e
      rw [valV_pos rfl, if_pos List.mem_cons_self]
    · rw [valV_neg (by intro z; exact e (Sum.inl.inj z))]
      have ih := kv_val g x r
      unfold kvG at ih
      rw [ih]
      by_cases h : x ∈ r
      · rw [if_pos h, if_pos (List.mem_cons_of_mem _ h)]
      · rw [if_neg h, if_neg (fun z => (List.mem_cons.mp z).elim (fun q => e q.symm) h)]
theorem kv_put (g : Int → V) {x : Int} {L : List Int} (h : x ∉ L) : putK (kvG g L) (Sum.inl x) (g x) = kvG g (L ++ [x]) := by
  rw [putK_new _ (by rw [kv_val, if_neg h])]
  unfold kvG
  rw [List.map_append]
  rfl
theorem kv_drop (g : Int → V) (x : Int) : ∀ {L : List Int}, L.Nodup → dropK (kvG g L) (Sum.inl x) = kvG g (L.erase x)
  | [], _ => rfl
  | k :: r, h => by
    obtain ⟨h1, h2⟩ := List.nodup_cons.mp h
    have ih := kv_drop g x h2
    unfold kvG dropK at ih ⊢
    rw [List.map_cons, List.filter_cons]
    by_cases e : k = x
    · subst e
      rw [if_neg (by simp), List.erase_cons_head, ih, List.erase_of_not_mem h1]
    · rw [if_pos (by simpa using e), List.erase_cons_tail (by simpa using e), List.map_cons, ih]
/-! ### entries that lie there -/
def IsEn (K : PySem.W.Frag) (H : Hp) (z : En) : Prop := ∃ p, z.1 = .ref p ∧ SqT K H p [.int z.2.2.1, .ref z.2.1] ∧ SqT K H z.2.1 ((chD z.2.2.2).map sv)
def EnsAt (K : PySem.W.Frag) (H : Hp) (zs : List En) : Prop := ∀ z ∈ zs, IsEn K H z
theorem EnsAt.same {K : PySem.W.Frag} {H H' : Hp} {zs : List En} (h : EnsAt K H zs) (s : Same H H') : EnsAt K H' zs := fun z hz =>
  let ⟨p, e, q1, q2⟩ := h z hz; ⟨p, e, s.sqT q1, s.sqT q2⟩
theorem EnsAt.take {K : PySem.W.Frag} {H : Hp} {zs : List En} (h : EnsAt K H zs) (n : Nat) : EnsAt K H (zs.take n) := fun z hz => h z (List.mem_of_mem_take hz)
theorem EnsAt.off {K : PySem.W.Frag} {H H' : Hp} {zs : List En} {l : Addr} {ys : List V} (h : EnsAt K H zs) (e : H l = some (.lst ys)) (k : ∀ b o, b ≠ l → H b = some o → H' b = some o) : EnsAt K H' zs := fun z hz =>
  let ⟨p, e1, q1, q2⟩ := h z hz; ⟨p, e1, sqT_off q1 e k, sqT_off q2 e k⟩
def enD (z : En) : D := .tup [.int z.2.2.1, .tup (chD z.2.2.2)]
/-- what a change is, by the names, from days f up to e, of terms that stand -/
def ChIn (nms : List (List Nat)) (f e : Int) (L : List Int) : Ch → Prop
  | .plan d nm => f ≤ d ∧ d < e ∧ nm ∈ nms
  | .seats d n => f ≤ d ∧ d < e ∧ 0 ≤ n ∧ n ≤ 1000000
  | .word w d => w < 4 ∧ f ≤ d ∧ d < e
  | .undo k => k ∈ L
  | .grant a => 1 ≤ a ∧ a < 10 ^ 30
  | .back => True
def chs (zs : List En) : List Ch := zs.map fun z => z.2.2.2
theorem chs_take (zs : List En) (n : Nat) : chs (zs.take n) = (chs zs).take n := List.map_take
theorem chs_len (zs : List En) : (chs zs).length = zs.length := List.length_map ..
def EnsOk (nms : List (List Nat)) (f e : Int) (zs : List En) : Prop := ∀ i z, zs[i]? = some z → f ≤ z.2.2.1 ∧ z.2.2.1 < e ∧ (∀ y ∈ zs.take i, y.2.2.1 ≤ z.2.2.1) ∧ ChIn nms f e (standF (chs (zs.take i))) z.2.2.2
theorem stand_next {zs : List En} {i : Nat} {z : En} (h : zs[i]? = some z) : standF (chs (zs.take (i + 1))) = stepL i (standF (chs (zs.take i))) z.2.2.2 := by
  have hi := (List.getElem?_eq_some_iff.mp h).1
  have e : chs (zs.take (i + 1)) = chs (zs.take i) ++ [z.2.2.2] := by
    unfold chs
    rw [List.take_add_one, h, List.map_append]
    rfl
  rw [e, stand_snoc, chs_len, List.length_take, Nat.min_eq_left (by omega)]
theorem EnsOk.nil {nms : List (List Nat)} {f e : Int} : EnsOk nms f e [] := fun i z h => by rw [List.getElem?_nil] at h; cases h
theorem EnsOk.take {nms : List (List Nat)} {f e : Int} {zs : List En} (h : EnsOk nms f e zs) (n : Nat) : EnsOk nms f e (zs.take n) := fun i z hz => by
  rw [List.getElem?_take] at hz
  split at hz
  · rename_i hi
    rw [List.take_take, Nat.min_eq_left (by omega)]
    exact h i z hz
  · cases hz
theorem EnsOk.snoc {nms : List (List Nat)} {f e : Int} {zs : List En} {z : En} (h : EnsOk nms f e zs) (h1 : f ≤ z.2.2.1) (h2 : z.2.2.1 < e) (h3 : ∀ y ∈ zs, y.2.2.1 ≤ z.2.2.1) (h4 : ChIn nms f e (standF (chs zs)) z.2.2.2) : EnsOk nms f e (zs ++ [z]) := fun i y hy => by
  by_cases hi : i < zs.length
  · rw [List.getElem?_append_left hi] at hy
    rw [List.take_append_of_le_length (by omega)]
    exact h i y hy
  · rw [List.getElem?_append_right (by omega)] at hy
    have e0 : i = zs.length := by
      have := (List.getElem?_eq_some_iff.mp hy).1
      rw [List.length_singleton] at this
      omega
    subst e0
    rw [Nat.sub_self] at hy
    cases hy
    rw [List.take_append_of_le_length (Nat.le_refl _), List.take_length]
    exact ⟨h1, h2, h3, h4⟩
theorem sqT_off2 {K : PySem.W.Frag} {H H' : Hp} {p l m : Addr} {xs ys ws : List V} (h : SqT K H p xs) (e : H l = some (.lst ys)) (e2 : H m = some (.lst ws)) (k : ∀ b o, b ≠ l → b ≠ m → H b = some o → H' b = some o) : SqT K H' p xs := by
  rcases h with (h | ⟨ob, h⟩) | h
  · exact .inl (.inl (k _ _ (fun z => by rw [z, e] at h; cases h) (fun z => by rw [z, e2] at h; cases h) h))
  · exact .inl (.inr ⟨ob, k _ _ (fun z => by rw [z, e] at h; cases h) (fun z => by rw [z, e2] at h; cases h) h⟩)
  · exact .inr h
/-- entries and the terms that stand, while they are drawn: H0 is what there was ahead -/
structure EnInv (K : PySem.W.Frag) (H0 H : Hp) (le ll : Addr) (nms : List (List Nat)) (f e : Int) (zs : List En) : Prop where
  same : Same H0 H
  n1 : H0 le = none
  n2 : H0 ll = none
  ne : le ≠ ll
  e1 : H le = some (.lst (zs.map (·.1)))
  e2 : H ll = some (.lst ((standF (chs zs)).map V.int))
  at' : EnsAt K H zs
  ok : EnsOk nms f e zs
theorem EnInv.same' {K : PySem.W.Frag} {H0 H H' : Hp} {le ll : Addr} {nms : List (List Nat)} {f e : Int} {zs : List En} (I : EnInv K H0 H le ll nms f e zs) (s : Same H H') : EnInv K H0 H' le ll nms f e zs :=
  ⟨I.same.trans s, I.n1, I.n2, I.ne, s _ _ I.e1, s _ _ I.e2, I.at'.same s, I.ok⟩
theorem EnInv.step {K : PySem.W.Frag} {H0 H H' : Hp} {le ll : Addr} {nms : List (List Nat)} {f e : Int} {zs : List En} {pe p : Addr} {en : Int} {ch : Ch} (I : EnInv K H0 H le ll nms f e zs) (ep : H pe = some (.tup [.int en, .ref p])) (ec : H p = some (.tup ((chD ch).map sv)))
    (kp : ∀ b o, b ≠ le → b ≠ ll → H b = some o → H' b = some o) (e1 : H' le = some (.lst (zs.map (·.1) ++ [.ref pe]))) (e2 : H' ll = some (.lst ((stepL zs.length (standF (chs zs)) ch).map V.int)))
    (h1 : f ≤ en) (h2 : en < e) (h3 : ∀ y ∈ zs, y.2.2.1 ≤ en) (h4 : ChIn nms f e (standF (chs zs)) ch) : EnInv K H0 H' le ll nms f e (zs ++ [(.ref pe, p, en, ch)]) := by
  refine ⟨fun b o eb => kp b o (ne_of_none eb I.n1) (ne_of_none eb I.n2) (I.same b o eb), I.n1, I.n2, I.ne, by rw [e1, List.map_append]; rfl, ?_, fun z hz => ?_, I.ok.snoc h1 h2 h3 h4⟩
  · have ec : chs (zs ++ [(V.ref pe, p, en, ch)]) = chs zs ++ [ch] := by unfold chs; rw [List.map_append]; rfl
    rw [e2, ec, stand_snoc, chs_len]
  · rcases List.mem_append.mp hz with y | y
    · obtain ⟨q, ez, q1, q2⟩ := I.at' z y
      exact ⟨q, ez, sqT_off2 q1 I.e1 I.e2 kp, sqT_off2 q2 I.e1 I.e2 kp⟩
    · rw [List.mem_singleton.mp y]
      exact ⟨pe, rfl, sqT_off2 (SqT.of ep) I.e1 I.e2 kp, sqT_off2 (SqT.of ec) I.e1 I.e2 kp⟩
/-- a change's first thing -/
def chW : Ch → List Nat
  | .plan _ _ => [112, 108, 97, 110]
  | .seats _ _ => [115, 101, 97, 116, 115]
  | .word w _ => wordS w
  | .undo _ => [117, 110, 100, 111]
  | .grant _ => [103, 114, 97, 110, 116]
  | .back => [98, 97, 99, 107]
theorem chD_cons (c : Ch) : ∃ r, (chD c).map sv = .str (SL (chW c)) :: r := by
  cases c <;> exact ⟨_, rfl⟩
theorem atV_0 (v : V) (r : List V) : atI (v :: r) 0 = some v := atI_nat (j := 0) rfl
theorem atV_1 (u v : V) (r : List V) : atI (u :: v :: r) 1 = some v := atI_nat (j := 1) rfl
theorem chW_undo {ch : Ch} (h : chW ch = [117, 110, 100, 111]) : ∃ k, ch = .undo k := by
  cases ch with
  | undo k => exact ⟨k, rfl⟩
  | word w d =>
    exfalso
    match w, h with
    | 0, h => exact absurd h (by decide : ¬ [104, 111, 108, 100] = [117, 110, 100, 111])
    | 1, h => exact absurd h (by decide : ¬ [103, 111] = [117, 110, 100, 111])
    | 2, h => exact absurd h (by decide : ¬ [115, 116, 111, 112] = [117, 110, 100, 111])
    | n + 3, h => exact absurd h (by decide : ¬ [108, 97, 115, 116] = [117, 110, 100, 111])
  | plan d nm => exact absurd h (by decide : ¬ [112, 108, 97, 110] = [117, 110, 100, 111])
  | seats d n => exact absurd h (by decide : ¬ [115, 101, 97, 116, 115] = [117, 110, 100, 111])
  | grant a => exact absurd h (by decide : ¬ [103, 114, 97, 110, 116] = [117, 110, 100, 111])
  | back => exact absurd h (by decide : ¬ [98, 97, 99, 107] = [117, 110, 100, 111])
theorem chW_none (ch : Ch) (h : chW ch ≠ [117, 110, 100, 111]) (n : Nat) (Ls : List Int) : decide (chW ch ∈ [[103, 114, 97, 110, 116], [98, 97, 99, 107]]) = !isTm ch ∧ stepL n Ls ch = if isTm ch = true then Ls ++ [(n : Int)] else Ls := by
  cases ch with
  | undo k => exact absurd rfl h
  | word w d =>
    refine ⟨decide_eq_false ?_, rfl⟩
    show ¬ wordS w ∈ _
    match w with
    | 0 => exact (by decide : ¬ [104, 111, 108, 100] ∈ [[103, 114, 97, 110, 116], [98, 97, 99, 107]])
    | 1 => exact (by decide : ¬ [103, 111] ∈ [[103, 114, 97, 110, 116], [98, 97, 99, 107]])
    | 2 => exact (by decide : ¬ [115, 116, 111, 112] ∈ [[103, 114, 97, 110, 116], [98, 97, 99, 107]])
    | n + 3 => exact (by decide : ¬ [108, 97, 115, 116] ∈ [[103, 114, 97, 110, 116], [98, 97, 99, 107]])
  | plan d nm => exact ⟨(by decide : decide ([112, 108, 97, 110] ∈ [[103, 114, 97, 110, 116], [98, 97, 99, 107]]) = false), rfl⟩
  | seats d n => exact ⟨(by decide : decide ([115, 101, 97, 116, 115] ∈ [[103, 114, 97, 110, 116], [98, 97, 99, 107]]) = false), rfl⟩
  | grant a => exact ⟨(by decide : decide ([103, 114, 97, 110, 116] ∈ [[103, 114, 97, 110, 116], [98, 97, 99, 107]]) = true), rfl⟩
  | back => exact ⟨(by decide : decide ([98, 97, 99, 107] ∈ [[103, 114, 97, 110, 116], [98, 97, 99, 107]]) = true), rfl⟩
theorem chD_all2 {K : PySem.W.Frag} {H : Hp} {n : Nat} (c : Ch) : all2 (Dp K H n) (chD c) ((chD c).map sv) := by
  cases c with
  | plan d nm => exact ⟨Dp_str, Dp_int, Dp_str, trivial⟩
  | seats d m => exact ⟨Dp_str, Dp_int, Dp_int, trivial⟩
  | word w d => exact ⟨Dp_str, Dp_int, trivial⟩
  | undo k => exact ⟨Dp_str, Dp_int, trivial⟩
  | grant a => exact ⟨Dp_str, Dp_int, trivial⟩
  | back => exact ⟨Dp_str, trivial⟩
theorem EnsAt.all2 {K : PySem.W.Frag} {H : Hp} : ∀ {zs : List En}, EnsAt K H zs → all2 (Dp K H 2) (zs.map enD) (zs.map (·.1))
  | [], _ => trivial
  | z :: r, h => by
    obtain ⟨p, e, q1, q2⟩ := h z List.mem_cons_self
    refine ⟨?_, EnsAt.all2 fun y hy => h y (List.mem_cons_of_mem _ hy)⟩
    show Dp K H 2 (enD z) z.1
    rw [e]
    exact Dp_tup q1 ⟨Dp_int, Dp_tup q2 (chD_all2 _), trivial⟩
end L2

/-! ## list(d.items()) -/
namespace L2
open PySem PySem.Spec PyProof.Rows
section
variable {X : Cx} {pins : List (Addr × Obj)} {σ : St} {H H' : Hp} {s : Shared} {h' : Heap} {t' : Nat}
theorem Inv.laidAll (I : Inv X pins σ H s) (k : ∀ b o, s.heap.get? b = some o → h'.get? b = some o) (ext : ∀ b u, H b = some u → H' b = some u) (new : ∀ b u, H' b = some u → H b = none → s.heap.objs.size ≤ b ∧ ObjOk X.prog X.w H' h' b u) :
    Inv X pins σ H' { s with heap := h', toks := t' } := by
  refine I.step (g' := s.gens) (d' := s.drawn) (ch := []) (fun b hb => (nomatch hb)) (fun b o _ _ hc e _ => k b o e) (fun b o _ _ hc e _ => ⟨o.slots, k b o e⟩)
    (fun b u _ e n => ?_)
    (fun b o hc e => ⟨o, k b o e⟩) (fun b xs e => ext _ _ e) (fun b o u e => ext _ _ e) (fun b ps e => ⟨#[], by rw [ext _ _ e]; simp⟩) (fun m hm => ?_) (fun b u e => ?_) I.bare
  · rcases q : H' b with _ | v
    · rfl
    · exact absurd (Heap.lt_size e) (Nat.not_lt.mpr (new b v q n).1)
  · obtain ⟨o, es, ep, ho, r⟩ := hm
    exact ⟨o, es, ep, k _ o ho, r⟩
  · rcases q : H b with _ | v
    · exact (new b u e q).2
    · have e2 := ext b v q
      rw [e] at e2
      cases e2
      exact (I.hok b u q).stay (fun c v hc q => k c v q) (fun c q => ext _ _ q) fun c xs q => ext _ _ q
end
/-- the pairs of a dict as new tuples -/
def trackT : List Addr → List (Key × V) → Hp → Hp
  | a :: as, kv :: kvs, H => upd (trackT as kvs H) a (.tup [kV kv.1, kv.2])
  | _, _, H => H
theorem trackT_off {H : Hp} {b : Addr} : ∀ {as : List Addr} {kvs : List (Key × V)}, b ∉ as → trackT as kvs H b = H b
  | [], _, _ => by unfold trackT; rfl
  | _ :: _, [], _ => by unfold trackT; rfl
  | a :: as, kv :: kvs, h => by
    unfold trackT
    rw [upd_ne (fun z => h (by rw [z]; exact List.mem_cons_self)), trackT_off fun z => h (List.mem_cons_of_mem _ z)]
theorem trackT_at {H : Hp} : ∀ {as : List Addr} {kvs : List (Key × V)} {i : Nat} {p : Addr} {kv : Key × V}, as.Pairwise (· < ·) → as[i]? = some p → kvs[i]? = some kv → trackT as kvs H p = some (.tup [kV kv.1, kv.2])
  | a :: as, kv :: kvs, 0, _, _, _, h1, h2 => by
    cases h1
    cases h2
    unfold trackT
    exact upd_same
  | a :: as, kv :: kvs, i + 1, p, kv', hp, h1, h2 => by
    obtain ⟨q1, q2⟩ := List.pairwise_cons.mp hp
    have h1' : as[i]? = some p := by simpa using h1
    unfold trackT
    rw [upd_ne (Nat.ne_of_gt (q1 p (List.mem_of_getElem? h1')))]
    exact trackT_at q2 h1' (by simpa using h2)
theorem trackT_in {H : Hp} {b : Addr} {u : HO} : ∀ {as : List Addr} {kvs : List (Key × V)}, as.Pairwise (· < ·) → trackT as kvs H b = some u → H b = some u ∨ ∃ (i : Nat) (kv : Key × V), as[i]? = some b ∧ kvs[i]? = some kv ∧ u = .tup [kV kv.1, kv.2]
  | [], _, _, h => by unfold trackT at h; exact .inl h
  | _ :: _, [], _, h => by unfold trackT at h; exact .inl h
  | a :: as, kv :: kvs, hp, h => by
    unfold trackT at h
    by_cases e : b = a
    · subst e
      rw [upd_same] at h
      exact .inr ⟨0, kv, rfl, rfl, (Option.some.inj h).symm⟩
    · rw [upd_ne e] at h
      rcases trackT_in (List.pairwise_cons.mp hp).2 h with q | ⟨i, kv', q1, q2, q3⟩
      · exact .inl q
      · exact .inr ⟨i + 1, kv', by simpa using q1, by simpa using q2, q3⟩
theorem kv_val2 {kvs : List (Key × V)} {vs : List (Key × Value)} (h : KV kvs vs) : ∀ {i : Nat} {kv : Key × V} {k : Key} {y : Value}, kvs[i]? = some kv → vs[i]? = some (k, y) → kv.1 = k ∧ RelV kv.2 y := by
  unfold KV at h
  induction h with
  | nil => intro i kv k y h1; rw [List.getElem?_nil] at h1; cases h1
  | cons r t ih =>
    intro i kv k y h1 h2
    cases i with
    | zero => cases h1; cases h2; exact r
    | succ i => exact ih (i := i) (by simpa using h1) (by simpa using h2)
theorem vals_refsJ : ∀ as : List Addr, Vals (as.map V.ref) (as.map Value.ref)
  | [] => .nil
  | _ :: r => .cons rfl (vals_refsJ r)
def tItems (td : TE) : TE := fun σ H Q => td σ H fun x H1 => ∃ a kvs, x = .ref a ∧ H1 a = some (.dK kvs) ∧ ∀ l H2 (as : List Addr), H1 l = none → Same H1 H2 → as.length = kvs.length → (∀ (i : Nat) (kv : Key × V) (p : Addr), kvs[i]? = some kv → as[i]? = some p → H2 p = some (.tup [kV kv.1, kv.2])) → H2 l = some (.lst (as.map V.ref)) → Q (.ref l) H2
theorem pe_listitems {X : Cx} {o : Expr} {td : TE} {p pos ap cp : Pos} (hc : X.calm = true) (hg : Gl X "list") (hm : X.mg "list" = none) (ho : PE X o td) (hb : attributeBase o "items" X.env (eval o X.env) = eval o X.env) (hline : (ap.endLine == cp.line) = true) :
    PE X (.Call (.Name "list" p) [.Call (.Attribute o "items" ap) [] [] cp] [] pos) (tItems td) := by
  intro pins s σ H Q I h
  refine wpAny_Call_Name_kw (ld_blt I hg hm bb_list ?_ (by decide) (by decide))
  refine PyProof.Rows.callWith_type1 ?_ star_Call rfl
  show wpAny _ _ (spliced ((false, eval (.Call (.Attribute o "items" ap) [] [] cp) X.env) :: backTo pos (starEach [] X.env))) _ _ s
  refine Calls.spliced_cons ?_
  refine wpAny_Call_method (T := "dict") (id := "dict.items") hb rfl hline PySem.F.plainAttrs_dict PySem.F.slot_dict_items PySem.F.type_dict_items (thn (ho pins s σ H _ I h) fun u s1 ⟨x, H1, I1, rx, a, kvs, ex, ea, q⟩ => ?_)
  subst ex
  obtain rfl : u = Value.ref a := rx
  obtain ⟨z, hd, vs, rel, dd⟩ := dk_of I1.hok ea
  refine ⟨dd.typeIs, dd.mapOf.noDict, ?_⟩
  show wpAny _ _ (callWith cp (.builtin "dict.items") [.ref a] [] []) _ _ s1
  refine method_meetsIn PySem.F.slot_dict_items PySem.F.entry_dict_items rfl (PySem.evalArgs_none ⟨rfl, dd.typeIs, PySem.F.args_dict_items_1 _, _, meets_dict_items _ a hd, ⟨vs, dd⟩, ?_⟩)
  refine Calls.spliced_nil ?_
  obtain ⟨ep, hat⟩ := dd.dictAt
  have kp0 : ∀ b o, s1.heap.get? b = some o → (s1.heap.push { cls := .type "dict_items", data := .fields #[.ref a] }).get? b = some o := fun b o e => Heap.get?_push_of_some _ e
  refine PySem.W.kdx_call (knd := mixKind X.prog X.w) (kvs := vs) (ep := ep) (I.ok.hd hc) ⟨_, Heap.get?_push_size _ rfl, rfl, rfl⟩ (hat.at' fun o e => Heap.get?_push_of_some _ e) (by rw [← rel.length]; exact z) fun h' tk acc c as hk hS hl hG hacc => ?_
  obtain ⟨l, hl0⟩ : ∃ l, l = s1.heap.objs.size + 1 := ⟨_, rfl⟩
  have el : (s1.heap.push { cls := .type "dict_items", data := .fields #[.ref a] }).objs.size = l := by rw [Heap.size_push, hl0]
  replace hS : h'.get? l = some { cls := .type "list", dict := none, data := .seq acc c, slots := #[] } := by rw [← el]; exact hS
  replace hG : PySem.W.KdxG (mixKind X.prog X.w) vs l h' as := by rw [← el]; exact hG
  have kp : ∀ b o, s1.heap.get? b = some o → h'.get? b = some o := fun b o e => hk b o (kp0 b o e)
  have lkv : as.length = kvs.length := hl.trans (show kvs.length = vs.length from rel.length).symm
  have la : l ∉ as := fun m => Nat.lt_irrefl _ (hG.above l m)
  have fresh : ∀ b, s1.heap.objs.size ≤ b → H1 b = none := fun b hb => I1.hok.fresh hb
  have ext : ∀ b u, H1 b = some u → upd (trackT as kvs H1) l (.lst (as.map V.ref)) b = some u := fun b u e => by
    have b1 : b ≠ l := fun z => by rw [z, fresh l (by omega)] at e; cases e
    have b2 : b ∉ as := fun m => by rw [fresh b (Nat.le_of_lt (Nat.lt_trans (hl0 ▸ Nat.lt_succ_self _) (hG.above b m)))] at e; cases e
    rw [upd_ne b1, trackT_off b2]
    exact e
  have new : ∀ b u, upd (trackT as kvs H1) l (.lst (as.map V.ref)) b = some u → H1 b = none → s1.heap.objs.size ≤ b ∧ ObjOk X.prog X.w (upd (trackT as kvs H1) l (.lst (as.map V.ref))) h' b u := fun b u e n => by
    by_cases b1 : b = l
    · subst b1
      rw [upd_same] at e
      cases e
      refine ⟨by omega, show ObjOk X.prog X.w _ h' _ (.lst (as.map V.ref)) from ⟨by rw [List.length_map, lkv]; exact z, as.map Value.ref, c, vals_refsJ as, ?_⟩⟩
      rw [← hacc, Array.toArray_toList]
      exact hS
    · rw [upd_ne b1] at e
      rcases trackT_in hG.rise e with e1 | ⟨i, kv, q1, q2, rfl⟩
      · rw [n] at e1; cases e1
      · obtain ⟨key, k, x, v1, v2, v3⟩ := hG.pairs i b q1
        obtain ⟨r1, r2⟩ := kv_val2 rel q2 v1
        have rk : RelV (kV kv.1) key := by
          rw [r1]
          rcases keyIs_shape v2 with ⟨j, t, rfl, ej⟩ | ⟨y, t, rfl, ej⟩
          · rw [ej]; exact ⟨t, rfl⟩
          · rw [ej]; exact ⟨t, rfl⟩
        refine ⟨Nat.le_of_lt (Nat.lt_trans (hl0 ▸ Nat.lt_succ_self _) (hG.above b (List.mem_of_getElem? q1))), show ObjOk X.prog X.w _ h' _ (.tup [kV kv.1, kv.2]) from ⟨le_line (by simp), [key, x], .cons rk (.cons r2 .nil), ⟨_, v3, rfl, _, rfl⟩⟩⟩
  have ev : (s1.heap.push { cls := .type "dict_items", data := .fields #[.ref a] }).objs.size = l := el
  show EP X pins σ Q (Value.ref (s1.heap.push { cls := .type "dict_items", data := .fields #[.ref a] }).objs.size) { s1 with heap := h', toks := tk }
  rw [ev]
  exact ⟨.ref l, _, I1.laidAll (t' := tk) kp ext new, rfl, q l _ as (fresh l (by omega)) ext lkv (fun i kv p' h1 h2 => by rw [upd_ne (fun z => la (by rw [← z]; exact List.mem_of_getElem? h2))]; exact trackT_at hG.rise h2 h1) upd_same⟩
/-- xs[::-1] -/
def tRev (K : PySem.W.Frag) (te : TE) (th : TO) : TE := fun σ H Q => te σ H fun x H1 => th σ H1 fun u H2 => u = some (-1) ∧ ∃ a xs, x = .ref a ∧ SqL K H2 a xs ∧ New H2 (.lst xs.reverse) Q
end L2

/-! ## what is known at a moment -/
namespace L2
open PySem
def enL (mo : Int) (z : En) : Bool := decide (z.2.2.1 ≤ mo)
def mOf (zs : List En) (mo : Int) : Nat := (zs.filter (enL mo)).length
/-- entered on days that rise: what is entered by a moment stands first -/
theorem known_take (mo : Int) : ∀ {zs : List En}, zs.Pairwise (fun a b => a.2.2.1 ≤ b.2.2.1) → zs.filter (enL mo) = zs.take (mOf zs mo) ∧ ∀ (j : Nat) (z : En), zs[j]? = some z → (z.2.2.1 ≤ mo ↔ j < mOf zs mo)
  | [], _ => ⟨rfl, fun j z h => by rw [List.getElem?_nil] at h; cases h⟩
  | z :: r, h => by
    obtain ⟨h1, h2⟩ := List.pairwise_cons.mp h
    obtain ⟨e, ih⟩ := known_take mo h2
    unfold mOf at e ih ⊢
    by_cases q : z.2.2.1 ≤ mo
    · rw [List.filter_cons_of_pos (show enL mo z = true from decide_eq_true q), List.length_cons]
      refine ⟨by rw [List.take_succ_cons, ← e], fun j y hy => ?_⟩
      cases j with
      | zero => cases hy; exact ⟨fun _ => Nat.succ_pos _, fun _ => q⟩
      | succ j =>
        have := ih j y (by simpa using hy)
        rw [this]
        omega
    · rw [List.filter_cons_of_neg (show ¬ enL mo z = true from by unfold enL; simpa using q)]
      have nil : r.filter (enL mo) = [] := by
        rw [List.filter_eq_nil_iff]
        intro y hy
        have := h1 y hy
        unfold enL
        simp only [decide_eq_true_eq]
        omega
      rw [nil]
      refine ⟨rfl, fun j y hy => ⟨fun le => ?_, fun z0 => absurd z0 (Nat.not_lt_zero _)⟩⟩
      cases j with
      | zero => cases hy; exact absurd le q
      | succ j =>
        have := h1 y (List.mem_of_getElem? (show r[j]? = some y by simpa using hy))
        omega
theorem EnsOk.pair {nms : List (List Nat)} {f e : Int} {zs : List En} (h : EnsOk nms f e zs) : zs.Pairwise (fun a b => a.2.2.1 ≤ b.2.2.1) := by
  rw [List.pairwise_iff_getElem]
  intro i j hi hj lt
  refine (h j zs[j] (List.getElem?_eq_getElem hj)).2.2.1 zs[i] ?_
  rw [List.mem_take_iff_getElem]
  exact ⟨i, by omega, rfl⟩
/-- the numbers that are undone -/
def goneF : List Ch → List Int
  | [] => []
  | .undo k :: r => k :: goneF r
  | _ :: r => goneF r
theorem gone_append : ∀ a b : List Ch, goneF (a ++ b) = goneF a ++ goneF b
  | [], _ => rfl
  | c :: r, b => by
    have ih := gone_append r b
    cases c with
    | undo k => show k :: goneF (r ++ b) = k :: goneF r ++ goneF b; rw [ih]; rfl
    | plan => exact ih
    | seats => exact ih
    | word => exact ih
    | grant => exact ih
    | back => exact ih
def isTmO (o : Option Ch) : Bool := (o.map isTm).getD false
def dueF (cs : List Ch) (gs : List Int) (n : Nat) : List Int := ((List.range n).filter (fun j : Nat => isTmO cs[j]? && !decide ((j : Int) ∈ gs))).map fun j : Nat => (j : Int)
theorem due_succ (cs : List Ch) (gs : List Int) (n : Nat) : dueF cs gs (n + 1) = dueF cs gs n ++ (if (isTmO cs[n]? && !decide ((n : Int) ∈ gs)) = true then [(n : Int)] else []) := by
  unfold dueF
  rw [List.range_succ, List.filter_append, List.map_append]
  congr 1
  by_cases h : (isTmO cs[n]? && !decide ((n : Int) ∈ gs)) = true
  · rw [if_pos h, List.filter_cons]
    exact congrArg (List.map _) (if_pos h)
  · rw [if_neg h, List.filter_cons]
    exact congrArg (List.map _) (if_neg h)
/-- undos are of terms that stand -/
def UndoOk (cs : List Ch) : Prop := ∀ (i : Nat) (k : Int), cs[i]? = some (.undo k) → k ∈ standF (cs.take i)
theorem UndoOk.take {cs : List Ch} (h : UndoOk cs) (n : Nat) : UndoOk (cs.take n) := fun i k hi => by
  rw [List.getElem?_take] at hi
  split at hi
  · rw [List.take_take, Nat.min_eq_left (by omega)]
    exact h i k hi
  · cases hi
theorem stand_due (cs : List Ch) (ok : UndoOk cs) : ∀ n, n ≤ cs.length → standF (cs.take n) = dueF cs (goneF (cs.take n)) n ∧ ∀ k ∈ goneF (cs.take n), k < n
  | 0, _ => by
    rw [List.take_zero]
    exact ⟨rfl, fun k h => (nomatch h)⟩
  | n + 1, h => by
    obtain ⟨ih, lt⟩ := stand_due cs ok n (by omega)
    obtain ⟨c, hc⟩ : ∃ c, cs[n]? = some c := ⟨cs[n], List.getElem?_eq_getElem (by omega)⟩
    have et : cs.take (n + 1) = cs.take n ++ [c] := by rw [List.take_add_one, hc]; rfl
    have ln : (cs.take n).length = n := by rw [List.length_take]; omega
    have sn : standF (cs.take (n + 1)) = stepL n (standF (cs.take n)) c := by rw [et, stand_snoc, ln]
    have gn : goneF (cs.take (n + 1)) = goneF (cs.take n) ++ goneF [c] := by rw [et, gone_append]
    rw [sn, gn, due_succ, hc]
    have nin : (n : Int) ∉ goneF (cs.take n) := fun z => by have := lt _ z; omega
    have up : ∀ k ∈ goneF (cs.take n), k < ((n + 1 : Nat) : Int) := fun k hk => by have := lt k hk; omega
    have term : isTm c = true → goneF [c] = [] → stepL n (standF (cs.take n)) c = standF (cs.take n) ++ [(n : Int)] → stepL n (standF (cs.take n)) c = dueF cs (goneF (cs.take n) ++ goneF [c]) n ++ (if (isTmO (some c) && !decide ((n : Int) ∈ goneF (cs.take n) ++ goneF [c])) = true then [(n : Int)] else []) ∧ ∀ k ∈ goneF (cs.take n) ++ goneF [c], k < ((n + 1 : Nat) : Int) := fun h1 h2 h3 => by
      rw [h2, List.append_nil, h3, ih]
      refine ⟨?_, up⟩
      rw [if_pos (by show (isTm c && !decide _) = true; rw [h1, decide_eq_false nin]; rfl)]
    have other : isTm c = false → goneF [c] = [] → stepL n (standF (cs.take n)) c = standF (cs.take n) → stepL n (standF (cs.take n)) c = dueF cs (goneF (cs.take n) ++ goneF [c]) n ++ (if (isTmO (some c) && !decide ((n : Int) ∈ goneF (cs.take n) ++ goneF [c])) = true then [(n : Int)] else []) ∧ ∀ k ∈ goneF (cs.take n) ++ goneF [c], k < ((n + 1 : Nat) : Int) := fun h1 h2 h3 => by
      rw [h2, List.append_nil, h3, ih]
      refine ⟨?_, up⟩
      rw [if_neg (by show ¬ (isTm c && _) = true; rw [h1, Bool.false_and]; exact Bool.false_ne_true), List.append_nil]
    cases c with
    | plan => exact term rfl rfl rfl
    | seats => exact term rfl rfl rfl
    | word => exact term rfl rfl rfl
    | grant => exact other rfl rfl rfl
    | back => exact other rfl rfl rfl
    | undo k =>
      have hk := ok n k hc
      have nd := (stand_in (cs.take n)).1
      have kb := (stand_in (cs.take n)).2 k hk
      rw [ln] at kb
      refine ⟨?_, fun k' hk' => ?_⟩
      · rw [if_neg (by show ¬ (false && _) = true; rw [Bool.false_and]; exact Bool.false_ne_true), List.append_nil]
        show (standF (cs.take n)).erase k = _
        rw [nd.erase_eq_filter, ih]
        unfold dueF
        rw [List.filter_map, List.filter_filter]
        congr 1
        refine List.filter_congr fun j _ => ?_
        show ((j : Int) != k && (isTmO cs[j]? && !decide ((j : Int) ∈ goneF (cs.take n)))) = (isTmO cs[j]? && !decide ((j : Int) ∈ goneF (cs.take n) ++ [k]))
        have e1 : decide ((j : Int) ∈ goneF (cs.take n) ++ [k]) = (decide ((j : Int) ∈ goneF (cs.take n)) || decide ((j : Int) = k)) := by
          rw [Bool.eq_iff_iff, decide_eq_true_eq, Bool.or_eq_true, decide_eq_true_eq, decide_eq_true_eq, List.mem_append, List.mem_singleton]
        rw [e1]
        have e2 : ((j : Int) != k) = !decide ((j : Int) = k) := by
          rw [bne, Bool.beq_eq_decide_eq]
        rw [e2]
        cases isTmO cs[j]? <;> cases decide ((j : Int) ∈ goneF (cs.take n)) <;> cases decide ((j : Int) = k) <;> rfl
      · rcases List.mem_append.mp hk' with q | q
        · exact up _ q
        · have : k' = k := List.mem_singleton.mp q
          omega
theorem due_more {cs : List Ch} {gs : List Int} {m : Nat} (hc : cs.length = m) : ∀ n, m ≤ n → dueF cs gs n = dueF cs gs m
  | 0, h => by have : m = 0 := by omega
               rw [this]
  | n + 1, h => by
    by_cases e : m = n + 1
    · rw [e]
    · rw [due_succ, due_more hc n (by omega), List.getElem?_eq_none (by omega)]
      show _ ++ (if (false && _) = true then _ else _) = _
      rw [Bool.false_and, if_neg Bool.false_ne_true, List.append_nil]
theorem chW_three (c : Ch) : decide (chW c ∈ [[117, 110, 100, 111], [103, 114, 97, 110, 116], [98, 97, 99, 107]]) = !isTm c := by
  cases c with
  | undo k => exact (by decide : decide ([117, 110, 100, 111] ∈ [[117, 110, 100, 111], [103, 114, 97, 110, 116], [98, 97, 99, 107]]) = true)
  | grant a => exact (by decide : decide ([103, 114, 97, 110, 116] ∈ [[117, 110, 100, 111], [103, 114, 97, 110, 116], [98, 97, 99, 107]]) = true)
  | back => exact (by decide : decide ([98, 97, 99, 107] ∈ [[117, 110, 100, 111], [103, 114, 97, 110, 116], [98, 97, 99, 107]]) = true)
  | plan d nm => exact (by decide : decide ([112, 108, 97, 110] ∈ [[117, 110, 100, 111], [103, 114, 97, 110, 116], [98, 97, 99, 107]]) = false)
  | seats d n => exact (by decide : decide ([115, 101, 97, 116, 115] ∈ [[117, 110, 100, 111], [103, 114, 97, 110, 116], [98, 97, 99, 107]]) = false)
  | word w d =>
    refine decide_eq_false ?_
    show ¬ wordS w ∈ _
    match w with
    | 0 => exact (by decide : ¬ [104, 111, 108, 100] ∈ [[117, 110, 100, 111], [103, 114, 97, 110, 116], [98, 97, 99, 107]])
    | 1 => exact (by decide : ¬ [103, 111] ∈ [[117, 110, 100, 111], [103, 114, 97, 110, 116], [98, 97, 99, 107]])
    | 2 => exact (by decide : ¬ [115, 116, 111, 112] ∈ [[117, 110, 100, 111], [103, 114, 97, 110, 116], [98, 97, 99, 107]])
    | n + 3 => exact (by decide : ¬ [108, 97, 115, 116] ∈ [[117, 110, 100, 111], [103, 114, 97, 110, 116], [98, 97, 99, 107]])
/-- the undos that are known, one entry more -/
theorem gone_step {mo : Int} {zs : List En} {j : Nat} {z : En} (h : zs[j]? = some z) : goneF (chs ((zs.take (j + 1)).filter (enL mo))) = goneF (chs ((zs.take j).filter (enL mo))) ++ (if z.2.2.1 ≤ mo then goneF [z.2.2.2] else []) := by
  rw [List.take_add_one, h, Option.toList_some, List.filter_append]
  unfold chs
  rw [List.map_append, gone_append]
  congr 1
  by_cases e : z.2.2.1 ≤ mo
  · rw [if_pos e, List.filter_cons_of_pos (show enL mo z = true from decide_eq_true e)]
    rfl
  · rw [if_neg e, List.filter_cons_of_neg (show ¬ enL mo z = true from by unfold enL; simpa using e)]
    rfl
theorem inV_ints (k : Int) : ∀ ks : List Int, inV (.int k) (ks.map V.int) = decide (k ∈ ks)
  | [] => rfl
  | x :: r => by
    have ih := inV_ints k r
    unfold inV at ih ⊢
    rw [List.map_cons, List.any_cons, ih]
    show ((x == k) || decide (k ∈ r)) = decide (k ∈ x :: r)
    rw [Bool.eq_iff_iff, Bool.or_eq_true, beq_iff_eq, decide_eq_true_eq, decide_eq_true_eq, List.mem_cons]
    exact ⟨fun h => h.imp Eq.symm id, fun h => h.imp Eq.symm id⟩
theorem gone_one {c : Ch} (h : chW c ≠ [117, 110, 100, 111]) : goneF [c] = [] := by
  cases c with
  | undo k => exact absurd rfl h
  | plan => rfl
  | seats => rfl
  | word => rfl
  | grant => rfl
  | back => rfl
end L2

/-! ## sorted() of tuples that begin with three numbers -/
namespace L2.So
open PySem PySem.W PyProof.Rows
/-- what the tree of questions comes to, each answered by ranks -/
def Ev (n : Nat) (r : Nat → Int) {α : Type} : KasT α → (α → Prop) → Prop
  | .ret a, Q => Q a
  | .ask i j k, Q => (i < n ∧ j < n ∧ i ≠ j) ∧ Ev n r (k (decide (r i < r j))) Q
theorem Ev.bind {n : Nat} {r : Nat → Int} {α β : Type} {f : α → KasT β} {Q : β → Prop} : ∀ {t : KasT α}, Ev n r t (fun a => Ev n r (f a) Q) → Ev n r (t.bind f) Q
  | .ret _, h => h
  | .ask _ _ k, h => ⟨h.1, Ev.bind (t := k _) h.2⟩
theorem Ev.mono {n : Nat} {r : Nat → Int} {α : Type} {Q Q' : α → Prop} (hq : ∀ a, Q a → Q' a) : ∀ {t : KasT α}, Ev n r t Q → Ev n r t Q'
  | .ret a, h => hq a h
  | .ask _ _ k, h => ⟨h.1, Ev.mono hq (t := k _) h.2⟩
theorem Ev.wp {n : Nat} {r : Nat → Int} {α : Type} {cmp : Nat → Nat → (Bool → Shared → Prop) → Shared → Prop} {s : Shared} (hc : ∀ i j C, i < n → j < n → i ≠ j → C (decide (r i < r j)) s → cmp i j C s) {Q : α → Prop} {G : α → Shared → Prop} (hq : ∀ a, Q a → G a s) : ∀ {t : KasT α}, Ev n r t Q → t.kasWp cmp G s
  | .ret a, h => hq a h
  | .ask i j k, h => hc i j _ h.1.1 h.1.2.1 h.1.2.2 (Ev.wp hc hq (t := k _) h.2)
theorem Ev.yes {n : Nat} {r : Nat → Int} {α : Type} {i j : Nat} {k : Bool → KasT α} {Q : α → Prop} (hi : i < n) (hj : j < n) (h : r i < r j) (e : Ev n r (k true) Q) : Ev n r (.ask i j k) Q := ⟨⟨hi, hj, fun z => by rw [z] at h; omega⟩, by rw [decide_eq_true h]; exact e⟩
theorem Ev.no {n : Nat} {r : Nat → Int} {α : Type} {i j : Nat} {k : Bool → KasT α} {Q : α → Prop} (hi : i < n) (hj : j < n) (hn : i ≠ j) (h : ¬ r i < r j) (e : Ev n r (k false) Q) : Ev n r (.ask i j k) Q := ⟨⟨hi, hj, hn⟩, by rw [decide_eq_false h]; exact e⟩
def fv (r : Nat → Int) (p : Array Nat) (k : Nat) : Int := r (p.getD k 0)
def Ok (n : Nat) (p : Array Nat) : Prop := p.Perm (List.range n).toArray
def Up (r : Nat → Int) (p : Array Nat) (m : Nat) : Prop := ∀ i j, i < j → j < m → fv r p i < fv r p j
def Dn (r : Nat → Int) (p : Array Nat) (m : Nat) : Prop := ∀ i j, i < j → j < m → fv r p j < fv r p i
theorem Ok.size {n : Nat} {p : Array Nat} (h : Ok n p) : p.size = n := by
  have := h.size_eq
  simpa using this
theorem Ok.lt {n : Nat} {p : Array Nat} (h : Ok n p) {k : Nat} (hk : k < n) : p.getD k 0 < n := by
  have hs := h.size
  have e : p.getD k 0 = p[k] := by simp [Array.getD, hs, hk]
  have m : p[k] ∈ p := Array.getElem_mem _
  rw [e]
  have := (h.mem_iff).mp m
  simpa using this
theorem Ok.ne {n : Nat} {p : Array Nat} (h : Ok n p) {i j : Nat} (hij : i < j) (hj : j < n) : p.getD i 0 ≠ p.getD j 0 := by
  have hs := h.size
  have e1 : p.getD i 0 = p.toList[i]'(by simp; omega) := by simp [Array.getD, hs, show i < n by omega]
  have e2 : p.getD j 0 = p.toList[j]'(by simp; omega) := by simp [Array.getD, hs, hj]
  have nd : p.toList.Nodup := (h.toList.nodup_iff).mpr (by simpa using List.nodup_range)
  rw [e1, e2]
  exact List.pairwise_iff_getElem.mp nd i j _ _ hij
def Inj (n : Nat) (r : Nat → Int) : Prop := ∀ i j, i < n → j < n → i ≠ j → r i ≠ r j
theorem Ok.fne {n : Nat} {r : Nat → Int} (hr : Inj n r) {p : Array Nat} (h : Ok n p) {i j : Nat} (hij : i < j) (hj : j < n) : fv r p i ≠ fv r p j := hr _ _ (h.lt (by omega)) (h.lt hj) (h.ne hij hj)
theorem Up.one {r : Nat → Int} {p : Array Nat} {m : Nat} (h : Up r p m) (h1 : 1 ≤ m) (hl : fv r p (m - 1) < fv r p m) : Up r p (m + 1) := fun i j hij hj => by
  by_cases e : j = m
  · subst e
    by_cases e2 : i = j - 1
    · rw [e2]; exact hl
    · exact Int.lt_trans (h i (j - 1) (by omega) (by omega)) hl
  · exact h i j hij (by omega)
theorem Dn.one {r : Nat → Int} {p : Array Nat} {m : Nat} (h : Dn r p m) (h1 : 1 ≤ m) (hl : fv r p m < fv r p (m - 1)) : Dn r p (m + 1) := fun i j hij hj => by
  by_cases e : j = m
  · subst e
    by_cases e2 : i = j - 1
    · rw [e2]; exact hl
    · exact Int.lt_trans hl (h i (j - 1) (by omega) (by omega))
  · exact h i j hij (by omega)
section
variable {n : Nat} {r : Nat → Int} (hr : Inj n r)
include hr
theorem asc_ {p : Array Nat} (ho : Ok n p) : ∀ (f m : Nat), m + f = n → 1 ≤ m → Up r p m → Ev n r (kas_asc p f m) (fun x => 1 ≤ x ∧ m ≤ x ∧ x ≤ n ∧ Up r p x ∧ (x = n ∨ fv r p x < fv r p (x - 1)))
  | 0, m, hm, h1, hu => ⟨h1, Nat.le_refl _, by omega, hu, .inl (by omega)⟩
  | f + 1, m, hm, h1, hu => by
    unfold kas_asc
    by_cases c : fv r p m < fv r p (m - 1)
    · refine Ev.yes (ho.lt (by omega)) (ho.lt (by omega)) c ?_
      rw [if_pos rfl]
      exact ⟨h1, Nat.le_refl _, by omega, hu, .inr c⟩
    · refine Ev.no (ho.lt (by omega)) (ho.lt (by omega)) (ho.ne (by omega) (by omega)).symm c ?_
      rw [if_neg (by decide)]
      have := ho.fne hr (i := m - 1) (j := m) (by omega) (by omega)
      exact (asc_ ho f (m + 1) (by omega) (by omega) (hu.one h1 (by omega))).mono fun x h => ⟨h.1, by omega, h.2.2⟩
theorem desc_ {p : Array Nat} (ho : Ok n p) : ∀ (f m : Nat), m + f = n → 1 ≤ m → Dn r p m → Ev n r (kas_desc f p m 0) (fun x => x.1 = p ∧ x.2.2 = 0 ∧ m ≤ x.2.1 ∧ x.2.1 ≤ n ∧ Dn r p x.2.1)
  | 0, m, hm, h1, hu => ⟨rfl, rfl, Nat.le_refl _, by show m ≤ n; omega, hu⟩
  | f + 1, m, hm, h1, hu => by
    unfold kas_desc
    by_cases c : fv r p m < fv r p (m - 1)
    · refine Ev.yes (ho.lt (by omega)) (ho.lt (by omega)) c ?_
      rw [if_pos rfl, if_neg (by decide)]
      exact (desc_ ho f (m + 1) (by omega) (by omega) (hu.one h1 c)).mono fun x h => ⟨h.1, h.2.1, by omega, h.2.2.2⟩
    · have := ho.fne hr (i := m - 1) (j := m) (by omega) (by omega)
      refine Ev.no (ho.lt (by omega)) (ho.lt (by omega)) (ho.ne (by omega) (by omega)).symm c ?_
      rw [if_neg (by decide)]
      refine Ev.yes (ho.lt (by omega)) (ho.lt (by omega)) (show fv r p (m - 1) < fv r p m by omega) ?_
      rw [if_pos rfl]
      exact ⟨rfl, rfl, Nat.le_refl _, by show m ≤ n; omega, hu⟩
theorem rev_ok {p : Array Nat} (ho : Ok n p) (i j : Nat) : Ok n (kas_rev p i j) := (mirror_perm p i j _).trans ho
theorem rev_fv {p : Array Nat} (ho : Ok n p) {m : Nat} (hm : m ≤ n) {k : Nat} (hk : k < m) : fv r (kas_rev p 0 m) k = fv r p (m - 1 - k) := by
  have e := getElem?_mirror_all (xs := p) (i := 0) (j := m) (by rw [ho.size]; exact hm) k
  rw [if_pos ⟨by omega, hk⟩] at e
  unfold fv kas_rev
  rw [Array.getD_eq_getD_getElem?, Array.getD_eq_getD_getElem?, e, Nat.zero_add]
theorem tail_ {p : Array Nat} (ho : Ok n p) {m : Nat} (h1 : 1 ≤ m) (hm : m ≤ n) (hd : Dn r p m) : Ev n r (kas_tail3 m n p) (fun x => 1 ≤ x.1 ∧ x.1 ≤ n ∧ Ok n x.2 ∧ Up r x.2 x.1) := by
  unfold kas_tail3
  refine Ev.bind ((asc_ hr (rev_ok hr ho 0 m) (n - m) m (by omega) h1 fun i j hij hj => ?_).mono fun x h => ⟨h.1, h.2.2.1, rev_ok hr ho 0 m, h.2.2.2.1⟩)
  rw [rev_fv hr ho hm (by omega), rev_fv hr ho hm hj]
  exact hd _ _ (by omega) (by omega)
theorem count_ {p : Array Nat} (ho : Ok n p) (h1 : 1 ≤ n) : Ev n r (kas_count n p) (fun x => 1 ≤ x.1 ∧ x.1 ≤ n ∧ Ok n x.2 ∧ Up r x.2 x.1) := by
  unfold kas_count
  refine Ev.bind ((asc_ hr ho (n - 1) 1 (by omega) (Nat.le_refl _) fun i j hij hj => by omega).mono fun x h => ?_)
  obtain ⟨a1, _, a2, hu, hx⟩ := h
  by_cases e : x = n
  · rw [if_pos (by simp [e])]
    exact ⟨a1, a2, ho, hu⟩
  rw [if_neg (by simp [e])]
  by_cases e1 : x > 1
  · rw [if_pos e1]
    refine Ev.yes (ho.lt (by omega)) (ho.lt (by omega)) (hu 0 (x - 1) (by omega) (by omega)) ?_
    rw [if_pos rfl]
    exact ⟨a1, a2, ho, hu⟩
  rw [if_neg e1]
  obtain rfl : x = 1 := by omega
  have c : fv r p 1 < fv r p 0 := hx.resolve_left e
  unfold kas_descPart
  refine Ev.bind ((desc_ hr ho (n - 2) 2 (by omega) (by omega) fun i j hij hj => ?_).mono fun y h => ?_)
  · obtain rfl : i = 0 := by omega
    obtain rfl : j = 1 := by omega
    exact c
  · obtain ⟨y1, y2, y3⟩ := y
    obtain ⟨b1, b2, b3, b4, b5⟩ := h
    dsimp only at b1 b2 b3 b4 b5 ⊢
    subst b1 b2
    rw [if_neg (by decide)]
    exact tail_ hr ho (by omega) b4 b5
theorem place_ {p : Array Nat} (ho : Ok n p) {k : Nat} (hk : k < n) (hu : Up r p k) : ∀ (f a b : Nat), b - a ≤ f → a ≤ b → b ≤ k → (∀ i, i < a → fv r p i < fv r p k) → (∀ i, b ≤ i → i < k → fv r p k < fv r p i) → Ev n r (kas_place p k f a b) (fun l => l ≤ k ∧ (∀ i, i < l → fv r p i < fv r p k) ∧ ∀ i, l ≤ i → i < k → fv r p k < fv r p i)
  | 0, a, b, hf, ab, bk, h1, h2 => by
    obtain rfl : a = b := by omega
    exact ⟨bk, h1, h2⟩
  | f + 1, a, b, hf, ab, bk, h1, h2 => by
    unfold kas_place
    by_cases e : a ≥ b
    · rw [if_pos e]
      obtain rfl : a = b := by omega
      exact ⟨bk, h1, h2⟩
    rw [if_neg e]
    by_cases c : fv r p k < fv r p ((a + b) / 2)
    · refine Ev.yes (ho.lt hk) (ho.lt (by omega)) c ?_
      rw [if_pos rfl]
      refine place_ ho hk hu f a ((a + b) / 2) (by omega) (by omega) (by omega) h1 fun i hi ik => ?_
      by_cases z : i = (a + b) / 2
      · rw [z]; exact c
      · exact Int.lt_trans c (hu _ _ (by omega) ik)
    · refine Ev.no (ho.lt hk) (ho.lt (by omega)) (ho.ne (by omega) hk).symm c ?_
      rw [if_neg (by decide)]
      have := ho.fne hr (i := (a + b) / 2) (j := k) (by omega) hk
      refine place_ ho hk hu f ((a + b) / 2 + 1) b (by omega) (by omega) bk (fun i hi => ?_) h2
      by_cases z : i = (a + b) / 2
      · rw [z]; omega
      · exact Int.lt_trans (hu i ((a + b) / 2) (by omega) (by omega)) (by omega)
theorem bin_ : ∀ (f k : Nat) {p : Array Nat}, Ok n p → k + f = n → Up r p k → Ev n r (kas_bin f p k) (fun q => Ok n q ∧ Up r q n)
  | 0, k, p, ho, hk, hu => ⟨ho, by
    obtain rfl : k = n := by omega
    exact hu⟩
  | f + 1, k, p, ho, hk, hu => by
    unfold kas_bin
    refine Ev.bind ((place_ hr ho (by omega) hu k 0 k (by omega) (by omega) (Nat.le_refl _) (fun i hi => by omega) fun i h1 h2 => by omega).mono fun l h => ?_)
    obtain ⟨lk, h1, h2⟩ := h
    have ho' : Ok n (bubble p k (k - l)) := (bubble_perm p k _).trans ho
    refine bin_ f (k + 1) ho' (by omega) fun i j hij hj => ?_
    have at_ : ∀ x, fv r (bubble p k (k - l)) x = if x = l then fv r p k else if l < x ∧ x ≤ k then fv r p (x - 1) else fv r p x := fun x => by
      have e := getElem?_bubble (xs := p) (src := k) (by rw [ho.size]; omega) (k - l) (by omega) x
      rw [show k - (k - l) = l by omega] at e
      unfold fv
      rw [Array.getD_eq_getD_getElem?, e]
      by_cases z1 : x = l
      · rw [if_pos z1, if_pos z1, Array.getD_eq_getD_getElem?]
      · rw [if_neg z1, if_neg z1]
        by_cases z2 : l < x ∧ x ≤ k
        · rw [if_pos z2, if_pos z2, Array.getD_eq_getD_getElem?]
        · rw [if_neg z2, if_neg z2, Array.getD_eq_getD_getElem?]
    rw [at_, at_]
    by_cases z1 : i = l
    · rw [if_pos z1, if_neg (by omega), if_pos (by omega)]
      exact h2 _ (by omega) (by omega)
    · rw [if_neg z1]
      by_cases z2 : l < i
      · rw [if_pos (by omega), if_neg (by omega), if_pos (by omega)]
        exact hu _ _ (by omega) (by omega)
      · rw [if_neg (by omega)]
        by_cases z3 : j = l
        · rw [if_pos z3]
          exact h1 i (by omega)
        · rw [if_neg z3]
          by_cases z4 : l < j
          · rw [if_pos (by omega)]
            exact hu _ _ (by omega) (by omega)
          · rw [if_neg (by omega)]
            exact hu _ _ hij (by omega)
theorem sort_ (h1 : 1 ≤ n) : Ev n r (kas_sort n) (fun p => Ok n p ∧ Up r p n) := by
  unfold kas_sort
  refine Ev.bind ((count_ hr (Array.Perm.refl _) h1).mono fun x h => ?_)
  obtain ⟨a1, a2, ho, hu⟩ := h
  by_cases e : x.1 < n
  · rw [if_pos e, Nat.max_eq_left a1]
    exact bin_ hr (n - x.1) x.1 ho (by omega) hu
  · rw [if_neg e]
    obtain e2 : x.1 = n := by omega
    rw [e2] at hu
    exact ⟨ho, hu⟩
end
end L2.So
namespace L2.So
open PySem PySem.W PySem.Calls PyProof.Rows
/-- a tuple that begins with three numbers -/
def Tr (h : Heap) (v : Value) (a b c : Int) : Prop := ∃ ad o xs k t1 t2 t3 rest, v = .ref ad ∧ h.get? ad = some o ∧ o.cls = .type "tuple" ∧ o.data = .seq xs k ∧ xs.toList = .int a t1 :: .int b t2 :: .int c t3 :: rest
theorem Tr.keep {h h' : Heap} {v : Value} {a b c : Int} (k : ∀ b o, h.get? b = some o → h'.get? b = some o) : Tr h v a b c → Tr h' v a b c
  | ⟨ad, o, xs, n, t1, t2, t3, rest, e1, e2, r⟩ => ⟨ad, o, xs, n, t1, t2, t3, rest, e1, k _ _ e2, r⟩
section
variable {prog : Program} {w : World} {A : Around} {E : Value → Shared → Prop} {s : Shared}
theorem go_int {b fin : Bool} {Q : Bool → Shared → Prop} {x y : Int} {t u : Tok} {r : List (Value × Value)} {i : Nat} (h1 : x = y → KatLex prog w A b fin Q r (i + 1) s) (h2 : x ≠ y → wpAny (model prog w) A (oneLt' (b && i == 0) (.int x t) (.int y u)) Q (fun _ _ => False) s) : KatLex prog w A b fin Q ((.int x t, .int y u) :: r) i s := by
  refine kat_cons (wpAny_eqBool_int (kat_go (fun e => kat_yes (h1 (by simpa using e))) fun e => kat_no (h2 (by simpa using e))))
theorem tr_lt {v v' : Value} {a b c a' b' c' : Int} {Q : Bool → Shared → Prop} {R R' : Int} (h : Tr s.heap v a b c) (h' : Tr s.heap v' a' b' c') (hc : c ≠ c') (hR : R < R' ↔ a < a' ∨ a = a' ∧ (b < b' ∨ b = b' ∧ c < c')) (q : Q (decide (R < R')) s) : wpAny (model prog w) A (keyLt' (tuples' true) v v') Q E s := by
  obtain ⟨ad, o, xs, n, t1, t2, t3, rest, rfl, e2, _, e4, e5⟩ := h
  obtain ⟨ad', o', xs', n', u1, u2, u3, rest', rfl, f2, _, f4, f5⟩ := h'
  refine kat_lt e2 e4 f2 f4 ?_
  rw [e5, f5]
  refine go_int (fun z1 => go_int (fun z2 => go_int (fun z3 => absurd z3 hc) fun z3 => ?_) fun z2 => ?_) fun z1 => ?_
  · refine kat_one _ _ (PyProof.Rows.lt_int (show Q (decide (c < c')) s from ?_))
    rw [show (decide (c < c')) = decide (R < R') from decide_eq_decide.mpr (by rw [hR]; omega)]
    exact q
  · refine kat_one _ _ (PyProof.Rows.lt_int (show Q (decide (b < b')) s from ?_))
    rw [show (decide (b < b')) = decide (R < R') from decide_eq_decide.mpr (by rw [hR]; omega)]
    exact q
  · refine oneLt_int ?_
    rw [show (decide (a < a')) = decide (R < R') from decide_eq_decide.mpr (by rw [hR]; omega)]
    exact q
end
end L2.So
namespace L2.So
open PySem PySem.W PySem.Calls PyProof.Rows
section
variable {prog : Program} {w : World} {A : Around} {E : Value → Shared → Prop} {s : Shared} {vs : List Value} {r : Nat → Int} {ka kb kc : Nat → Int}
/-- the keys of the tuples, and the ranks that they come to -/
structure Keys (h : Heap) (vs : List Value) (r ka kb kc : Nat → Int) : Prop where
  tup : ∀ i, i < vs.length → Tr h (vs.getD i Value.none) (ka i) (kb i) (kc i)
  num : ∀ i j, i < vs.length → j < vs.length → i ≠ j → kc i ≠ kc j
  rank : ∀ i j, i < vs.length → j < vs.length → (r i < r j ↔ ka i < ka j ∨ ka i = ka j ∧ (kb i < kb j ∨ kb i = kb j ∧ kc i < kc j))
theorem Keys.keep {h h' : Heap} (k : ∀ b o, h.get? b = some o → h'.get? b = some o) (H : Keys h vs r ka kb kc) : Keys h' vs r ka kb kc := ⟨fun i hi => (H.tup i hi).keep k, H.num, H.rank⟩
theorem Keys.inj {h : Heap} (H : Keys h vs r ka kb kc) : Inj vs.length r := fun i j hi hj hn e => by
  have := H.num i j hi hj hn
  have h1 := H.rank i j hi hj
  have h2 := H.rank j i hj hi
  rcases Int.lt_trichotomy (kc i) (kc j) with z | z | z
  · omega
  · exact this z
  · omega
theorem tups_of {h : Heap} {ka kb kc : Nat → Int} : ∀ (vs : List Value) (o : Nat), (∀ i, i < vs.length → Tr h (vs.getD i Value.none) (ka (o + i)) (kb (o + i)) (kc (o + i))) → ∃ fs, KatTups h vs fs ∧ fs.length = vs.length ∧ ∀ v ∈ fs, ∃ x t, v = Value.int x t
  | [], _, _ => ⟨[], trivial, rfl, fun _ hv => nomatch hv⟩
  | v :: vs, o, H => by
    obtain ⟨fs, h1, h2, h3⟩ := tups_of (ka := ka) (kb := kb) (kc := kc) vs (o + 1) fun i hi => by
      have := H (i + 1) (by rw [List.length_cons]; omega)
      rwa [List.getD_cons_succ, show o + (i + 1) = o + 1 + i by omega] at this
    obtain ⟨ad, ob, xs, k, t1, t2, t3, rest, e1, e2, e3, e4, e5⟩ := H 0 (by rw [List.length_cons]; omega)
    rw [List.getD_cons_zero] at e1
    subst e1
    refine ⟨.int (ka (o + 0)) t1 :: fs, KatTups.cons e2 e3 e4 ?_ h1, by rw [List.length_cons, List.length_cons, h2], fun v hv => ?_⟩
    · rw [← Array.getElem?_toList, e5]; rfl
    · rcases List.mem_cons.mp hv with rfl | hv
      · exact ⟨_, _, rfl⟩
      · exact h3 v hv
theorem lsort_tups {a : Addr} {n : Nat} {P : PySem.Fin → Shared → Prop} (ho : s.heap.get? a = some (seqObj "list" vs.toArray n)) (hK : Keys s.heap vs r ka kb kc) (hna : ∀ i, i < vs.length → vs.getD i Value.none ≠ .ref a) (h2 : 2 ≤ vs.length) (h64 : vs.length < 64)
    (h : ∀ p : Array Nat, Ok vs.length p → Up r p vs.length → P (.done (.ret .none)) { s with heap := sortedHeap s.heap a vs (List.toArray (p.toList.map fun i => vs.getD i Value.none)) }) : wpAny (model prog w) A (Builtin.«list.sort» ⟨[.ref a], []⟩) P E s := by
  have ha : a < s.heap.objs.size := Heap.lt_size ho
  obtain ⟨e1, g1⟩ : ∃ e1, (s.heap.update a (Obj.mapSeq fun _ => (#[] : Array Value))).get? a = some (seqObj "list" #[] e1) := ⟨_, get?_update_seq ho fun _ => #[]⟩
  obtain ⟨h3, hh3⟩ : ∃ h3, h3 = ((s.heap.update a (Obj.mapSeq fun _ => (#[] : Array Value))).push (seqObj "tuple" vs.toArray 0)).push (seqObj "list" #[] 0) := ⟨_, rfl⟩
  have g3 : h3.get? a = some (seqObj "list" #[] e1) := by rw [hh3]; exact Heap.get?_push_of_some _ (Heap.get?_push_of_some _ g1)
  have K3 : Keys h3 vs r ka kb kc := ⟨fun i hi => by
    obtain ⟨ad, o, xs, k, t1, t2, t3, rest, q1, q2, q3⟩ := hK.tup i hi
    refine ⟨ad, o, xs, k, t1, t2, t3, rest, q1, ?_, q3⟩
    rw [hh3]
    refine Heap.get?_push_of_some _ (Heap.get?_push_of_some _ ?_)
    rw [Heap.get?_update_ne _ _ _ _ fun z => hna i hi (by rw [q1, z])]
    exact q2, hK.num, hK.rank⟩
  rw [list_sort_plain]
  refine wpAny_bind (listItems_at ho rfl (wpAny_bind (listUpdate_at ho rfl ?_ (by rw [List.size_toArray, sizeLine_eq]; omega) (Nat.zero_le _))))
  refine wpAny_bind (seqEpoch_at g1 rfl (wpAny_bind (wpAny_newTuple ?_ (by show vs.length ≤ _; rw [sizeLine_eq]; omega))))
  refine wpAny_bind (wpAny_newList (wpAny_holding ?_) (Nat.zero_le _))
  show wpAny (model prog w) A _ P E { s with heap := ((s.heap.update a (Obj.mapSeq fun _ => #[])).push (seqObj "tuple" vs.toArray 0)).push (seqObj "list" #[] 0) }
  rw [← hh3]
  dsimp only
  have n2 : ¬ vs.toArray.size < 2 := by rw [List.size_toArray]; omega
  rw [if_neg n2, if_neg n2]
  obtain ⟨fs, f1, f2, f3⟩ := tups_of (ka := ka) (kb := kb) (kc := kc) vs 0 (fun i hi => by rw [Nat.zero_add]; exact K3.tup i hi)
  refine wpAny_bind (kat_kind (s := { s with heap := h3 }) (T := .type "int") f1 (by omega) (fun v hv => ?_) (by decide) ?_)
  · obtain ⟨x, t, rfl⟩ := f3 v hv
    exact .now
  refine wpAny_bind (wpAny_mono (kat_run (Q := fun st' s' => ∃ p : Array Nat, Ok vs.length p ∧ Up r p vs.length ∧ arrOf st' = p.map (kas_item (vs.toArray.zip vs.toArray)) ∧ failedOf st' = none ∧ s' = { s with heap := h3 })
    (G := fun p s' => Ok vs.length p ∧ Up r p vs.length ∧ s' = { s with heap := h3 }) rfl h2 h64 (fun p st' s' a1 a2 a3 a4 => ⟨p, a4.1, a4.2.1, a2, a3, a4.2.2⟩) (Ev.wp (fun i j C hi hj hn q => ?_) (fun p q => ⟨q.1, q.2, rfl⟩) (sort_ K3.inj (by omega)))) ?_ fun _ _ e => e)
  · exact tr_lt (K3.tup i hi) (K3.tup j hj) (K3.num i j hi hj hn) (K3.rank i j hi hj) q
  rintro ⟨⟨⟩, st'⟩ s' ⟨p, a1, a2, a3, a4, rfl⟩
  dsimp only
  have hout := kat_snds rfl a3
  have hsz : (List.toArray (p.toList.map fun i => vs.getD i Value.none)).size = vs.length := by rw [List.size_toArray, List.length_map, Array.length_toList, a1.size]
  rw [hout]
  refine wpAny_bind (seqEpoch_at g3 rfl (wpAny_bind (listUpdate_at g3 rfl ?_ (Nat.zero_le _) (Nat.le_trans (Nat.le_of_eq hsz) (by rw [sizeLine_eq]; omega)))))
  rw [a4]
  simp only [bne_self_eq_false, Bool.false_eq_true, if_false]
  refine wpAny_pure ?_
  have := h p a1 a2
  unfold sortedHeap at this
  rw [← hh3] at this
  exact this
theorem sorted_tups {l : Addr} {Q : Value → Shared → Prop} (hl : s.heap.IsList l vs.toArray) (hK : Keys s.heap vs r ka kb kc) (h2 : 2 ≤ vs.length) (h64 : vs.length < 64)
    (h : ∀ p : Array Nat, Ok vs.length p → Up r p vs.length → Q (.ref (s.heap.objs.size + 1)) { s with heap := sortedAll s.heap vs (List.toArray (p.toList.map fun i => vs.getD i Value.none)) }) : wpAny (model prog w) A (call (.builtin "sorted") [.ref l]) Q E s := by
  obtain ⟨h2', hh2⟩ : ∃ h2', h2' = ((s.heap.push (seqObj "list" #[] 0)).update s.heap.objs.size (Obj.mapSeq (· ++ vs.toArray))).push (seqObj "list" vs.toArray 0) := ⟨_, rfl⟩
  have hsz : ((s.heap.push (seqObj "list" #[] 0)).update s.heap.objs.size (Obj.mapSeq (· ++ vs.toArray))).objs.size = s.heap.objs.size + 1 := by rw [Heap.size_update]; exact size_push' ..
  have g2 : h2'.get? (s.heap.objs.size + 1) = some (seqObj "list" vs.toArray 0) := by rw [hh2, ← hsz]; exact Heap.get?_push_size _ rfl
  have keep : ∀ b o, s.heap.get? b = some o → h2'.get? b = some o := fun b o q => by
    have hlt : b < s.heap.objs.size := Heap.lt_size q
    rw [hh2]
    refine Heap.get?_push_of_some _ ?_
    rw [Heap.get?_update_ne _ _ _ _ (Nat.ne_of_lt hlt)]
    exact Heap.get?_push_of_some _ q
  refine Calls.call_function_entry kind_sorted plain_sorted entry_sorted (args_sorted1 _) ?_
  unfold Builtin.«sorted»
  refine wpAny_bind (m := checkCount "sorted" 1 1 _) (wpAny_pure (wpAny_bind (collect_list hl (wpAny_bind (wpAny_newList ?_ (by rw [sizeLine_eq]; omega))) (by rw [sizeLine_eq]; omega))))
  show wpAny _ _ _ _ _ { s with heap := ((s.heap.push (seqObj "list" #[] 0)).update s.heap.objs.size (Obj.mapSeq (· ++ vs.toArray))).push _ }
  rw [hsz, ← hh2]
  refine wpAny_bind (wpAny_holding (wpAny_call_entry slot_list_sort ⟨_, g2, rfl⟩ entry_list_sort (lsort_tups (s := { s with heap := h2' }) g2 (hK.keep keep) (fun i hi z => ?_) h2 h64 fun p a1 a2 => ⟨_, rfl, wpAny_pure ⟨_, rfl, ?_⟩⟩) (args_list_sort _)))
  · obtain ⟨ad, o, xs, k, t1, t2, t3, rest, q1, q2, q3⟩ := hK.tup i hi
    rw [z] at q1
    cases q1
    exact absurd (Heap.lt_size q2) (Nat.not_lt.mpr (Nat.le_succ _))
  · have := h p a1 a2
    unfold sortedAll at this
    rw [← hh2] at this
    exact this
end
end L2.So
namespace L2
open PySem PySem.Spec PyProof.Rows
/-- tuples of three numbers and more: the address, the numbers -/
abbrev Tz := Addr × Int × Int × Int
/-- the tuple's rank -/
def rkT (z : Tz) : Int := (z.2.1 * 4000000 + z.2.2.1) * 64 + z.2.2.2
def TzIn (z : Tz) : Prop := (0 ≤ z.2.1 ∧ z.2.1 < 4000000) ∧ (0 ≤ z.2.2.1 ∧ z.2.2.1 < 4000000) ∧ 0 ≤ z.2.2.2 ∧ z.2.2.2 < 64
theorem vals_refs : ∀ as : List Addr, Vals (as.map V.ref) (as.map Value.ref)
  | [] => .nil
  | _ :: r => .cons rfl (vals_refs r)
theorem vals_refs' : ∀ {zs : List Tz} {its : List Value}, Vals (zs.map fun z => V.ref z.1) its → its = zs.map fun z => Value.ref z.1
  | [], _, h => by cases h; rfl
  | z :: zs, _, h => by
    cases h with
    | cons r t =>
      rw [vals_refs' t]
      rw [show _ = Value.ref z.1 from r]
      rfl
theorem vals_cons' {x : V} {xs : List V} {its : List Value} (h : Vals (x :: xs) its) : ∃ u us, its = u :: us ∧ RelV x u ∧ Vals xs us := by
  cases h with
  | cons r t => exact ⟨_, _, rfl, r, t⟩
theorem getD_mem' {α : Type} {l : List α} {i : Nat} {d : α} (h : i < l.length) : l.getD i d ∈ l := by
  rw [List.getD_eq_getElem?_getD, List.getElem?_eq_getElem h]
  exact List.getElem_mem h
theorem range_getD {α : Type} (d : α) (l : List α) : (List.range l.length).map (fun i => l.getD i d) = l := by
  refine List.ext_getElem (by simp) fun i h1 h2 => ?_
  simp [List.getD_eq_getElem?_getD, List.getElem?_eq_getElem h2]
theorem call_sortedT {X : Cx} : CallR X (.builtin "sorted") (fun xs H Q => ∃ (p : Addr) (zs : List Tz), xs = [.ref p] ∧ H p = some (.lst (zs.map fun z => V.ref z.1)) ∧ 2 ≤ zs.length ∧ zs.length < 64 ∧ (∀ z ∈ zs, TzIn z ∧ ∃ r, H z.1 = some (.tup (.int z.2.1 :: .int z.2.2.1 :: .int z.2.2.2 :: r))) ∧ zs.Pairwise (fun x y => x.2.2.2 ≠ y.2.2.2) ∧ ∀ ws : List Tz, ws.Perm zs → ws.Pairwise (fun x y => x.2.1 ≤ y.2.1 ∧ rkT x < rkT y) → New H (.lst (ws.map fun z => V.ref z.1)) Q) := by
  intro pins s σ H xs us Q I r h
  obtain ⟨p, zs, rfl, hp, h2, h64, hz, hn, q⟩ := h
  obtain ⟨u, rfl, ru⟩ := vals1 r
  obtain rfl : u = Value.ref p := ru
  obtain ⟨hln, its, n, rv, pl⟩ := I.hok _ _ hp
  have ei : its = zs.map fun z => Value.ref z.1 := by
    have := vals_refs' rv
    exact this
  subst ei
  have hl : (zs.map fun z => Value.ref z.1).length = zs.length := List.length_map ..
  have gz : ∀ i, i < zs.length → (zs.map fun z => Value.ref z.1).getD i Value.none = Value.ref (zs.getD i (0, 0, 0, 0)).1 := fun i hi => by
    rw [List.getD_eq_getElem?_getD, List.getElem?_map, List.getD_eq_getElem?_getD, List.getElem?_eq_getElem hi]
    rfl
  have inb : ∀ i, i < zs.length → TzIn (zs.getD i (0, 0, 0, 0)) := fun i hi => (hz _ (getD_mem' hi)).1
  have hK : So.Keys s.heap (zs.map fun z => Value.ref z.1) (fun i => ((zs.getD i (0, 0, 0, 0)).2.1 * 4000000 + (zs.getD i (0, 0, 0, 0)).2.2.1) * 64 + (zs.getD i (0, 0, 0, 0)).2.2.2) (fun i => (zs.getD i (0, 0, 0, 0)).2.1) (fun i => (zs.getD i (0, 0, 0, 0)).2.2.1) (fun i => (zs.getD i (0, 0, 0, 0)).2.2.2) := by
    refine ⟨fun i hi => ?_, fun i j hi hj hij => ?_, fun i j hi hj => ?_⟩
    · rw [hl] at hi
      rw [gz i hi]
      obtain ⟨_, rest, e⟩ := hz _ (getD_mem' (d := (0, 0, 0, 0)) hi)
      obtain ⟨_, ts, tv, o, e1, e2, k, e3⟩ := I.hok _ _ e
      obtain ⟨x1, ts1, rfl, ⟨t1, rfl⟩, tv1⟩ := vals_cons' tv
      obtain ⟨x2, ts2, rfl, ⟨t2, rfl⟩, tv2⟩ := vals_cons' tv1
      obtain ⟨x3, ts3, rfl, ⟨t3, rfl⟩, tv3⟩ := vals_cons' tv2
      exact ⟨_, o, _, k, t1, t2, t3, ts3, rfl, e1, e2, e3, rfl⟩
    · rw [hl] at hi hj
      show (zs.getD i (0, 0, 0, 0)).2.2.2 ≠ (zs.getD j (0, 0, 0, 0)).2.2.2
      rw [List.getD_eq_getElem?_getD, List.getD_eq_getElem?_getD, List.getElem?_eq_getElem hi, List.getElem?_eq_getElem hj]
      rcases Nat.lt_or_gt_of_ne hij with z | z
      · exact List.pairwise_iff_getElem.mp hn i j hi hj z
      · exact (List.pairwise_iff_getElem.mp hn j i hj hi z).symm
    · rw [hl] at hi hj
      have b1 := inb i hi
      have b2 := inb j hj
      unfold TzIn at b1 b2
      generalize zs.getD i (0, 0, 0, 0) = u at b1 ⊢
      generalize zs.getD j (0, 0, 0, 0) = v at b2 ⊢
      omega
  refine So.sorted_tups ⟨_, pl, rfl, _, rfl⟩ hK (by rw [hl]; exact h2) (by rw [hl]; exact h64) fun pm a1 a2 => ?_
  rw [hl] at a1 a2
  obtain ⟨ws, hw⟩ : ∃ ws, ws = pm.toList.map fun i => zs.getD i (0, 0, 0, 0) := ⟨_, rfl⟩
  have pz : pm.toList.length = zs.length := by rw [Array.length_toList, a1.size]
  have inp : ∀ i ∈ pm.toList, i < zs.length := fun i hi => by
    have := a1.toList.mem_iff.mp hi
    simpa using this
  have ew : (pm.toList.map fun i => (zs.map fun z => Value.ref z.1).getD i Value.none) = ws.map fun z => Value.ref z.1 := by
    rw [hw, List.map_map]
    exact List.map_congr_left fun i hi => gz i (inp i hi)
  rw [ew]
  have wp : ws.Perm zs := by
    have := (a1.toList.map fun i => zs.getD i (0, 0, 0, 0))
    rw [← hw] at this
    rw [show (List.range zs.length).toArray.toList = List.range zs.length from rfl, range_getD] at this
    exact this
  have wl : ws.length = zs.length := wp.length_eq
  have wo : ws.Pairwise (fun x y => x.2.1 ≤ y.2.1 ∧ rkT x < rkT y) := by
    rw [hw, List.pairwise_map, List.pairwise_iff_getElem]
    intro i j hi hj hij
    have e := a2 i j hij (by omega)
    unfold So.fv at e
    have g : ∀ (k : Nat) (hk : k < pm.toList.length), pm.getD k 0 = pm.toList[k] := fun k hk => by
      have : k < pm.size := by simpa using hk
      simp [Array.getD, this]
    rw [g i hi, g j hj] at e
    dsimp only at e
    have b1 := inb _ (inp _ (List.getElem_mem hi))
    have b2 := inb _ (inp _ (List.getElem_mem hj))
    unfold TzIn at b1 b2
    unfold rkT
    generalize zs.getD pm.toList[i] (0, 0, 0, 0) = u at e b1 ⊢
    generalize zs.getD pm.toList[j] (0, 0, 0, 0) = v at e b2 ⊢
    omega
  obtain ⟨ep, at_⟩ := sortedAll_at s.heap (zs.map fun z => Value.ref z.1) (List.toArray (ws.map fun z => Value.ref z.1))
  have hf : H (s.heap.objs.size + 1) = none := I.hok.fresh (Nat.le_succ _)
  refine ⟨.ref (s.heap.objs.size + 1), upd H (s.heap.objs.size + 1) (.lst (ws.map fun z => V.ref z.1)), I.laid (t' := s.toks) (fun b u e => sortedAll_old e) (Nat.le_succ _) ?_, rfl, (q ws wp wo).at hf⟩
  refine ⟨by rw [List.length_map, wl]; rw [List.length_map] at hln; exact hln, ws.map fun z => Value.ref z.1, ep, ?_, at_⟩
  have := vals_refs (ws.map (·.1))
  rw [List.map_map, List.map_map] at this
  exact this
end L2
/-! ## a dict of texts that the module's top wrote, read by a text -/
namespace L2
open PySem PySem.Spec PyProof.Rows
/-- the entries of a dict of texts, as the top laid them -/
def DcOk (w : World) : List DictEntry → List (Str × V) → Prop
  | [], [] => True
  | e :: es, kv :: r => (∃ t, e.key = .str kv.1 t) ∧ e.hash = PyData.keyHash w.params kv.1 ∧ RelV kv.2 e.val ∧ DcOk w es r
  | _, _ => False
theorem dc_of (P : Program) {w : World} : ∀ {es : List DictEntry} {kvs : List (Str × V)}, DcOk w es kvs → ∃ vs : List (Key × Value), vs.map (·.1) = kvs.map (fun kv => Sum.inr kv.1) ∧ (∀ e ∈ es, ∃ k, (mixKind P w).is k e.key = true ∧ e.hash = (mixKind P w).hash k) ∧ Pairs (mixKind P w) es vs ∧ ∀ k v, kvs.lookup k = some v → ∃ u, valueAt vs (Sum.inr k) = some u ∧ RelV v u
  | [], [], _ => ⟨[], rfl, (fun _ h => nomatch h), .nil, (fun _ _ h => nomatch h)⟩
  | e :: es, kv :: r, h => by
    obtain ⟨⟨t, h1⟩, h2, h3, h4⟩ := h
    obtain ⟨vs, a1, a2, a3, a4⟩ := dc_of P h4
    have ki : (mixKind P w).is (Sum.inr kv.1) e.key = true := by rw [h1]; exact kV_is (k := Sum.inr kv.1) ⟨t, rfl⟩
    refine ⟨(Sum.inr kv.1, e.val) :: vs, by rw [List.map_cons, List.map_cons, a1], fun x hx => ?_, .cons ki rfl a3, fun k v hk => ?_⟩
    · rcases List.mem_cons.mp hx with rfl | hx
      · exact ⟨Sum.inr kv.1, ki, h2⟩
      · exact a2 x hx
    · obtain ⟨kn, kd⟩ := kv
      rw [List.lookup_cons] at hk
      by_cases z : k = kn
      · subst z
        rw [beq_self_eq_true] at hk
        cases hk
        exact ⟨e.val, by unfold valueAt; rw [List.find?_cons_of_pos (by simp)]; rfl, h3⟩
      · rw [beq_false_of_ne z] at hk
        obtain ⟨u, b1, b2⟩ := a4 k v hk
        refine ⟨u, ?_, b2⟩
        unfold valueAt at b1 ⊢
        rw [List.find?_cons_of_neg (by simp only [decide_eq_true_eq]; exact fun q => z (Sum.inr.inj q).symm)]
        exact b1
  | [], _ :: _, h => h.elim
  | _ :: _, [], h => h.elim
def tDc (kvs : List (Str × V)) (ty : TE) : TE := fun σ H Q => ty σ H fun y H1 => ∃ k v, y = .str k ∧ kvs.lookup k = some v ∧ Q v H1
/-- the top's dict -/
def DcAt (w : World) (K : PySem.W.Frag) (mg : Str → Option Value) (x : Str) (kvs : List (Str × V)) : Prop := ∃ (a : Addr) (es : Array DictEntry) (ep : Nat), mg x = some (.ref a) ∧ K.lookup a = some ⟨.type "dict", none, .dict es ep, #[]⟩ ∧ DcOk w es.toList kvs ∧ (kvs.map (·.1)).Nodup
theorem pe_dcget {X : Cx} {x : Str} {i : Expr} {ty : TE} {kvs : List (Str × V)} {p pos : Pos} (hg : Gl X x) (hc : DcAt X.w X.K X.mg x kvs) (hi : PE X i ty) (hs : NoSl i) (hd : (x == ("__debug__" : Str)) = false := by decide) : PE X (.Subscript (.Name x p) i pos) (tDc kvs ty) := by
  obtain ⟨a, es, ep, hm, hl, he, hn⟩ := hc
  intro pins s σ H Q I h
  refine subD_of PySem.F.slot_dict_getitem.lookup hs (ld_glob I hg hm (thn (hi pins s σ H _ I h) fun iv s2 ⟨y, H2, I2, ry, k, v, ey, hk, q2⟩ => ?_) hd)
  subst ey
  have ha := I2.kIn a _ hl
  obtain ⟨vs, a1, a2, a3, a4⟩ := dc_of X.prog he
  obtain ⟨u, b1, b2⟩ := a4 k v hk
  have nd : (vs.map (·.1)).Nodup := by
    rw [a1, show (kvs.map fun kv => (Sum.inr kv.1 : Key)) = (kvs.map (·.1)).map Sum.inr by rw [List.map_map]; rfl]
    exact hn.map _ fun _ _ h q => h (Sum.inr.inj q)
  have dd : s2.heap.DictOf (mixKind X.prog X.w) a vs := ⟨_, es, ep, ha, ⟨rfl, rfl, rfl⟩, rfl, fun e he => a2 e (Array.mem_toList_iff.mpr he), a3, nd⟩
  exact ⟨dd.typeIs, wpAny_getItem_of (kV_is (k := Sum.inr k) ry) dd.mapOf b1 ⟨v, H2, I2.tok _, b2, q2⟩⟩
end L2

/-! ## sorted() of any number of such tuples -/
namespace L2.So
open PySem PySem.W PySem.Calls PyProof.Rows
section
variable {prog : Program} {w : World} {A : Around} {E : Value → Shared → Prop} {s : Shared} {vs : List Value}
theorem lsort_short {a : Addr} {n : Nat} {P : PySem.Fin → Shared → Prop} (ho : s.heap.get? a = some (seqObj "list" vs.toArray n)) (h2 : vs.length < 2) (h : P (.done (.ret .none)) { s with heap := sortedHeap s.heap a vs vs.toArray }) : wpAny (model prog w) A (Builtin.«list.sort» ⟨[.ref a], []⟩) P E s := by
  obtain ⟨e1, g1⟩ : ∃ e1, (s.heap.update a (Obj.mapSeq fun _ => (#[] : Array Value))).get? a = some (seqObj "list" #[] e1) := ⟨_, get?_update_seq ho fun _ => #[]⟩
  obtain ⟨h3, hh3⟩ : ∃ h3, h3 = ((s.heap.update a (Obj.mapSeq fun _ => (#[] : Array Value))).push (seqObj "tuple" vs.toArray 0)).push (seqObj "list" #[] 0) := ⟨_, rfl⟩
  have g3 : h3.get? a = some (seqObj "list" #[] e1) := by rw [hh3]; exact Heap.get?_push_of_some _ (Heap.get?_push_of_some _ g1)
  rw [list_sort_plain]
  refine wpAny_bind (listItems_at ho rfl (wpAny_bind (listUpdate_at ho rfl ?_ (by rw [List.size_toArray, sizeLine_eq]; omega) (Nat.zero_le _))))
  refine wpAny_bind (seqEpoch_at g1 rfl (wpAny_bind (wpAny_newTuple ?_ (by show vs.length ≤ _; rw [sizeLine_eq]; omega))))
  refine wpAny_bind (wpAny_newList (wpAny_holding ?_) (Nat.zero_le _))
  show wpAny (model prog w) A _ P E { s with heap := ((s.heap.update a (Obj.mapSeq fun _ => #[])).push (seqObj "tuple" vs.toArray 0)).push (seqObj "list" #[] 0) }
  rw [← hh3]
  dsimp only
  have n2 : vs.toArray.size < 2 := by rw [List.size_toArray]; omega
  rw [if_pos n2, if_pos n2]
  refine wpAny_bind (wpAny_pure ?_)
  rw [StateT.run_pure]
  refine wpAny_bind (wpAny_pure ?_)
  dsimp only
  have eo : (arrOf (SortSt.mk' general' (vs.toArray.zip vs.toArray) #[] 7 none)).map (·.2) = vs.toArray := by
    show (vs.toArray.zip vs.toArray).map (·.2) = vs.toArray
    rw [Array.map_snd_zip (Nat.le_refl _)]
  rw [eo]
  refine wpAny_bind (seqEpoch_at g3 rfl (wpAny_bind (listUpdate_at g3 rfl ?_ (Nat.zero_le _) (by rw [List.size_toArray, sizeLine_eq]; omega))))
  simp only [bne_self_eq_false, Bool.false_eq_true, if_false]
  refine wpAny_pure ?_
  unfold sortedHeap at h
  rw [← hh3] at h
  exact h
theorem sorted_short {l : Addr} {Q : Value → Shared → Prop} (hl : s.heap.IsList l vs.toArray) (h2 : vs.length < 2) (h : Q (.ref (s.heap.objs.size + 1)) { s with heap := sortedAll s.heap vs vs.toArray }) : wpAny (model prog w) A (call (.builtin "sorted") [.ref l]) Q E s := by
  obtain ⟨h2', hh2⟩ : ∃ h2', h2' = ((s.heap.push (seqObj "list" #[] 0)).update s.heap.objs.size (Obj.mapSeq (· ++ vs.toArray))).push (seqObj "list" vs.toArray 0) := ⟨_, rfl⟩
  have hsz : ((s.heap.push (seqObj "list" #[] 0)).update s.heap.objs.size (Obj.mapSeq (· ++ vs.toArray))).objs.size = s.heap.objs.size + 1 := by rw [Heap.size_update]; exact size_push' ..
  have g2 : h2'.get? (s.heap.objs.size + 1) = some (seqObj "list" vs.toArray 0) := by rw [hh2, ← hsz]; exact Heap.get?_push_size _ rfl
  refine Calls.call_function_entry kind_sorted plain_sorted entry_sorted (args_sorted1 _) ?_
  unfold Builtin.«sorted»
  refine wpAny_bind (m := checkCount "sorted" 1 1 _) (wpAny_pure (wpAny_bind (collect_list hl (wpAny_bind (wpAny_newList ?_ (by rw [sizeLine_eq]; omega))) (by rw [sizeLine_eq]; omega))))
  show wpAny _ _ _ _ _ { s with heap := ((s.heap.push (seqObj "list" #[] 0)).update s.heap.objs.size (Obj.mapSeq (· ++ vs.toArray))).push _ }
  rw [hsz, ← hh2]
  refine wpAny_bind (wpAny_holding (wpAny_call_entry slot_list_sort ⟨_, g2, rfl⟩ entry_list_sort (lsort_short (s := { s with heap := h2' }) g2 h2 ⟨_, rfl, wpAny_pure ⟨_, rfl, ?_⟩⟩) (args_list_sort _)))
  unfold sortedAll at h
  rw [← hh2] at h
  exact h
end
end L2.So
namespace L2
open PySem PySem.Spec PyProof.Rows
theorem call_sortedA {X : Cx} : CallR X (.builtin "sorted") (fun xs H Q => ∃ (p : Addr) (zs : List Tz), xs = [.ref p] ∧ H p = some (.lst (zs.map fun z => V.ref z.1)) ∧ zs.length < 64 ∧ (∀ z ∈ zs, TzIn z ∧ ∃ r, H z.1 = some (.tup (.int z.2.1 :: .int z.2.2.1 :: .int z.2.2.2 :: r))) ∧ zs.Pairwise (fun x y => x.2.2.2 ≠ y.2.2.2) ∧ ∀ ws : List Tz, ws.Perm zs → ws.Pairwise (fun x y => x.2.1 ≤ y.2.1 ∧ rkT x < rkT y) → New H (.lst (ws.map fun z => V.ref z.1)) Q) := by
  intro pins s σ H xs us Q I r h
  obtain ⟨p, zs, rfl, hp, h64, hz, hn, q⟩ := h
  by_cases h2 : 2 ≤ zs.length
  · exact call_sortedT pins s σ H _ us Q I r ⟨p, zs, rfl, hp, h2, h64, hz, hn, q⟩
  obtain ⟨u, rfl, ru⟩ := vals1 r
  obtain rfl : u = Value.ref p := ru
  obtain ⟨hln, its, n, rv, pl⟩ := I.hok _ _ hp
  have ei : its = zs.map fun z => Value.ref z.1 := vals_refs' rv
  subst ei
  refine So.sorted_short ⟨_, pl, rfl, _, rfl⟩ (by rw [List.length_map]; omega) ?_
  obtain ⟨ep, at_⟩ := sortedAll_at s.heap (zs.map fun z => Value.ref z.1) (List.toArray (zs.map fun z => Value.ref z.1))
  have hf : H (s.heap.objs.size + 1) = none := I.hok.fresh (Nat.le_succ _)
  have so : zs.Pairwise (fun x y => x.2.1 ≤ y.2.1 ∧ rkT x < rkT y) := by
    match zs, h2 with
    | [], _ => exact .nil
    | [z], _ => exact List.pairwise_singleton ..
    | _ :: _ :: r, h => exact absurd (by rw [List.length_cons, List.length_cons]; omega) h
  exact ⟨.ref (s.heap.objs.size + 1), upd H (s.heap.objs.size + 1) (.lst (zs.map fun z => V.ref z.1)), I.laid (t' := s.toks) (fun b u e => sortedAll_old e) (Nat.le_succ _) ⟨hln, zs.map fun z => Value.ref z.1, ep, rv, at_⟩, rfl, (q zs (.refl _) so).at hf⟩
end L2

/-! ## tuples of three numbers, the one less than the other -/
namespace L2
open PySem PySem.Spec PyProof.Rows
section
variable {prog : Program} {w : World} {A : Around} {E : Value → Shared → Prop} {s : Shared}
end
end L2

/-! ## sorted() of a list of numbers -/
namespace L2
open PySem PySem.Spec PyProof.Rows
theorem vals_intsAre : ∀ {zs : List Int} {us : List Value}, Vals (zs.map V.int) us → IntsAre us zs
  | [], [], _ => .nil
  | _ :: _, _ :: _, .cons ⟨_, e⟩ t => by subst e; exact .cons _ _ (vals_intsAre t)
theorem intsAre_vals : ∀ {us : List Value} {zs : List Int}, IntsAre us zs → Vals (zs.map V.int) us
  | [], [], _ => .nil
  | _ :: _, _ :: _, h => by
    cases h with
    | cons a b c => exact .cons ⟨_, rfl⟩ (intsAre_vals (by assumption))
theorem call_sortedI {X : Cx} : CallR X (.builtin "sorted") (fun xs H Q => ∃ (p : Addr) (zs : List Int), xs = [.ref p] ∧ H p = some (.lst (zs.map V.int)) ∧ zs.length < 64 ∧ ∀ ws : List Int, ws.Perm zs → ws.Pairwise (· ≤ ·) → New H (.lst (ws.map V.int)) Q) := by
  intro pins s σ H xs us Q I r h
  obtain ⟨p, zs, rfl, hp, h64, q⟩ := h
  obtain ⟨u, rfl, ru⟩ := vals1 r
  obtain rfl : u = Value.ref p := ru
  obtain ⟨hln, its, n, rv, pl⟩ := I.hok _ _ hp
  have il : its.length = zs.length := by rw [← rv.length, List.length_map]
  refine sorted_ints ⟨_, pl, rfl, _, rfl⟩ (vals_intsAre rv) (by rw [il]; exact h64) fun out ns' a1 a2 a3 => ?_
  obtain ⟨ep, at_⟩ := sortedAll_at s.heap its out
  have hf : H (s.heap.objs.size + 1) = none := I.hok.fresh (Nat.le_succ _)
  refine ⟨.ref (s.heap.objs.size + 1), upd H (s.heap.objs.size + 1) (.lst (ns'.map V.int)), I.laid (t' := s.toks) (fun b u e => sortedAll_old e) (Nat.le_succ _) ?_, rfl, (q ns' a2 a3).at hf⟩
  exact ⟨by rw [List.length_map, a2.length_eq]; rw [List.length_map] at hln; exact hln, out.toList, ep, intsAre_vals a1, by rw [Array.toArray_toList]; exact at_⟩
theorem call_isinstK {X : Cx} {K : PySem.W.Frag} (hK : X.K = K) : CallR X (.builtin "isinstance") (fun xs H Q => ∃ x c t cv b, xs = [x, c] ∧ TyX K H x t ∧ RelV c cv ∧ PySem.W.kitOne K t cv = some b ∧ Q (.bl b) H) := by
  subst hK
  exact call_isinst
end L2

namespace Cal
/-- 1 in a year that has a 29 February, else 0 -/
def lp (y : Int) : Int := if y % 4 = 0 ∧ (y % 100 ≠ 0 ∨ y % 400 = 0) then 1 else 0
def dim (y m : Int) : Int := if m = 2 then 28 + lp y else if m = 4 ∨ m = 6 ∨ m = 9 ∨ m = 11 then 30 else 31
def ahead (y : Int) : Int := (y - 1) * 365 + (y - 1) / 4 - (y - 1) / 100 + (y - 1) / 400
/-- the days of a year ahead of a month's first -/
def cum (y m : Int) : Int :=
  if m ≤ 1 then 0 else if m = 2 then 31 else if m = 3 then 59 + lp y else if m = 4 then 90 + lp y else if m = 5 then 120 + lp y
  else if m = 6 then 151 + lp y else if m = 7 then 181 + lp y else if m = 8 then 212 + lp y else if m = 9 then 243 + lp y
  else if m = 10 then 273 + lp y else if m = 11 then 304 + lp y else if m = 12 then 334 + lp y else 365 + lp y
def num (y m d : Int) : Int := ahead y + cum y m + d - 1
def Valid (y m d : Int) : Prop := 1 ≤ y ∧ y ≤ 9999 ∧ 1 ≤ m ∧ m ≤ 12 ∧ 1 ≤ d ∧ d ≤ dim y m
theorem lp_01 (y : Int) : 0 ≤ lp y ∧ lp y ≤ 1 := by unfold lp; split <;> decide
theorem dim_bounds (y m : Int) : 28 ≤ dim y m ∧ dim y m ≤ 31 := by
  have := lp_01 y
  unfold dim
  repeat' split
  all_goals omega
theorem cum_one (y : Int) : cum y 1 = 0 := rfl
theorem cum_succ {y m : Int} (h1 : 1 ≤ m) (h2 : m ≤ 12) : cum y (m + 1) = cum y m + dim y m := by
  have q : m = 1 ∨ m = 2 ∨ m = 3 ∨ m = 4 ∨ m = 5 ∨ m = 6 ∨ m = 7 ∨ m = 8 ∨ m = 9 ∨ m = 10 ∨ m = 11 ∨ m = 12 := by omega
  rcases q with rfl | rfl | rfl | rfl | rfl | rfl | rfl | rfl | rfl | rfl | rfl | rfl <;> simp [cum, dim] <;> omega
theorem cum_13 (y : Int) : cum y 13 = 365 + lp y := by simp [cum]
theorem cum_nonneg (y m : Int) : 0 ≤ cum y m := by
  have l := lp_01 y
  by_cases c : m ≤ 1
  · unfold cum; rw [if_pos c]; exact Int.le_refl 0
  · by_cases c2 : m ≤ 12
    · have q : m = 2 ∨ m = 3 ∨ m = 4 ∨ m = 5 ∨ m = 6 ∨ m = 7 ∨ m = 8 ∨ m = 9 ∨ m = 10 ∨ m = 11 ∨ m = 12 := by omega
      rcases q with rfl | rfl | rfl | rfl | rfl | rfl | rfl | rfl | rfl | rfl | rfl <;> simp [cum] <;> omega
    · have e : cum y m = 365 + lp y := by
        unfold cum
        rw [if_neg c, if_neg (by omega), if_neg (by omega), if_neg (by omega), if_neg (by omega), if_neg (by omega), if_neg (by omega), if_neg (by omega), if_neg (by omega), if_neg (by omega), if_neg (by omega), if_neg (by omega)]
      omega
theorem ahead_succ (y : Int) : ahead (y + 1) = ahead y + 365 + lp y := by
  unfold ahead lp
  split <;> omega
theorem ahead_mono {y z : Int} (h : y < z) : ahead y + 365 + lp y ≤ ahead z := by
  rw [← ahead_succ]
  unfold ahead
  omega
/-- months ahead of a later one -/
theorem cum_up {y m : Int} (h1 : 1 ≤ m) : ∀ j : Nat, m + 1 + (j : Int) ≤ 13 → cum y (m + 1) ≤ cum y (m + 1 + (j : Int))
  | 0, _ => Int.le_of_eq (by rw [show m + 1 + ((0 : Nat) : Int) = m + 1 from Int.add_zero _])
  | j + 1, h => by
    have a := cum_up (y := y) h1 j (by omega)
    have b := cum_succ (y := y) (m := m + 1 + (j : Int)) (by omega) (by omega)
    have c := (dim_bounds y (m + 1 + (j : Int))).1
    rw [show m + 1 + ((j + 1 : Nat) : Int) = m + 1 + (j : Int) + 1 by omega, b]
    omega
theorem cum_mono {y m k : Int} (h1 : 1 ≤ m) (h : m < k) (h2 : k ≤ 13) : cum y m + dim y m ≤ cum y k := by
  rw [← cum_succ h1 (by omega)]
  have := cum_up (y := y) h1 (k - (m + 1)).toNat (by omega)
  rw [show m + 1 + ((k - (m + 1)).toNat : Int) = k by omega] at this
  exact this
theorem in_year {y m d : Int} (h : Valid y m d) : 0 ≤ cum y m + d - 1 ∧ cum y m + d ≤ 365 + lp y := by
  obtain ⟨_, _, h3, h4, h5, h6⟩ := h
  have a := cum_nonneg y m
  have b := cum_mono (y := y) h3 (show m < 13 by omega) (by omega)
  rw [cum_13] at b
  omega
theorem num_inj {y m d z k e : Int} (h : Valid y m d) (g : Valid z k e) (q : num y m d = num z k e) : y = z ∧ m = k ∧ d = e := by
  have a := in_year h
  have b := in_year g
  obtain ⟨_, _, h3, h4, h5, h6⟩ := h
  obtain ⟨_, _, g3, g4, g5, g6⟩ := g
  unfold num at q
  have yz : y = z := by
    rcases Int.lt_trichotomy y z with c | c | c
    · have := ahead_mono c; omega
    · exact c
    · have := ahead_mono c; omega
  subst yz
  have mk : m = k := by
    rcases Int.lt_trichotomy m k with c | c | c
    · have := cum_mono (y := y) h3 c (by omega); omega
    · exact c
    · have := cum_mono (y := y) g3 c (by omega); omega
  subst mk
  exact ⟨rfl, rfl, by omega⟩
theorem num_range {y m d : Int} (h : Valid y m d) : 0 ≤ num y m d ∧ num y m d ≤ 3652058 := by
  have a := in_year h
  obtain ⟨h1, h2, _⟩ := h
  have e1 : ahead 1 = 0 := by decide
  have e2 : ahead 10000 = 3652059 := by decide
  have b := ahead_mono (y := y) (z := 10000) (by omega)
  have c : ahead 1 ≤ ahead y := by unfold ahead; omega
  unfold num
  omega
theorem lp_in {R h f : Int} (f0 : 0 ≤ f) (f1 : f < 24) : lp (R * 400 + h * 100 + f * 4 + 3 + 1) = 1 := by
  unfold lp
  rw [if_pos]
  exact ⟨by omega, Or.inl (by omega)⟩
theorem lp_end (R : Int) : lp (R * 400 + 3 * 100 + 24 * 4 + 3 + 1) = 1 := by
  unfold lp
  rw [if_pos]
  exact ⟨by omega, Or.inr (by omega)⟩
/-- the year in which a day lies, as the program reckons it -/
def yearOf (n : Int) : Int :=
  let r := n % 146097
  let h := min (r / 36524) 3
  let r2 := r - h * 36524
  let c := r2 % 1461
  n / 146097 * 400 + h * 100 + r2 / 1461 * 4 + min (c / 365) 3 + 1
theorem yearOf_spec {n : Int} (h0 : 0 ≤ n) (h1 : n ≤ 3652058) : 1 ≤ yearOf n ∧ yearOf n ≤ 9999 ∧ ahead (yearOf n) ≤ n ∧ n < ahead (yearOf n) + 365 + lp (yearOf n) := by
  obtain ⟨R, eR⟩ : ∃ R, R = n / 146097 := ⟨_, rfl⟩
  obtain ⟨a, ea⟩ : ∃ a, a = n % 146097 := ⟨_, rfl⟩
  obtain ⟨h, eh⟩ : ∃ h, h = min (a / 36524) 3 := ⟨_, rfl⟩
  obtain ⟨b, eb⟩ : ∃ b, b = a - h * 36524 := ⟨_, rfl⟩
  obtain ⟨f, ef⟩ : ∃ f, f = b / 1461 := ⟨_, rfl⟩
  obtain ⟨c, ec⟩ : ∃ c, c = b % 1461 := ⟨_, rfl⟩
  obtain ⟨o, eo⟩ : ∃ o, o = min (c / 365) 3 := ⟨_, rfl⟩
  have ey : yearOf n = R * 400 + h * 100 + f * 4 + o + 1 := by
    unfold yearOf
    simp only [← ea, ← eR, ← eh, ← eb, ← ef, ← ec, ← eo]
  rw [ey]
  have b1 : 0 ≤ a ∧ a < 146097 ∧ n = 146097 * R + a := by omega
  have b2 : 0 ≤ h ∧ h ≤ 3 ∧ 0 ≤ b ∧ b ≤ 36524 ∧ (h < 3 → b < 36524) := by omega
  have b3 : 0 ≤ f ∧ f ≤ 24 ∧ 0 ≤ c ∧ c < 1461 ∧ b = 1461 * f + c := by omega
  have b4 : 0 ≤ o ∧ o ≤ 3 ∧ 365 * o ≤ c ∧ (o < 3 → c < 365 * o + 365) := by omega
  have b5 : 0 ≤ R ∧ R ≤ 24 := by omega
  clear eR ea eh ef ec eo ey
  have q4 : (R * 400 + h * 100 + f * 4 + o + 1 - 1) / 4 = 100 * R + 25 * h + f := by omega
  have q100 : (R * 400 + h * 100 + f * 4 + o + 1 - 1) / 100 = 4 * R + h := by omega
  have q400 : (R * 400 + h * 100 + f * 4 + o + 1 - 1) / 400 = R := by omega
  have eA : ahead (R * 400 + h * 100 + f * 4 + o + 1) = 146097 * R + 36524 * h + 1461 * f + 365 * o := by
    unfold ahead
    rw [q4, q100, q400]
    omega
  rw [eA]
  have l := lp_01 (R * 400 + h * 100 + f * 4 + o + 1)
  refine ⟨by omega, by omega, by omega, ?_⟩
  by_cases z : o < 3
  · omega
  · by_cases z2 : c < 1460
    · omega
    · obtain rfl : o = 3 := by omega
      have c0 : c = 1460 := by omega
      by_cases z3 : f < 24
      · rw [lp_in b3.1 z3]
        omega
      · obtain rfl : f = 24 := by omega
        obtain rfl : h = 3 := by omega
        rw [lp_end]
        omega
/-- the month and the day, from the rest within the year -/
theorem month_below {y r : Int} (h0 : 0 ≤ r) : ∀ k : Nat, k < 13 → r < cum y ((k : Int) + 1) → ∃ m, 1 ≤ m ∧ m ≤ 12 ∧ cum y m ≤ r ∧ r < cum y m + dim y m
  | 0, _, h => by
    have e : cum y (((0 : Nat) : Int) + 1) = 0 := rfl
    omega
  | k + 1, hk, h => by
    by_cases c : r < cum y ((k : Int) + 1)
    · exact month_below h0 k (by omega) c
    · have s := cum_succ (y := y) (m := (k : Int) + 1) (by omega) (by omega)
      have e : ((k + 1 : Nat) : Int) + 1 = (k : Int) + 1 + 1 := by omega
      rw [e, s] at h
      exact ⟨(k : Int) + 1, by omega, by omega, by omega, h⟩
theorem month_exists {y r : Int} (h0 : 0 ≤ r) (h1 : r < 365 + lp y) : ∃ m, 1 ≤ m ∧ m ≤ 12 ∧ cum y m ≤ r ∧ r < cum y m + dim y m :=
  month_below h0 12 (by decide) (by have e : cum y (((12 : Nat) : Int) + 1) = 365 + lp y := cum_13 y
                                    omega)
theorem date_exists {n : Int} (h0 : 0 ≤ n) (h1 : n ≤ 3652058) : ∃ y m d, Valid y m d ∧ num y m d = n := by
  obtain ⟨a, b, c, d⟩ := yearOf_spec h0 h1
  obtain ⟨m, m1, m2, m3, m4⟩ := month_exists (y := yearOf n) (r := n - ahead (yearOf n)) (by omega) (by omega)
  exact ⟨yearOf n, m, n - ahead (yearOf n) - cum (yearOf n) m + 1, ⟨a, b, m1, m2, by omega, by omega⟩, by unfold num; omega⟩
end Cal
namespace Cal
end Cal
namespace Cal
/-- so many months on: the month is there; its year, its month, its day -/
def MonOk (y m k : Int) : Prop := 1 ≤ (y * 12 + m - 1 + k) / 12 ∧ (y * 12 + m - 1 + k) / 12 ≤ 9999
def monY (y m k : Int) : Int := (y * 12 + m - 1 + k) / 12
def monM (y m k : Int) : Int := (y * 12 + m - 1 + k) % 12 + 1
def monD (y m d k : Int) : Int := if dim (monY y m k) (monM y m k) < d then dim (monY y m k) (monM y m k) else d
theorem mon_valid {y m d k : Int} (h : Valid y m d) (g : MonOk y m k) : Valid (monY y m k) (monM y m k) (monD y m d k) := by
  obtain ⟨_, _, _, _, h5, h6⟩ := h
  obtain ⟨g1, g2⟩ := g
  have b := dim_bounds (monY y m k) (monM y m k)
  refine ⟨g1, g2, by unfold monM; omega, by unfold monM; omega, ?_, ?_⟩
  · unfold monD; split <;> omega
  · unfold monD; split <;> omega
end Cal

namespace Cal
theorem num_lt {y m d z k e : Int} (h : Valid y m d) (g : Valid z k e) (q : y * 12 + m < z * 12 + k) : num y m d < num z k e := by
  have a := in_year h
  have b := in_year g
  obtain ⟨h1, h2, h3, h4, h5, h6⟩ := h
  obtain ⟨g1, g2, g3, g4, g5, g6⟩ := g
  unfold num
  by_cases c : y < z
  · have := ahead_mono c
    omega
  · obtain rfl : y = z := by omega
    have := cum_mono (y := y) h3 (show m < k by omega) (by omega)
    omega
theorem year_le {y m d : Int} (h : Valid y m d) (g : num y m d ≤ 3500000) : y ≤ 9600 := by
  have a := in_year h
  unfold num at g
  unfold ahead at g
  omega
theorem mon_ok {y m d k : Int} (h : Valid y m d) (g : num y m d ≤ 3500000) (k0 : 0 ≤ k) (k1 : k ≤ 720) : MonOk y m k := by
  have := year_le h g
  obtain ⟨h1, h2, h3, h4, h5, h6⟩ := h
  exact ⟨by omega, by omega⟩
open Classical in
/-- the day that is so many months on from a day -/
noncomputable def mon (n k : Int) : Int :=
  if h : ∃ p : Int × Int × Int, Valid p.1 p.2.1 p.2.2 ∧ num p.1 p.2.1 p.2.2 = n then
    num (monY (choose h).1 (choose h).2.1 k) (monM (choose h).1 (choose h).2.1 k) (monD (choose h).1 (choose h).2.1 (choose h).2.2 k) else 0
theorem mon_eq {y m d k : Int} (h : Valid y m d) : mon (num y m d) k = num (monY y m k) (monM y m k) (monD y m d k) := by
  have ex : ∃ p : Int × Int × Int, Valid p.1 p.2.1 p.2.2 ∧ num p.1 p.2.1 p.2.2 = num y m d := ⟨(y, m, d), h, rfl⟩
  unfold mon
  rw [dif_pos ex]
  obtain ⟨v, e⟩ := Classical.choose_spec ex
  obtain ⟨e1, e2, e3⟩ := num_inj v h e
  rw [e1, e2, e3]
theorem mon_zero {n : Int} (h0 : 0 ≤ n) (h1 : n ≤ 3652058) : mon n 0 = n := by
  obtain ⟨y, m, d, va, rfl⟩ := date_exists h0 h1
  rw [mon_eq va]
  obtain ⟨v1, v2, v3, v4, v5, v6⟩ := id va
  have e1 : monY y m 0 = y := by unfold monY; omega
  have e2 : monM y m 0 = m := by unfold monM; omega
  have e3 : monD y m d 0 = d := by unfold monD; rw [e1, e2, if_neg (by omega)]
  rw [e1, e2, e3]
theorem mon_valid' {n k : Int} (h0 : 0 ≤ n) (h1 : n ≤ 3500000) (k0 : 0 ≤ k) (k1 : k ≤ 720) : 0 ≤ mon n k ∧ mon n k ≤ 3652058 := by
  obtain ⟨y, m, d, va, rfl⟩ := date_exists h0 (by omega)
  rw [mon_eq va]
  exact num_range (mon_valid va (mon_ok va h1 k0 k1))
theorem mon_lt {n k j : Int} (h0 : 0 ≤ n) (h1 : n ≤ 3500000) (k0 : 0 ≤ k) (kj : k < j) (j1 : j ≤ 720) : mon n k < mon n j := by
  obtain ⟨y, m, d, va, rfl⟩ := date_exists h0 (by omega)
  rw [mon_eq va, mon_eq va]
  refine num_lt (mon_valid va (mon_ok va h1 k0 (by omega))) (mon_valid va (mon_ok va h1 (by omega) j1)) ?_
  unfold monY monM
  omega
/-- where span k begins: dy: a cycle of days, else of months -/
noncomputable def beg (f : Int) (dy : Bool) (c k : Int) : Int := if dy = true then f + k * c else mon f (k * c)
/-- a cycle's bounds -/
def CycOk (dy : Bool) (c : Int) : Prop := 1 ≤ c ∧ c ≤ if dy = true then 400 else 12
theorem beg_zero {f c : Int} {dy : Bool} (h0 : 0 ≤ f) (h1 : f ≤ 3500000) : beg f dy c 0 = f := by
  unfold beg
  rw [Int.zero_mul]
  split
  · omega
  · exact mon_zero h0 (by omega)
theorem mul_bound {c k : Int} (c0 : 1 ≤ c) (c1 : c ≤ 12) (k0 : 0 ≤ k) (k1 : k ≤ 60) : 0 ≤ k * c ∧ k * c ≤ 720 := by
  constructor
  · exact Int.mul_nonneg k0 (by omega)
  · have := Int.mul_le_mul k1 c1 (by omega) (by omega)
    omega
theorem beg_lt {f c k j : Int} {dy : Bool} (h0 : 0 ≤ f) (h1 : f ≤ 3500000) (hc : CycOk dy c) (k0 : 0 ≤ k) (kj : k < j) (j1 : j ≤ 60) : beg f dy c k < beg f dy c j := by
  obtain ⟨c0, c1⟩ := hc
  have m := Int.mul_lt_mul_of_pos_right kj (show 0 < c by omega)
  unfold beg
  cases dy with
  | true => rw [if_pos rfl, if_pos rfl]; omega
  | false =>
    rw [if_neg (by decide)] at c1
    rw [if_neg (by decide), if_neg (by decide)]
    exact mon_lt h0 h1 (mul_bound c0 c1 k0 (by omega)).1 m (mul_bound c0 c1 (by omega) j1).2
theorem beg_range {f c k : Int} {dy : Bool} (h0 : 0 ≤ f) (h1 : f ≤ 3500000) (hc : CycOk dy c) (k0 : 0 ≤ k) (k1 : k ≤ 60) : 0 ≤ beg f dy c k ∧ beg f dy c k ≤ 3652058 := by
  obtain ⟨c0, c1⟩ := hc
  unfold beg
  cases dy with
  | true =>
    rw [if_pos rfl] at c1
    rw [if_pos rfl]
    have a := Int.mul_nonneg k0 (show 0 ≤ c by omega)
    have b := Int.mul_le_mul k1 c1 (by omega) (by omega)
    omega
  | false =>
    rw [if_neg (by decide)] at c1
    rw [if_neg (by decide)]
    obtain ⟨m0, m1⟩ := mul_bound c0 c1 k0 k1
    exact mon_valid' h0 h1 m0 m1
theorem cyc_days {c : Int} (a : 1 ≤ c) (b : c ≤ 400) : CycOk true c := ⟨a, by rw [if_pos rfl]; exact b⟩
theorem cyc_months {c : Int} (a : 1 ≤ c) (b : c ≤ 12) : CycOk false c := ⟨a, by rw [if_neg (by decide)]; exact b⟩
theorem beg_le {f c k j : Int} {dy : Bool} (h0 : 0 ≤ f) (h1 : f ≤ 3500000) (hc : CycOk dy c) (k0 : 0 ≤ k) (kj : k ≤ j) (j1 : j ≤ 60) : beg f dy c k ≤ beg f dy c j := by
  by_cases e : k = j
  · rw [e]; exact Int.le_refl _
  · exact Int.le_of_lt (beg_lt h0 h1 hc k0 (by omega) j1)
theorem beg_ge {f c k : Int} {dy : Bool} (h0 : 0 ≤ f) (h1 : f ≤ 3500000) (hc : CycOk dy c) (k0 : 0 ≤ k) (k1 : k ≤ 60) : f ≤ beg f dy c k := by
  have := beg_le h0 h1 hc (Int.le_refl 0) k0 k1
  rw [beg_zero h0 h1] at this
  exact this
theorem beg_one {f c k j d : Int} {dy : Bool} (h0 : 0 ≤ f) (h1 : f ≤ 3500000) (hc : CycOk dy c) (k0 : 0 ≤ k) (k1 : k < 60) (j0 : 0 ≤ j) (j1 : j < 60) (a : beg f dy c k ≤ d) (b : d < beg f dy c (k + 1)) (a' : beg f dy c j ≤ d) (b' : d < beg f dy c (j + 1)) : k = j := by
  rcases Int.lt_trichotomy k j with q | q | q
  · have := beg_le (k := k + 1) (j := j) h0 h1 hc (by omega) (by omega) (by omega)
    omega
  · exact q
  · have := beg_le (k := j + 1) (j := k) h0 h1 hc (by omega) (by omega) (by omega)
    omega
end Cal

/-! ## the latest of the terms that count -/
namespace L2
open PySem
/-- a term: its sort, the day from which it counts, its rank, what it tells -/
abbrev Rt := Nat × Int × Int × D
def Bst (rs : List Rt) (day : Int) (kd : Nat) : Option Rt → Prop
  | none => ∀ t ∈ rs, t.1 = kd → day < t.2.1
  | some t => t ∈ rs ∧ t.1 = kd ∧ t.2.1 ≤ day ∧ ∀ u ∈ rs, u.1 = kd → u.2.1 ≤ day → u.2.2.1 ≤ t.2.2.1
section
variable {rs rs' : List Rt} {day : Int} {kd : Nat} {o o' : Option Rt} {r t : Rt}
theorem Bst.one (inj : ∀ t ∈ rs, ∀ u ∈ rs, t.2.2.1 = u.2.2.1 → t = u) (m : ∀ t, t ∈ rs' ↔ t ∈ rs) (h : Bst rs day kd o) (h' : Bst rs' day kd o') : o = o' := by
  match o, o', h, h' with
  | none, none, _, _ => rfl
  | none, some t, h, h' => have := h t ((m t).mp h'.1) h'.2.1; have := h'.2.2.1; omega
  | some t, none, h, h' => have := h' t ((m t).mpr h.1) h.2.1; have := h.2.2.1; omega
  | some t, some u, h, h' =>
    have a := h.2.2.2 u ((m u).mp h'.1) h'.2.1 h'.2.2.1
    have b := h'.2.2.2 t ((m t).mpr h.1) h.2.1 h.2.2.1
    rw [inj t h.1 u ((m u).mp h'.1) (by omega)]
theorem Bst.skip (h : Bst rs day kd o) (n : r.1 = kd → day < r.2.1) : Bst (rs ++ [r]) day kd o := by
  match o, h with
  | none, h =>
    intro t ht e
    rcases List.mem_append.mp ht with z | z
    · exact h t z e
    · rw [List.mem_singleton.mp z] at e ⊢; exact n e
  | some t, h =>
    refine ⟨List.mem_append_left _ h.1, h.2.1, h.2.2.1, fun u hu e l => ?_⟩
    rcases List.mem_append.mp hu with z | z
    · exact h.2.2.2 u z e l
    · rw [List.mem_singleton.mp z] at e l; have := n e; omega
theorem Bst.last (h : Bst rs day kd o) (e : r.1 = kd) (l : r.2.1 ≤ day) (b : ∀ t, o = some t → t.2.2.1 ≤ r.2.2.1) : Bst (rs ++ [r]) day kd (some r) := by
  refine ⟨List.mem_append_right _ List.mem_cons_self, e, l, fun u hu eu lu => ?_⟩
  rcases List.mem_append.mp hu with z | z
  · match o, h with
    | none, h => have := h u z eu; omega
    | some t, h =>
      have a := h.2.2.2 u z eu lu
      have := b t rfl
      omega
  · rw [List.mem_singleton.mp z]; exact Int.le_refl _
theorem Bst.stay (h : Bst rs day kd (some t)) (b : r.2.2.1 ≤ t.2.2.1) : Bst (rs ++ [r]) day kd (some t) := by
  refine ⟨List.mem_append_left _ h.1, h.2.1, h.2.2.1, fun u hu e l => ?_⟩
  rcases List.mem_append.mp hu with z | z
  · exact h.2.2.2 u z e l
  · rw [List.mem_singleton.mp z]; exact b
theorem Bst.more (h : Bst rs day kd o) (s : ∀ t ∈ rs, t ∈ rs') (n : ∀ t ∈ rs', t ∉ rs → day < t.2.1) : Bst rs' day kd o := by
  match o, h with
  | none, h =>
    intro t ht e
    by_cases z : t ∈ rs
    · exact h t z e
    · exact n t ht z
  | some t, h =>
    refine ⟨s t h.1, h.2.1, h.2.2.1, fun u hu e l => ?_⟩
    by_cases z : u ∈ rs
    · exact h.2.2.2 u z e l
    · have := n u hu z; omega
end
/-- what it comes to -/
def stV (o : Option Rt) (d : D) : D := (o.map fun t => t.2.2.2).getD d
def chK : Ch → Nat
  | .plan _ _ => 0
  | .seats _ _ => 1
  | _ => 2
def chDay : Ch → Int
  | .plan d _ => d
  | .seats d _ => d
  | .word _ d => d
  | _ => 0
def wordT : Nat → List Nat
  | 0 => [104, 101, 108, 100]
  | 1 => [111, 110]
  | _ => [111, 102, 102]
def chVal : Ch → D
  | .plan _ nm => .str nm
  | .seats _ n => .int n
  | .word w _ => .str (wordT w)
  | _ => .non
def isLast : Ch → Bool
  | .word w _ => decide (3 ≤ w)
  | _ => false
/-- the begin of the next span -/
noncomputable def nb (f : Int) (dy : Bool) (c d : Int) : Int := open Classical in if h : ∃ k : Int, 0 ≤ k ∧ k < 60 ∧ Cal.beg f dy c k ≤ d ∧ d < Cal.beg f dy c (k + 1) then Cal.beg f dy c (h.choose + 1) else 0
theorem nb_eq {f c d k : Int} {dy : Bool} (f0 : 0 ≤ f) (f1 : f ≤ 3500000) (hc : Cal.CycOk dy c) (k0 : 0 ≤ k) (k1 : k < 60) (a : Cal.beg f dy c k ≤ d) (b : d < Cal.beg f dy c (k + 1)) : nb f dy c d = Cal.beg f dy c (k + 1) := by
  unfold nb
  have h : ∃ k : Int, 0 ≤ k ∧ k < 60 ∧ Cal.beg f dy c k ≤ d ∧ d < Cal.beg f dy c (k + 1) := ⟨k, k0, k1, a, b⟩
  rw [dif_pos h]
  obtain ⟨x1, x2, x3, x4⟩ := h.choose_spec
  rw [Cal.beg_one f0 f1 hc x1 x2 k0 k1 x3 x4 a b]
noncomputable def cntF (f : Int) (dy : Bool) (c : Int) (ch : Ch) : Int := if isLast ch = true then nb f dy c (chDay ch) else chDay ch
/-- a term of these numbers -/
noncomputable def rtF (f : Int) (dy : Bool) (c : Int) (n : Int) (ch : Ch) : Rt := (chK ch, cntF f dy c ch, (cntF f dy c ch * 4000000 + chDay ch) * 64 + n, chVal ch)
end L2

/-! ## rows of days, each of one state -/
namespace L2
open PySem
section
variable {rs rs' : List Rt} {day d2 : Int} {kd : Nat} {o : Option Rt}
theorem Bst.mem (m : ∀ t, t ∈ rs' ↔ t ∈ rs) (h : Bst rs day kd o) : Bst rs' day kd o := by
  match o, h with
  | none, h => exact fun t ht => h t ((m t).mp ht)
  | some t, h => exact ⟨(m t).mpr h.1, h.2.1, h.2.2.1, fun u hu => h.2.2.2 u ((m u).mp hu)⟩
theorem Bst.on (h : Bst rs day kd o) (le : day ≤ d2) (n : ∀ t ∈ rs, t.2.1 ≤ day ∨ d2 < t.2.1) : Bst rs d2 kd o := by
  match o, h with
  | none, h => intro t ht e; have := h t ht e; rcases n t ht with z | z <;> omega
  | some t, h => exact ⟨h.1, h.2.1, by have := h.2.2.1; omega, fun u hu e l => h.2.2.2 u hu e (by rcases n u hu with z | z <;> omega)⟩
end
/-- a row: from, to, its state -/
abbrev Rw := Int × Int × List D
def Rws (G : Int → List D) : Int → List Rw → Int → Prop
  | b, [], e => b = e
  | b, x :: r, e => x.1 = b ∧ b < x.2.1 ∧ (∀ d, b ≤ d → d < x.2.1 → G d = x.2.2) ∧ (∀ y, r.head? = some y → x.2.2 ≠ y.2.2) ∧ Rws G x.2.1 r e
theorem Rws.le {G : Int → List D} : ∀ {xs : List Rw} {b e : Int}, Rws G b xs e → b ≤ e
  | [], _, _, h => Int.le_of_eq h
  | x :: r, b, e, h => by have := Rws.le h.2.2.2.2; have := h.2.1; omega
theorem Rws.snoc {G : Int → List D} {z : Rw} : ∀ {xs : List Rw} {b o : Int}, Rws G b xs o → z.1 = o → o < z.2.1 → (∀ d, o ≤ d → d < z.2.1 → G d = z.2.2) → (∀ x, xs.getLast? = some x → x.2.2 ≠ z.2.2) → Rws G b (xs ++ [z]) z.2.1
  | [], b, o, h, h1, h2, h3, _ => by
    obtain rfl : b = o := h
    exact ⟨h1, h2, h3, (fun _ h => nomatch h), rfl⟩
  | x :: r, b, o, h, h1, h2, h3, h4 => by
    refine ⟨h.1, h.2.1, h.2.2.1, fun y hy => ?_, Rws.snoc h.2.2.2.2 h1 h2 h3 fun y hy => h4 y ?_⟩
    · cases r with
      | nil => cases hy; exact h4 x rfl
      | cons y' r' => exact h.2.2.2.1 y hy
    · cases r with
      | nil => cases hy
      | cons a b => rw [List.getLast?_cons_cons]; exact hy
theorem Rws.cut {G : Int → List D} {x y : Rw} {r s : List Rw} {b e : Int} (h : Rws G b (x :: r) e) (g : Rws G b (y :: s) e) (st : x.2.2 = y.2.2) (z : x.2.1 < y.2.1) : False := by
  have g1 := Rws.le g.2.2.2.2
  have hx := h.2.2.2.2
  cases r with
  | nil => have : x.2.1 = e := hx; omega
  | cons w r' =>
    have n := h.2.2.2.1 w rfl
    have e1 := hx.2.2.1 x.2.1 (Int.le_refl _) hx.2.1
    have e2 := g.2.2.1 x.2.1 (by have := h.2.1; omega) z
    exact n (by rw [st, ← e2, e1])
theorem Rws.one {G : Int → List D} : ∀ {xs ys : List Rw} {b e : Int}, Rws G b xs e → Rws G b ys e → xs = ys
  | [], [], _, _, _, _ => rfl
  | [], y :: s, b, e, h, g => by have z : b = e := h; have := Rws.le g.2.2.2.2; have := g.2.1; omega
  | x :: r, [], b, e, h, g => by have z : b = e := g; have := Rws.le h.2.2.2.2; have := h.2.1; omega
  | (x0, x1, x2) :: r, (y0, y1, y2) :: s, b, e, h, g => by
    have st : x2 = y2 := (h.2.2.1 b (Int.le_refl _) h.2.1).symm.trans (g.2.2.1 b (Int.le_refl _) g.2.1)
    have en : x1 = y1 := by
      rcases Int.lt_trichotomy x1 y1 with z | z | z
      · exact (Rws.cut h g st z).elim
      · exact z
      · exact (Rws.cut g h st.symm z).elim
    have h0 : x0 = b := h.1
    have g0 : y0 = b := g.1
    subst st en h0 g0
    rw [Rws.one h.2.2.2.2 g.2.2.2.2]
theorem Rws.in {G : Int → List D} : ∀ {zs : List (Addr × Rw)} {b e : Int} {j : Nat} {z : Addr × Rw}, zs[j]? = some z → Rws G b (zs.map (·.2)) e → b ≤ z.2.1 ∧ z.2.1 < z.2.2.1 ∧ z.2.2.1 ≤ e
  | [], _, _, _, _, h, _ => by rw [List.getElem?_nil] at h; cases h
  | x :: r, b, e, 0, _, h, g => by
    cases h
    obtain ⟨h1, h2, _, _, h5⟩ := g
    have h1' : x.2.1 = b := h1
    have h2' : b < x.2.2.1 := h2
    exact ⟨by omega, by omega, Rws.le h5⟩
  | x :: r, b, e, j + 1, z, h, g => by
    obtain ⟨h1, h2, _, _, h5⟩ := g
    have h2' : b < x.2.2.1 := h2
    obtain ⟨i1, i2, i3⟩ := Rws.in (zs := r) (j := j) h h5
    have i1' : x.2.2.1 ≤ z.2.1 := i1
    exact ⟨by omega, i2, i3⟩
theorem Rws.next {G : Int → List D} : ∀ {xs : List Rw} {b e : Int} {j : Nat} {x y : Rw}, Rws G b xs e → xs[j]? = some x → xs[j + 1]? = some y → x.2.2 ≠ y.2.2
  | [], _, _, _, _, _, _, h, _ => by rw [List.getElem?_nil] at h; cases h
  | x :: r, b, e, 0, _, y, h, h1, h2 => by
    cases h1
    exact h.2.2.2.1 y (by rw [List.head?_eq_getElem?]; exact h2)
  | x :: r, b, e, j + 1, _, y, h, h1, h2 => Rws.next h.2.2.2.2 h1 h2
/-- a state's tree -/
def ScD (d : D) : Prop := d = .non ∨ (∃ i, d = .int i) ∨ ∃ cs, d = .str cs
theorem dp_sv {K : PySem.W.Frag} {H : Hp} {n : Nat} {d : D} (h : ScD d) : Dp K H n d (sv d) := by
  rcases h with rfl | ⟨i, rfl⟩ | ⟨cs, rfl⟩
  · exact Dp_non
  · exact Dp_int
  · exact Dp_str
def StD (d : List D) : Prop := ∃ d0 n wd, ScD d0 ∧ d = [d0, .int n, .str wd]
theorem StD.dp {K : PySem.W.Frag} {H : Hp} {n : Nat} {a : Addr} {d : List D} (h : StD d) (e : H a = some (.tup (d.map sv))) : Dp K H (n + 1) (.tup d) (.ref a) := by
  obtain ⟨d0, n, wd, h0, rfl⟩ := h
  exact Dp_tup (SqT.of e) ⟨dp_sv h0, Dp_int, Dp_str, trivial⟩
theorem sc_seq {d : D} (h : ScD d) : isSeq d = false := by rcases h with rfl | ⟨i, rfl⟩ | ⟨cs, rfl⟩ <;> rfl
theorem cmp_sc {d e : D} (h : ScD d) (g : ScD e) : cmpOk 0 d e := by
  unfold cmpOk
  exact ⟨sc_seq h, sc_seq g⟩
theorem StD.sc {d : List D} (h : StD d) : ∀ x ∈ d, ScD x := by
  obtain ⟨d0, n, wd, h0, rfl⟩ := h
  intro x hx
  simp only [List.mem_cons, List.not_mem_nil, or_false] at hx
  rcases hx with rfl | rfl | rfl
  · exact h0
  · exact .inr (.inl ⟨_, rfl⟩)
  · exact .inr (.inr ⟨_, rfl⟩)
theorem StD.cmp {d e : List D} (h : StD d) (g : StD e) : cmpOk 1 (.tup d) (.tup e) := by
  unfold cmpOk
  intro j x y hx hy
  exact cmp_sc (h.sc x (List.mem_of_getElem? hx)) (g.sc y (List.mem_of_getElem? hy))
theorem eqb_sc' {d e : D} (h : ScD d) (g : ScD e) : eqb 0 d e = true ↔ d = e := by
  rcases h with rfl | ⟨i, rfl⟩ | ⟨cs, rfl⟩ <;> rcases g with rfl | ⟨j, rfl⟩ | ⟨cs', rfl⟩ <;> unfold eqb <;> simp
theorem StD.eqb {d e : List D} (h : StD d) (g : StD e) : eqb 1 (.tup d) (.tup e) = true ↔ d = e := by
  obtain ⟨d0, n, wd, h0, rfl⟩ := h
  obtain ⟨e0, m, we, g0, rfl⟩ := g
  show (L2.eqb 0 d0 e0 && (L2.eqb 0 (.int n) (.int m) && (L2.eqb 0 (.str wd) (.str we) && true))) = true ↔ _
  rw [Bool.and_eq_true, Bool.and_eq_true, Bool.and_eq_true, eqb_sc' h0 g0, eqb_sc' (.inr (.inl ⟨_, rfl⟩)) (.inr (.inl ⟨_, rfl⟩)), eqb_sc' (.inr (.inr ⟨_, rfl⟩)) (.inr (.inr ⟨_, rfl⟩))]
  simp
/-- the rows as they lie -/
def RwAt (H : Hp) (z : Addr × Rw) : Prop := ∃ s, H z.1 = some (.tup [.int z.2.1, .int z.2.2.1, .ref s]) ∧ H s = some (.tup (z.2.2.2.map sv)) ∧ StD z.2.2.2
def RwsAt (H : Hp) (r : Addr) (zs : List (Addr × Rw)) : Prop := H r = some (.lst (zs.map fun z => V.ref z.1)) ∧ ∀ z ∈ zs, RwAt H z
theorem RwAt.same {H H' : Hp} {z : Addr × Rw} (h : RwAt H z) (s : Same H H') : RwAt H' z := let ⟨a, h1, h2, h3⟩ := h; ⟨a, s _ _ h1, s _ _ h2, h3⟩
theorem RwAt.put {H : Hp} {z : Addr × Rw} {l : Addr} {xs ys : List V} (h : RwAt H z) (e : H l = some (.lst xs)) : RwAt (upd H l (.lst ys)) z := by
  obtain ⟨a, h1, h2, h3⟩ := h
  refine ⟨a, ?_, ?_, h3⟩
  · rw [upd_ne (fun y => by rw [y, e] at h1; cases h1)]; exact h1
  · rw [upd_ne (fun y => by rw [y, e] at h2; cases h2)]; exact h2
theorem RwsAt.same {H H' : Hp} {r : Addr} {zs : List (Addr × Rw)} (h : RwsAt H r zs) (s : Same H H') : RwsAt H' r zs := ⟨s _ _ h.1, fun z hz => (h.2 z hz).same s⟩
theorem Same.none {H H' : Hp} {a : Addr} (s : Same H H') (h : H' a = none) : H a = none := by
  rcases hh : H a with _ | o
  · rfl
  · rw [s _ _ hh] at h; cases h
end L2

namespace K72
open PySem L2
seal L2.PE L2.PA L2.PS L2.PSs L2.PT L2.PW L2.PG L2.PGs L2.PI L2.PK L2.PO L2.PIf L2.PEt L2.PAt L2.PSt L2.PSst L2.PTt L2.PWt L2.PEm L2.PSm L2.PC
def top (i : Nat) : Stmt := PySem.Challenge.pw_paidspan_k72_what_moved.main.body.getD i (.Pass ⟨0, 0, 0, 0⟩)
abbrev s_has_leap_day : Stmt := top 13
abbrev s_days_in : Stmt := top 14
abbrev s_days_ahead_of_year : Stmt := top 15
abbrev s_day_of : Stmt := top 16
abbrev s_year_of : Stmt := top 17
abbrev s_date_of : Stmt := top 18
abbrev s_months_on : Stmt := top 19
abbrev s_begin_of : Stmt := top 22
abbrev s_span_on : Stmt := top 23
abbrev s_span_days : Stmt := top 25
abbrev s_span_with : Stmt := top 26
abbrev s_share : Stmt := top 28
abbrev s_counts_from : Stmt := top 31
abbrev s_in_order : Stmt := top 32
abbrev s_state_by : Stmt := top 33
abbrev s_stretches_by : Stmt := top 34
abbrev s_price_and_count : Stmt := top 36
abbrev s_stretch_cost : Stmt := top 37
abbrev s_lines_ahead : Stmt := top 38
abbrev s_cost_of : Stmt := top 39
abbrev s_span_lines : Stmt := top 40
abbrev s_span_cost : Stmt := top 41
abbrev s_is_term : Stmt := top 44
abbrev s_standing_terms : Stmt := top 45
abbrev s_terms_at : Stmt := top 46
abbrev s_costs_by : Stmt := top 48
abbrev s_moved : Stmt := top 50
abbrev s_xL_cell_at : Stmt := top 52
abbrev s_xL_mixed : Stmt := top 53
abbrev s_xL_plan_names : Stmt := top 54
abbrev s_xL_account : Stmt := top 55
abbrev s_xL_change : Stmt := top 56
abbrev s_xL_entries : Stmt := top 57
abbrev s_xL_known : Stmt := top 58
abbrev s_xL_whole : Stmt := top 59
abbrev s_xL_due : Stmt := top 60
abbrev s_xL_told : Stmt := top 61
abbrev s_xL_are_rows : Stmt := top 62
abbrev s_xL_pair : Stmt := top 63
abbrev s_law : Stmt := top 64
theorem st_4 : Str.ofString "months" = SL [109, 111, 110, 116, 104, 115] := by decide +kernel
theorem st_9 : Str.ofString "last" = SL [108, 97, 115, 116] := by decide +kernel
theorem st_10 : Str.ofString "on" = SL [111, 110] := by decide +kernel
theorem st_11 : Str.ofString "plan" = SL [112, 108, 97, 110] := by decide +kernel
theorem st_12 : Str.ofString "seats" = SL [115, 101, 97, 116, 115] := by decide +kernel
theorem st_13 : Str.ofString "undo" = SL [117, 110, 100, 111] := by decide +kernel
theorem st_15 : Str.ofString "abcdefghijklmnopqrstuvwxyz" = SL [97, 98, 99, 100, 101, 102, 103, 104, 105, 106, 107, 108, 109, 110, 111, 112, 113, 114, 115, 116, 117, 118, 119, 120, 121, 122] := by decide +kernel
theorem st_16 : Str.ofString "" = SL [] := by decide +kernel
theorem st_17 : Str.ofString "days" = SL [100, 97, 121, 115] := by decide +kernel
theorem st_18 : Str.ofString "back" = SL [98, 97, 99, 107] := by decide +kernel
theorem st_19 : Str.ofString "grant" = SL [103, 114, 97, 110, 116] := by decide +kernel
theorem st_20 : Str.ofString "hold" = SL [104, 111, 108, 100] := by decide +kernel
theorem st_21 : Str.ofString "go" = SL [103, 111] := by decide +kernel
theorem st_22 : Str.ofString "stop" = SL [115, 116, 111, 112] := by decide +kernel
/-- where things stand -/
structure Adr where
  a_has_leap_day : Addr
  d_has_leap_day : FuncData
  a_days_in : Addr
  d_days_in : FuncData
  a_days_ahead_of_year : Addr
  d_days_ahead_of_year : FuncData
  a_day_of : Addr
  d_day_of : FuncData
  a_year_of : Addr
  d_year_of : FuncData
  a_date_of : Addr
  d_date_of : FuncData
  a_months_on : Addr
  d_months_on : FuncData
  a_begin_of : Addr
  d_begin_of : FuncData
  a_span_on : Addr
  d_span_on : FuncData
  a_span_days : Addr
  d_span_days : FuncData
  a_span_with : Addr
  d_span_with : FuncData
  a_share : Addr
  d_share : FuncData
  a_counts_from : Addr
  d_counts_from : FuncData
  a_in_order : Addr
  d_in_order : FuncData
  a_state_by : Addr
  d_state_by : FuncData
  a_stretches_by : Addr
  d_stretches_by : FuncData
  a_price_and_count : Addr
  d_price_and_count : FuncData
  a_stretch_cost : Addr
  d_stretch_cost : FuncData
  a_lines_ahead : Addr
  d_lines_ahead : FuncData
  a_cost_of : Addr
  d_cost_of : FuncData
  a_span_lines : Addr
  d_span_lines : FuncData
  a_span_cost : Addr
  d_span_cost : FuncData
  a_is_term : Addr
  d_is_term : FuncData
  a_standing_terms : Addr
  d_standing_terms : FuncData
  a_terms_at : Addr
  d_terms_at : FuncData
  a_costs_by : Addr
  d_costs_by : FuncData
  a_moved : Addr
  d_moved : FuncData
  a_xL_cell_at : Addr
  d_xL_cell_at : FuncData
  a_xL_mixed : Addr
  d_xL_mixed : FuncData
  a_xL_plan_names : Addr
  d_xL_plan_names : FuncData
  a_xL_account : Addr
  d_xL_account : FuncData
  a_xL_change : Addr
  d_xL_change : FuncData
  a_xL_entries : Addr
  d_xL_entries : FuncData
  a_xL_known : Addr
  d_xL_known : FuncData
  a_xL_whole : Addr
  d_xL_whole : FuncData
  a_xL_due : Addr
  d_xL_due : FuncData
  a_xL_told : Addr
  d_xL_told : FuncData
  a_xL_are_rows : Addr
  d_xL_are_rows : FuncData
  a_xL_pair : Addr
  d_xL_pair : FuncData
  a_law : Addr
  d_law : FuncData
  c_SpanError : Addr
  c_NoDate : Addr
  c_NoSpan : Addr
  c_TooLong : Addr
/-- what stands there -/
structure Txt (w : World) (K : PySem.W.Frag) (mg : Str → Option Value) (t : Adr) : Prop where
  mg_has_leap_day : mg "has_leap_day" = some (.ref t.a_has_leap_day)
  fn_has_leap_day : Fun K "has_leap_day" "has_leap_day" s_has_leap_day t.a_has_leap_day t.d_has_leap_day
  b_has_leap_day : Binds K t.d_has_leap_day ["year"] []
  mg_days_in : mg "days_in" = some (.ref t.a_days_in)
  fn_days_in : Fun K "days_in" "days_in" s_days_in t.a_days_in t.d_days_in
  b_days_in : Binds K t.d_days_in ["year", "month"] []
  mg_days_ahead_of_year : mg "days_ahead_of_year" = some (.ref t.a_days_ahead_of_year)
  fn_days_ahead_of_year : Fun K "days_ahead_of_year" "days_ahead_of_year" s_days_ahead_of_year t.a_days_ahead_of_year t.d_days_ahead_of_year
  b_days_ahead_of_year : Binds K t.d_days_ahead_of_year ["year"] []
  mg_day_of : mg "day_of" = some (.ref t.a_day_of)
  fn_day_of : Fun K "day_of" "day_of" s_day_of t.a_day_of t.d_day_of
  b_day_of : Binds K t.d_day_of ["year", "month", "day"] []
  mg_year_of : mg "year_of" = some (.ref t.a_year_of)
  fn_year_of : Fun K "year_of" "year_of" s_year_of t.a_year_of t.d_year_of
  b_year_of : Binds K t.d_year_of ["number"] []
  mg_date_of : mg "date_of" = some (.ref t.a_date_of)
  fn_date_of : Fun K "date_of" "date_of" s_date_of t.a_date_of t.d_date_of
  b_date_of : Binds K t.d_date_of ["number"] []
  mg_months_on : mg "months_on" = some (.ref t.a_months_on)
  fn_months_on : Fun K "months_on" "months_on" s_months_on t.a_months_on t.d_months_on
  b_months_on : Binds K t.d_months_on ["number", "many"] []
  mg_begin_of : mg "begin_of" = some (.ref t.a_begin_of)
  fn_begin_of : Fun K "begin_of" "begin_of" s_begin_of t.a_begin_of t.d_begin_of
  b_begin_of : Binds K t.d_begin_of ["first", "cycle", "k"] []
  mg_span_on : mg "span_on" = some (.ref t.a_span_on)
  fn_span_on : Fun K "span_on" "span_on" s_span_on t.a_span_on t.d_span_on
  b_span_on : Binds K t.d_span_on ["first", "cycle", "day"] []
  mg_span_days : mg "span_days" = some (.ref t.a_span_days)
  fn_span_days : Fun K "span_days" "span_days" s_span_days t.a_span_days t.d_span_days
  b_span_days : Binds K t.d_span_days ["account", "k"] []
  mg_span_with : mg "span_with" = some (.ref t.a_span_with)
  fn_span_with : Fun K "span_with" "span_with" s_span_with t.a_span_with t.d_span_with
  b_span_with : Binds K t.d_span_with ["account", "day"] []
  mg_share : mg "share" = some (.ref t.a_share)
  fn_share : Fun K "share" "share" s_share t.a_share t.d_share
  b_share : Binds K t.d_share ["price", "count", "begin", "end"] []
  mg_counts_from : mg "counts_from" = some (.ref t.a_counts_from)
  fn_counts_from : Fun K "counts_from" "counts_from" s_counts_from t.a_counts_from t.d_counts_from
  b_counts_from : Binds K t.d_counts_from ["account", "change"] []
  mg_in_order : mg "in_order" = some (.ref t.a_in_order)
  fn_in_order : Fun K "in_order" "in_order" s_in_order t.a_in_order t.d_in_order
  b_in_order : Binds K t.d_in_order ["account", "terms"] []
  mg_state_by : mg "state_by" = some (.ref t.a_state_by)
  fn_state_by : Fun K "state_by" "state_by" s_state_by t.a_state_by t.d_state_by
  b_state_by : Binds K t.d_state_by ["ordered", "day"] []
  mg_stretches_by : mg "stretches_by" = some (.ref t.a_stretches_by)
  fn_stretches_by : Fun K "stretches_by" "stretches_by" s_stretches_by t.a_stretches_by t.d_stretches_by
  b_stretches_by : Binds K t.d_stretches_by ["ordered", "begin", "end"] []
  mg_price_and_count : mg "price_and_count" = some (.ref t.a_price_and_count)
  fn_price_and_count : Fun K "price_and_count" "price_and_count" s_price_and_count t.a_price_and_count t.d_price_and_count
  b_price_and_count : Binds K t.d_price_and_count ["account", "name"] []
  mg_stretch_cost : mg "stretch_cost" = some (.ref t.a_stretch_cost)
  fn_stretch_cost : Fun K "stretch_cost" "stretch_cost" s_stretch_cost t.a_stretch_cost t.d_stretch_cost
  b_stretch_cost : Binds K t.d_stretch_cost ["account", "span", "stretch"] []
  mg_lines_ahead : mg "lines_ahead" = some (.ref t.a_lines_ahead)
  fn_lines_ahead : Fun K "lines_ahead" "lines_ahead" s_lines_ahead t.a_lines_ahead t.d_lines_ahead
  b_lines_ahead : Binds K t.d_lines_ahead ["account", "ordered", "span", "day"] []
  mg_cost_of : mg "cost_of" = some (.ref t.a_cost_of)
  fn_cost_of : Fun K "cost_of" "cost_of" s_cost_of t.a_cost_of t.d_cost_of
  b_cost_of : Binds K t.d_cost_of ["lines"] []
  mg_span_lines : mg "span_lines" = some (.ref t.a_span_lines)
  fn_span_lines : Fun K "span_lines" "span_lines" s_span_lines t.a_span_lines t.d_span_lines
  b_span_lines : Binds K t.d_span_lines ["account", "terms", "k"] []
  mg_span_cost : mg "span_cost" = some (.ref t.a_span_cost)
  fn_span_cost : Fun K "span_cost" "span_cost" s_span_cost t.a_span_cost t.d_span_cost
  b_span_cost : Binds K t.d_span_cost ["account", "terms", "k"] []
  mg_is_term : mg "is_term" = some (.ref t.a_is_term)
  fn_is_term : Fun K "is_term" "is_term" s_is_term t.a_is_term t.d_is_term
  b_is_term : Binds K t.d_is_term ["change"] []
  mg_standing_terms : mg "standing_terms" = some (.ref t.a_standing_terms)
  fn_standing_terms : Fun K "standing_terms" "standing_terms" s_standing_terms t.a_standing_terms t.d_standing_terms
  b_standing_terms : Binds K t.d_standing_terms ["entries"] []
  mg_terms_at : mg "terms_at" = some (.ref t.a_terms_at)
  fn_terms_at : Fun K "terms_at" "terms_at" s_terms_at t.a_terms_at t.d_terms_at
  b_terms_at : Binds K t.d_terms_at ["entries", "moment"] []
  mg_costs_by : mg "costs_by" = some (.ref t.a_costs_by)
  fn_costs_by : Fun K "costs_by" "costs_by" s_costs_by t.a_costs_by t.d_costs_by
  b_costs_by : Binds K t.d_costs_by ["account", "entries", "many", "moment"] []
  mg_moved : mg "moved" = some (.ref t.a_moved)
  fn_moved : Fun K "moved" "moved" s_moved t.a_moved t.d_moved
  b_moved : Binds K t.d_moved ["account", "entries", "one", "other"] []
  mg_xL_cell_at : mg "_law_cell_at" = some (.ref t.a_xL_cell_at)
  fn_xL_cell_at : Fun K "_law_cell_at" "_law_cell_at" s_xL_cell_at t.a_xL_cell_at t.d_xL_cell_at
  b_xL_cell_at : Binds K t.d_xL_cell_at ["_law_script", "_law_k"] []
  mg_xL_mixed : mg "_law_mixed" = some (.ref t.a_xL_mixed)
  fn_xL_mixed : Fun K "_law_mixed" "_law_mixed" s_xL_mixed t.a_xL_mixed t.d_xL_mixed
  b_xL_mixed : Binds K t.d_xL_mixed ["_law_cell", "_law_k"] []
  mg_xL_plan_names : mg "_law_plan_names" = some (.ref t.a_xL_plan_names)
  fn_xL_plan_names : Fun K "_law_plan_names" "_law_plan_names" s_xL_plan_names t.a_xL_plan_names t.d_xL_plan_names
  b_xL_plan_names : Binds K t.d_xL_plan_names ["_law_cell", "_law_many"] []
  mg_xL_account : mg "_law_account" = some (.ref t.a_xL_account)
  fn_xL_account : Fun K "_law_account" "_law_account" s_xL_account t.a_xL_account t.d_xL_account
  b_xL_account : Binds K t.d_xL_account ["_law_script"] []
  mg_xL_change : mg "_law_change" = some (.ref t.a_xL_change)
  fn_xL_change : Fun K "_law_change" "_law_change" s_xL_change t.a_xL_change t.d_xL_change
  b_xL_change : Binds K t.d_xL_change ["_law_account_here", "_law_n", "_law_own", "_law_free"] []
  mg_xL_entries : mg "_law_entries" = some (.ref t.a_xL_entries)
  fn_xL_entries : Fun K "_law_entries" "_law_entries" s_xL_entries t.a_xL_entries t.d_xL_entries
  b_xL_entries : Binds K t.d_xL_entries ["_law_script", "_law_account_here", "_law_start"] []
  mg_xL_known : mg "_law_known" = some (.ref t.a_xL_known)
  fn_xL_known : Fun K "_law_known" "_law_known" s_xL_known t.a_xL_known t.d_xL_known
  b_xL_known : Binds K t.d_xL_known ["_law_entries_here", "_law_moment"] []
  mg_xL_whole : mg "_law_whole" = some (.ref t.a_xL_whole)
  fn_xL_whole : Fun K "_law_whole" "_law_whole" s_xL_whole t.a_xL_whole t.d_xL_whole
  b_xL_whole : Binds K t.d_xL_whole ["_law_found"] []
  mg_xL_due : mg "_law_due" = some (.ref t.a_xL_due)
  fn_xL_due : Fun K "_law_due" "_law_due" s_xL_due t.a_xL_due t.d_xL_due
  b_xL_due : Binds K t.d_xL_due ["_law_account_here", "_law_entries_here", "_law_one", "_law_other"] []
  mg_xL_told : mg "_law_told" = some (.ref t.a_xL_told)
  fn_xL_told : Fun K "_law_told" "_law_told" s_xL_told t.a_xL_told t.d_xL_told
  b_xL_told : Binds K t.d_xL_told ["_law_account_here", "_law_entries_here", "_law_one", "_law_other"] []
  mg_xL_are_rows : mg "_law_are_rows" = some (.ref t.a_xL_are_rows)
  fn_xL_are_rows : Fun K "_law_are_rows" "_law_are_rows" s_xL_are_rows t.a_xL_are_rows t.d_xL_are_rows
  b_xL_are_rows : Binds K t.d_xL_are_rows ["_law_rows"] []
  mg_xL_pair : mg "_law_pair" = some (.ref t.a_xL_pair)
  fn_xL_pair : Fun K "_law_pair" "_law_pair" s_xL_pair t.a_xL_pair t.d_xL_pair
  b_xL_pair : Binds K t.d_xL_pair ["_law_script", "_law_account_here", "_law_entries_here", "_law_k"] []
  mg_law : mg "law" = some (.ref t.a_law)
  fn_law : Fun K "law" "law" s_law t.a_law t.d_law
  b_law : Binds K t.d_law ["_law_script"] []
  mg_SpanError : mg "SpanError" = some (.ref t.c_SpanError)
  mg_NoDate : mg "NoDate" = some (.ref t.c_NoDate)
  mg_NoSpan : mg "NoSpan" = some (.ref t.c_NoSpan)
  mg_TooLong : mg "TooLong" = some (.ref t.c_TooLong)
  ex_NoDate : Exc K t.c_NoDate
  ex_NoSpan : Exc K t.c_NoSpan
  ex_TooLong : Exc K t.c_TooLong
  k_LAST_YEAR : ∃ u, mg "LAST_YEAR" = some u ∧ RelV (.int 9999) u
  k_LAST_DAY : ∃ u, mg "LAST_DAY" = some u ∧ RelV (.int 3652058) u
  k_MONTH_DAYS : ∃ a, mg "MONTH_DAYS" = some (.ref a) ∧ ∀ H, SqT K H a [.int 31, .int 28, .int 31, .int 30, .int 31, .int 30, .int 31, .int 31, .int 30, .int 31, .int 30, .int 31]
  k_ROUND_DAYS : ∃ u, mg "ROUND_DAYS" = some u ∧ RelV (.int 146097) u
  k_HUNDRED_YEARS_DAYS : ∃ u, mg "HUNDRED_YEARS_DAYS" = some u ∧ RelV (.int 36524) u
  k_FOUR_YEARS_DAYS : ∃ u, mg "FOUR_YEARS_DAYS" = some u ∧ RelV (.int 1461) u
  k_YEAR_DAYS : ∃ u, mg "YEAR_DAYS" = some u ∧ RelV (.int 365) u
  k_SPANS : ∃ u, mg "SPANS" = some u ∧ RelV (.int 60) u
  k_WORDS : DcAt w K mg "WORDS" [(SL [104, 111, 108, 100], .str (SL [104, 101, 108, 100])), (SL [103, 111], .str (SL [111, 110])), (SL [115, 116, 111, 112], .str (SL [111, 102, 102])), (SL [108, 97, 115, 116], .str (SL [111, 102, 102]))]
  k_TERMS : ∃ a, mg "TERMS" = some (.ref a) ∧ ∀ H, SqT K H a [.str (SL [112, 108, 97, 110]), .str (SL [115, 101, 97, 116, 115]), .str (SL [104, 111, 108, 100]), .str (SL [103, 111]), .str (SL [115, 116, 111, 112]), .str (SL [108, 97, 115, 116])]
  no_range : mg "range" = none
  no_divmod : mg "divmod" = none
  no_min : mg "min" = none
  no_sorted : mg "sorted" = none
  no_sum : mg "sum" = none
  no_enumerate : mg "enumerate" = none
  no_list : mg "list" = none
  no_len : mg "len" = none
  no_int : mg "int" = none
  no_isinstance : mg "isinstance" = none
  no_bool : mg "bool" = none
  no_tuple : mg "tuple" = none
  no_max : mg "max" = none
  cl_SpanError : ClsOk K t.c_SpanError
  cl_NoDate : ClsOk K t.c_NoDate
  cl_NoSpan : ClsOk K t.c_NoSpan
  cl_TooLong : ClsOk K t.c_TooLong
  xc_NoSpan : ExcCls K t.c_NoSpan
  xc_TooLong : ExcCls K t.c_TooLong
  m_NoSpan_SpanError : PySem.W.mroIn K t.c_NoSpan (.ref t.c_SpanError) = some true
  m_NoSpan_NoDate : PySem.W.mroIn K t.c_NoSpan (.ref t.c_NoDate) = some false
  m_NoSpan_NoSpan : PySem.W.mroIn K t.c_NoSpan (.ref t.c_NoSpan) = some true
  m_NoSpan_TooLong : PySem.W.mroIn K t.c_NoSpan (.ref t.c_TooLong) = some false
  m_NoSpan_ValueError : PySem.W.mroIn K t.c_NoSpan (.type "ValueError") = some true
  m_TooLong_SpanError : PySem.W.mroIn K t.c_TooLong (.ref t.c_SpanError) = some true
  m_TooLong_NoDate : PySem.W.mroIn K t.c_TooLong (.ref t.c_NoDate) = some false
  m_TooLong_NoSpan : PySem.W.mroIn K t.c_TooLong (.ref t.c_NoSpan) = some false
  m_TooLong_TooLong : PySem.W.mroIn K t.c_TooLong (.ref t.c_TooLong) = some true
  m_TooLong_ValueError : PySem.W.mroIn K t.c_TooLong (.type "ValueError") = some true
  m_SpanError_BaseException : PySem.W.mroIn K t.c_SpanError (.type "BaseException") = some true
section
local macro_rules | `(tactic| open_k0) => `(tactic| simp only [tItems, tRev, tDNewS, tDIn, tDNotIn, sDPut, tDPop1, tDGet2, tDGet, tDc, tCallKX, kwG_one, tEither, tTupS, tLstS, comp_K, capσ, sub_nil, sub_none, sub_some, tYes, List.replicate, Option.join_some, Option.join_none, SL_inj, iStr, tPart, tNoPart, tSl, tLst, tTup, cx_K, slT, CDiv, Int.reduceLT, Int.reduceLE, Int.reduceToNat, Int.reduceNeg, Int.reduceAdd, Int.reduceSub, Int.reduceMul, forall_const, tSeq, tNext, tIfS, tRet, tRetN, tDrop, tAsg, gName, gCons, gNil, tVar, tC, tOp, rI, rI0, tUn, rU, tTest, tB, tAnd, tOr, tNot, tAndV, tOrV, tNotV, tIf, tCons, tNil, tCallX, tCallL, tCB, sRaise, rEq, rNe, scal_ii, scal_bb, scal_ss, scal_ni, scal_in, tChain, tAug, ipI, L2.start, List.map_cons, List.map_nil, List.length_cons, List.length_nil, List.cons_append, List.nil_append, List.append_nil, List.replicate_succ, List.replicate_zero, Nat.reduceAdd, Nat.reduceSub, List.getElem?_cons_zero, List.getElem?_cons_succ, List.set_cons_zero, List.set_cons_succ, Option.some.injEq, V.int.injEq, V.bl.injEq, V.ref.injEq, V.str.injEq, exists_eq_left', exists_eq_left, exists_eq', exists_and_left, List.cons.injEq, and_true, true_and, and_self, and_assoc, decide_eq_true_eq, if_true, if_false, Bool.true_eq_false, Bool.false_eq_true, Bool.not_eq_true', Bool.not_true, Bool.not_false, decide_eq_false_iff_not, ite_true, ite_false, reduceCtorEq, false_and, exists_false, false_or, or_false, and_false, Nat.reduceLeDiff])
local macro_rules | `(tactic| lge_open0) => `(tactic| simp only [tItems, tRev, tDNewS, tDIn, tDNotIn, sDPut, tDPop1, tDGet2, tDGet, tDc, tCallKX, kwG_one, tEither, tTupS, tLstS, comp_K, capσ, sub_nil, sub_none, sub_some, tYes, List.replicate, Option.join_some, Option.join_none, SL_inj, iStr, tPart, tNoPart, tSl, tLst, tTup, cx_K, slT, CDiv, Int.reduceLT, Int.reduceLE, Int.reduceToNat, Int.reduceNeg, Int.reduceAdd, Int.reduceSub, Int.reduceMul, forall_const, tSeq, tNext, tIfS, tRet, tRetN, tDrop, tAsg, gName, gCons, gNil, tVar, tC, tOp, rI, rI0, tUn, rU, tTest, tB, tAnd, tOr, tNot, tAndV, tOrV, tNotV, tIf, tCons, tNil, tCallX, tCallL, tCB, sRaise, rEq, rNe, scal_ii, scal_bb, scal_ss, scal_ni, scal_in, tChain, tAug, ipI, L2.start, List.map_cons, List.map_nil, List.length_cons, List.length_nil, List.cons_append, List.nil_append, List.append_nil, List.replicate_succ, List.replicate_zero, Nat.reduceAdd, Nat.reduceSub, List.getElem?_cons_zero, List.getElem?_cons_succ, List.set_cons_zero, List.set_cons_succ, Option.some.injEq, V.int.injEq, V.bl.injEq, V.ref.injEq, V.str.injEq, exists_eq_left', exists_eq_left, exists_eq', exists_and_left, List.cons.injEq, and_true, true_and, and_self, and_assoc, decide_eq_true_eq, if_true, if_false, Bool.true_eq_false, Bool.false_eq_true, Bool.not_eq_true', Bool.not_true, Bool.not_false, decide_eq_false_iff_not, ite_true, ite_false, reduceCtorEq, false_and, exists_false, false_or, or_false, and_false, List.nil_append])
local macro_rules | `(tactic| lgec_open0) => `(tactic| simp only [tItems, tRev, tDNewS, tDIn, tDNotIn, sDPut, tDPop1, tDGet2, tDGet, tDc, tCallKX, kwG_one, tEither, tTupS, tLstS, comp_K, capσ, sub_nil, sub_none, sub_some, tYes, List.replicate, Option.join_some, Option.join_none, SL_inj, iStr, tPart, tNoPart, tSl, tLst, tTup, cx_K, slT, CDiv, Int.reduceLT, Int.reduceLE, Int.reduceToNat, Int.reduceNeg, Int.reduceAdd, Int.reduceSub, Int.reduceMul, forall_const, tSeq, tNext, tIfS, tRet, tRetN, tDrop, tAsg, gName, gCons, gNil, tVar, tC, tOp, rI, rI0, tUn, rU, tTest, tB, tAnd, tOr, tNot, tAndV, tOrV, tNotV, tIf, tCons, tNil, tCallX, tCallL, tCB, sRaise, rEq, rNe, scal_ii, scal_bb, scal_ss, scal_ni, scal_in, tChain, tAug, ipI, L2.start, List.map_cons, List.map_nil, List.length_cons, List.length_nil, List.cons_append, List.nil_append, List.append_nil, List.replicate_succ, List.replicate_zero, Nat.reduceAdd, Nat.reduceSub, List.getElem?_cons_zero, List.getElem?_cons_succ, List.set_cons_zero, List.set_cons_succ, Option.some.injEq, V.int.injEq, V.bl.injEq, V.ref.injEq, V.str.injEq, exists_eq_left', exists_eq_left, exists_eq', exists_and_left, List.cons.injEq, and_true, true_and, and_self, and_assoc, decide_eq_true_eq, if_true, if_false, Bool.true_eq_false, Bool.false_eq_true, Bool.not_eq_true', Bool.not_true, Bool.not_false, decide_eq_false_iff_not, ite_true, ite_false, reduceCtorEq, false_and, exists_false, false_or, or_false, and_false, tBM, Nat.reduceLeDiff])
local macro_rules | `(tactic| w_why) => `(tactic| simp only [tItems, tRev, tDNewS, tDIn, tDNotIn, sDPut, tDPop1, tDGet2, tDGet, tDc, tCallKX, kwG_one, tEither, tTupS, tLstS, comp_K, capσ, sub_nil, sub_none, sub_some, tYes, List.replicate, Option.join_some, Option.join_none, SL_inj, iStr, tPart, tNoPart, tSl, tLst, tTup, cx_K, slT, CDiv, Int.reduceLT, Int.reduceLE, Int.reduceToNat, Int.reduceNeg, Int.reduceAdd, Int.reduceSub, Int.reduceMul, forall_const, tSeq, tNext, tIfS, tRet, tRetN, tDrop, tAsg, gName, gCons, gNil, tVar, tC, tOp, rI, rI0, tUn, rU, tTest, tB, tAnd, tOr, tNot, tAndV, tOrV, tNotV, tIf, tCons, tNil, tCallX, tCallL, tCB, sRaise, rEq, rNe, scal_ii, scal_bb, scal_ss, scal_ni, scal_in, tChain, tAug, ipI, L2.start, List.map_cons, List.map_nil, List.length_cons, List.length_nil, List.cons_append, List.nil_append, List.append_nil, List.replicate_succ, List.replicate_zero, Nat.reduceAdd, Nat.reduceSub, List.getElem?_cons_zero, List.getElem?_cons_succ, List.set_cons_zero, List.set_cons_succ, Option.some.injEq, V.int.injEq, V.bl.injEq, V.ref.injEq, V.str.injEq, exists_eq_left', exists_eq_left, exists_eq', exists_and_left, List.cons.injEq, and_true, true_and, and_self, and_assoc, decide_eq_true_eq, if_true, if_false, Bool.true_eq_false, Bool.false_eq_true, Bool.not_eq_true', Bool.not_true, Bool.not_false, decide_eq_false_iff_not, ite_true, ite_false, reduceCtorEq, false_and, exists_false, false_or, or_false, and_false, iList, iTup, iZip, iRng1, iRng2, Nat.reduceLeDiff])
variable {P : Program} {w : World} {K : PySem.W.Frag} {mg : Str → Option Value} {base : Heap} {t : Adr}
def spLeap : Sp := fun vs H Q _ => ∃ y : Int, vs = [.int y] ∧ Q (.bl (decide (Cal.lp y = 1))) H
theorem sc_has_leap_day : FnScope ["year"] ["year"] (defScope s_has_leap_day) := ⟨rfl, rfl, rfl, by decide +kernel, rfl, by decide +kernel, by decide +kernel⟩
theorem ok_has_leap_day (T : Txt w K mg t) : FnOk P w K mg base (CXE P w) 1 t.a_has_leap_day t.d_has_leap_day ["year"] spLeap := by
  refine T.fn_has_leap_day.okX sc_has_leap_day (fun vs H Q E h => ?_) (fun cdv A outer s H vs Q E L hr h => ?_)
  · obtain ⟨y, rfl, _⟩ := h
    rfl
  obtain ⟨y, rfl, q⟩ := h
  have nd := sc_has_leap_day.nd
  refine ⟨_, (pss_one (ps_ret (pe_and (pe_cmpR op_eq (pe_op op_mod (pv 0) pe_int) pe_int (nomark _)) (pe_one (pe_or (pe_cmpR op_ne (pe_op op_mod (pv 0) pe_int) pe_int (nomark _)) (pe_one (pe_cmpR op_eq (pe_op op_mod (pv 0) pe_int) pe_int (nomark _)))))))), ?_⟩
  simp only [tItems, tRev, tDNewS, tDIn, tDNotIn, sDPut, tDPop1, tDGet2, tDGet, tDc, tCallKX, kwG_one, tEither, tTupS, tLstS, comp_K, capσ, sub_nil, sub_none, sub_some, tYes, List.replicate, Option.join_some, Option.join_none, SL_inj, iStr, tPart, tNoPart, tSl, tLst, tTup, cx_K, slT, CDiv, Int.reduceLT, Int.reduceLE, Int.reduceToNat, Int.reduceNeg, Int.reduceAdd, Int.reduceSub, Int.reduceMul, forall_const, tSeq, tNext, tIfS, tRet, tRetN, tDrop, tAsg, gName, gCons, gNil, tVar, tC, tOp, rI, rI0, tUn, rU, tTest, tB, tAnd, tOr, tNot, tAndV, tOrV, tNotV, tIf, tCons, tNil, tCallX, tCallL, tCB, sRaise, rEq, rNe, scal_ii, scal_bb, scal_ss, scal_ni, scal_in, tChain, tAug, ipI, L2.start, List.map_cons, List.map_nil, List.length_cons, List.length_nil, List.cons_append, List.nil_append, List.append_nil, List.replicate_succ, List.replicate_zero, Nat.reduceAdd, Nat.reduceSub, List.getElem?_cons_zero, List.getElem?_cons_succ, List.set_cons_zero, List.set_cons_succ, Option.some.injEq, V.int.injEq, V.bl.injEq, V.ref.injEq, V.str.injEq, exists_eq_left', exists_eq_left, exists_eq', exists_and_left, List.cons.injEq, and_true, true_and, and_self, and_assoc, decide_eq_true_eq, if_true, if_false, Bool.true_eq_false, Bool.false_eq_true, Bool.not_eq_true', Bool.not_true, Bool.not_false, decide_eq_false_iff_not, ite_true, ite_false, reduceCtorEq, false_and, exists_false, false_or, or_false, and_false]
  have e : ∀ b, b = decide (Cal.lp y = 1) → Q (.bl b) H := fun b z => by rw [z]; exact q
  split
  · split
    · exact e _ (by simp [Cal.lp, *])
    · refine e _ ?_
      by_cases c : y % 400 = 0 <;> simp [Cal.lp, *]
  · exact e _ (by simp [Cal.lp, *])
def InYear (y m : Int) : Prop := 1 ≤ y ∧ y ≤ 9999 ∧ 1 ≤ m ∧ m ≤ 12
def spDays (t : Adr) : Sp := fun vs H Q E => ∃ y m : Int, vs = [.int y, .int m] ∧ (InYear y m → Q (.int (Cal.dim y m)) H) ∧ (¬ InYear y m → E (.ref t.c_NoDate) none H)
theorem month_days {m : Int} (h1 : 1 ≤ m) (h2 : m ≤ 12) : atI [V.int 31, V.int 28, V.int 31, V.int 30, V.int 31, V.int 30, V.int 31, V.int 31, V.int 30, V.int 31, V.int 30, V.int 31] (m - 1) = some (.int (if m = 2 then 28 else if m = 4 ∨ m = 6 ∨ m = 9 ∨ m = 11 then 30 else 31)) := by
  have q : m = 1 ∨ m = 2 ∨ m = 3 ∨ m = 4 ∨ m = 5 ∨ m = 6 ∨ m = 7 ∨ m = 8 ∨ m = 9 ∨ m = 10 ∨ m = 11 ∨ m = 12 := by omega
  rcases q with rfl | rfl | rfl | rfl | rfl | rfl | rfl | rfl | rfl | rfl | rfl | rfl <;> rfl
theorem sc_days_in : FnScope ["year", "month"] ["year", "month"] (defScope s_days_in) := ⟨rfl, rfl, rfl, by decide +kernel, rfl, by decide +kernel, by decide +kernel⟩
theorem ok_days_in (T : Txt w K mg t) : FnOk P w K mg base (CXE P w) 2 t.a_days_in t.d_days_in ["year", "month"] (spDays t) := by
  refine T.fn_days_in.okX sc_days_in (fun vs H Q E h => ?_) (fun cdv A outer s H vs Q E L hr h => ?_)
  · obtain ⟨y, m, rfl, _⟩ := h
    rfl
  obtain ⟨y, m, rfl, q1, q2⟩ := h
  have nd := sc_days_in.nd
  obtain ⟨a_MONTH_DAYS, h_MONTH_DAYS, q_MONTH_DAYS⟩ := T.k_MONTH_DAYS
  have r_MONTH_DAYS : RelV (.ref a_MONTH_DAYS) (.ref a_MONTH_DAYS) := rfl
  obtain ⟨u_LAST_YEAR, h_LAST_YEAR, r_LAST_YEAR⟩ := T.k_LAST_YEAR
  refine ⟨_, (pss_cons (ps_if (pw_or (pt_cmpR op_lt (pv 0) pe_int (nomark _)) (pw_or1 (pt_cmpR op_gt (pv 0) (pe_glob (by rfl) h_LAST_YEAR r_LAST_YEAR) (nomark _)))).pt (pss_one (ps_raise L T.ex_NoDate (by rfl) (by rfl) T.mg_NoDate (pa_cons pe_str pa_nil))) pss_nil) (pss_cons (ps_if (pw_or (pt_cmpR op_lt (pv 1) pe_int (nomark _)) (pw_or1 (pt_cmpR op_gt (pv 1) pe_int (nomark _)))).pt (pss_one (ps_raise L T.ex_NoDate (by rfl) (by rfl) T.mg_NoDate (pa_cons pe_str pa_nil))) pss_nil) (pss_cons (ps_if (pw_and (pt_cmpR op_eq (pv 1) pe_int (nomark _)) (pw_and1 (pt_val (pe_callX L.toLv (ok_has_leap_day T) (hr.mono (by decide)) (by rfl) T.mg_has_leap_day T.fn_has_leap_day.kp T.b_has_leap_day .nil (pa_cons (pv 0) pa_nil))))).pt (pss_one (ps_ret pe_int)) pss_nil) (pss_one (ps_ret (pe_ix ix_tup (pe_glob (by rfl) h_MONTH_DAYS r_MONTH_DAYS) (pe_op op_sub (pv 1) pe_int) (fun _ _ => rfl))))))), ?_⟩
  open_k0
  split
  · exact q2 (fun z => by obtain ⟨_, _, _, _⟩ := z; omega)
  split
  · exact q2 (fun z => by obtain ⟨_, _, _, _⟩ := z; omega)
  split
  · exact q2 (fun z => by obtain ⟨_, _, _, _⟩ := z; omega)
  split
  · exact q2 (fun z => by obtain ⟨_, _, _, _⟩ := z; omega)
  have ok : InYear y m := ⟨by omega, by omega, by omega, by omega⟩
  have q := q1 ok
  split
  · rename_i h2
    subst h2
    refine ⟨y, rfl, _, rfl, ?_⟩
    have l := Cal.lp_01 y
    have e : Cal.dim y 2 = 28 + Cal.lp y := rfl
    rw [e] at q
    split
    · rename_i c
      have z : Cal.lp y = 1 := of_decide_eq_true c
      rw [z] at q
      exact q
    · rename_i c
      have z : Cal.lp y ≠ 1 := of_decide_eq_false (Bool.eq_false_iff.mpr c)
      refine ixT (q_MONTH_DAYS _) (month_days (by omega) (by omega)) ?_
      have z0 : Cal.lp y = 0 := by omega
      rw [z0] at q
      exact q
  · rename_i h2
    refine ixT (q_MONTH_DAYS _) (month_days (by omega) (by omega)) ?_
    rw [if_neg h2]
    unfold Cal.dim at q
    rw [if_neg h2] at q
    exact q
def spAhead : Sp := fun vs H Q _ => ∃ y : Int, vs = [.int y] ∧ Q (.int (Cal.ahead y)) H
theorem sc_days_ahead_of_year : FnScope ["year", "past"] ["year"] (defScope s_days_ahead_of_year) := ⟨rfl, rfl, rfl, by decide +kernel, rfl, by decide +kernel, by decide +kernel⟩
theorem ok_days_ahead_of_year (T : Txt w K mg t) : FnOk P w K mg base (CXE P w) 1 t.a_days_ahead_of_year t.d_days_ahead_of_year ["year"] spAhead := by
  refine T.fn_days_ahead_of_year.okX sc_days_ahead_of_year (fun vs H Q E h => ?_) (fun cdv A outer s H vs Q E L hr h => ?_)
  · obtain ⟨y, rfl, _⟩ := h
    rfl
  obtain ⟨y, rfl, q⟩ := h
  have nd := sc_days_ahead_of_year.nd
  obtain ⟨u_YEAR_DAYS, h_YEAR_DAYS, r_YEAR_DAYS⟩ := T.k_YEAR_DAYS
  refine ⟨_, (pss_cons (ps_set (i := 1) nd rfl (Or.inl rfl) (pe_op op_sub (pv 0) pe_int)) (pss_one (ps_ret (pe_op op_add (pe_op op_sub (pe_op op_add (pe_op op_mul (pv 1) (pe_glob (by rfl) h_YEAR_DAYS r_YEAR_DAYS)) (pe_op op_fdiv (pv 1) pe_int)) (pe_op op_fdiv (pv 1) pe_int)) (pe_op op_fdiv (pv 1) pe_int))))), ?_⟩
  open_k0
  exact ⟨Or.inr ⟨by decide, by decide⟩, q⟩
def spDayOf (t : Adr) : Sp := fun vs H Q E => ∃ y m d : Int, vs = [.int y, .int m, .int d] ∧ (Cal.Valid y m d → Q (.int (Cal.num y m d)) H) ∧ (¬ Cal.Valid y m d → E (.ref t.c_NoDate) none H)
theorem sc_day_of : FnScope ["year", "month", "day", "ahead", "earlier"] ["year", "month", "day"] (defScope s_day_of) := ⟨rfl, rfl, rfl, by decide +kernel, rfl, by decide +kernel, by decide +kernel⟩
theorem ok_day_of (T : Txt w K mg t) : FnOk P w K mg base (CXE P w) 3 t.a_day_of t.d_day_of ["year", "month", "day"] (spDayOf t) := by
  refine T.fn_day_of.okX sc_day_of (fun vs H Q E h => ?_) (fun cdv A outer s H vs Q E L hr h => ?_)
  · obtain ⟨y, m, d, rfl, _⟩ := h
    rfl
  obtain ⟨y, m, d, rfl, q1, q2⟩ := h
  have nd := sc_day_of.nd
  refine ⟨_, (pss_cons (ps_if (pw_or (pt_cmpR op_lt (pv 2) pe_int (nomark _)) (pw_or1 (pt_cmpR op_gt (pv 2) (pe_callX L.toLv (ok_days_in T) (hr.mono (by decide)) (by rfl) T.mg_days_in T.fn_days_in.kp T.b_days_in .nil (pa_cons (pv 0) (pa_cons (pv 1) pa_nil star_Name) star_Name)) (nomark _)))).pt (pss_one (ps_raise L T.ex_NoDate (by rfl) (by rfl) T.mg_NoDate (pa_cons pe_str pa_nil))) pss_nil) (pss_cons (ps_set (i := 3) nd rfl (Or.inl rfl) (pe_callX L.toLv (ok_days_ahead_of_year T) (hr.mono (by decide)) (by rfl) T.mg_days_ahead_of_year T.fn_days_ahead_of_year.kp T.b_days_ahead_of_year .nil (pa_cons (pv 0) pa_nil))) (pss_cons (ps_for (by passes_own) rfl (pi_range2 (by rfl) T.no_range (pa_cons pe_int (pa_cons (pv 1) pa_nil star_Name) star_Constant)) (pg_name (i := 4) nd rfl (Or.inl rfl)) (pss_one (ps_aug (i := 3) nd rfl (Or.inl rfl) (pe_callX L.toLv (ok_days_in T) (hr.mono (by decide)) (by rfl) T.mg_days_in T.fn_days_in.kp T.b_days_in .nil (pa_cons (pv 0) (pa_cons (pv 4) pa_nil star_Name) star_Name)) ip_add))) (pss_one (ps_ret (pe_op op_sub (pe_op op_add (pv 3) (pv 2)) pe_int)))))), ?_⟩
  open_k0
  split
  · exact q2 (fun z => by obtain ⟨_, _, _, _, _, _⟩ := z; omega)
  refine ⟨y, m, rfl, fun ok => ?_, fun no => q2 (fun z => no ⟨z.1, z.2.1, z.2.2.1, z.2.2.2.1⟩)⟩
  obtain ⟨o1, o2, o3, o4⟩ := ok
  simp only [tItems, tRev, tDNewS, tDIn, tDNotIn, sDPut, tDPop1, tDGet2, tDGet, tDc, tCallKX, kwG_one, tEither, tTupS, tLstS, comp_K, capσ, sub_nil, sub_none, sub_some, tYes, List.replicate, Option.join_some, Option.join_none, SL_inj, iStr, tPart, tNoPart, tSl, tLst, tTup, cx_K, slT, CDiv, Int.reduceLT, Int.reduceLE, Int.reduceToNat, Int.reduceNeg, Int.reduceAdd, Int.reduceSub, Int.reduceMul, forall_const, tSeq, tNext, tIfS, tRet, tRetN, tDrop, tAsg, gName, gCons, gNil, tVar, tC, tOp, rI, rI0, tUn, rU, tTest, tB, tAnd, tOr, tNot, tAndV, tOrV, tNotV, tIf, tCons, tNil, tCallX, tCallL, tCB, sRaise, rEq, rNe, scal_ii, scal_bb, scal_ss, scal_ni, scal_in, tChain, tAug, ipI, L2.start, List.map_cons, List.map_nil, List.length_cons, List.length_nil, List.cons_append, List.nil_append, List.append_nil, List.replicate_succ, List.replicate_zero, Nat.reduceAdd, Nat.reduceSub, List.getElem?_cons_zero, List.getElem?_cons_succ, List.set_cons_zero, List.set_cons_succ, Option.some.injEq, V.int.injEq, V.bl.injEq, V.ref.injEq, V.str.injEq, exists_eq_left', exists_eq_left, exists_eq', exists_and_left, List.cons.injEq, and_true, true_and, and_self, and_assoc, decide_eq_true_eq, if_true, if_false, Bool.true_eq_false, Bool.false_eq_true, Bool.not_eq_true', Bool.not_true, Bool.not_false, decide_eq_false_iff_not, ite_true, ite_false, reduceCtorEq, false_and, exists_false, false_or, or_false, and_false]
  split
  · exact q2 (fun z => by obtain ⟨_, _, _, _, _, _⟩ := z; omega)
  have va : Cal.Valid y m d := ⟨o1, o2, o3, o4, by omega, by omega⟩
  have q := q1 va
  refine ⟨y, rfl, ?_⟩
  refine ⟨_, rfl, 1, m, rfl, ⟨by decide, by decide, by omega, by omega⟩, ?_⟩
  refine for_range (fun i σ1 H1 => H1 = H ∧ ∃ e, σ1 = [some (.int y), some (.int m), some (.int d), some (.int (Cal.ahead y + Cal.cum y ((i : Int) + 1))), e]) ⟨rfl, none, ?_⟩ (fun i σ1 H1 hi h => ?_) (fun σ1 H1 h => ?_)
  · have e : Cal.ahead y + Cal.cum y (((0 : Nat) : Int) + 1) = Cal.ahead y := by
      rw [show (((0 : Nat) : Int) + 1) = 1 from rfl, Cal.cum_one]
      omega
    rw [e]
  · obtain ⟨rfl, e, rfl⟩ := h
    simp only [tItems, tRev, tDNewS, tDIn, tDNotIn, sDPut, tDPop1, tDGet2, tDGet, tDc, tCallKX, kwG_one, tEither, tTupS, tLstS, comp_K, capσ, sub_nil, sub_none, sub_some, tYes, List.replicate, Option.join_some, Option.join_none, SL_inj, iStr, tPart, tNoPart, tSl, tLst, tTup, cx_K, slT, CDiv, Int.reduceLT, Int.reduceLE, Int.reduceToNat, Int.reduceNeg, Int.reduceAdd, Int.reduceSub, Int.reduceMul, forall_const, tSeq, tNext, tIfS, tRet, tRetN, tDrop, tAsg, gName, gCons, gNil, tVar, tC, tOp, rI, rI0, tUn, rU, tTest, tB, tAnd, tOr, tNot, tAndV, tOrV, tNotV, tIf, tCons, tNil, tCallX, tCallL, tCB, sRaise, rEq, rNe, scal_ii, scal_bb, scal_ss, scal_ni, scal_in, tChain, tAug, ipI, L2.start, List.map_cons, List.map_nil, List.length_cons, List.length_nil, List.cons_append, List.nil_append, List.append_nil, List.replicate_succ, List.replicate_zero, Nat.reduceAdd, Nat.reduceSub, List.getElem?_cons_zero, List.getElem?_cons_succ, List.set_cons_zero, List.set_cons_succ, Option.some.injEq, V.int.injEq, V.bl.injEq, V.ref.injEq, V.str.injEq, exists_eq_left', exists_eq_left, exists_eq', exists_and_left, List.cons.injEq, and_true, true_and, and_self, and_assoc, decide_eq_true_eq, if_true, if_false, Bool.true_eq_false, Bool.false_eq_true, Bool.not_eq_true', Bool.not_true, Bool.not_false, decide_eq_false_iff_not, ite_true, ite_false, reduceCtorEq, false_and, exists_false, false_or, or_false, and_false]
    refine ⟨y, 1 + (i : Int), rfl, fun _ => ?_, fun no => absurd ⟨o1, o2, by omega, by omega⟩ no⟩
    refine ⟨_, rfl, rfl, ?_⟩
    have s := Cal.cum_succ (y := y) (m := (i : Int) + 1) (by omega) (by omega)
    have e1 : ((i + 1 : Nat) : Int) + 1 = (i : Int) + 1 + 1 := by omega
    have e2 : (1 : Int) + (i : Int) = (i : Int) + 1 := by omega
    rw [e1, s, e2, Int.add_assoc]
  · obtain ⟨rfl, e, rfl⟩ := h
    simp only [tItems, tRev, tDNewS, tDIn, tDNotIn, sDPut, tDPop1, tDGet2, tDGet, tDc, tCallKX, kwG_one, tEither, tTupS, tLstS, comp_K, capσ, sub_nil, sub_none, sub_some, tYes, List.replicate, Option.join_some, Option.join_none, SL_inj, iStr, tPart, tNoPart, tSl, tLst, tTup, cx_K, slT, CDiv, Int.reduceLT, Int.reduceLE, Int.reduceToNat, Int.reduceNeg, Int.reduceAdd, Int.reduceSub, Int.reduceMul, forall_const, tSeq, tNext, tIfS, tRet, tRetN, tDrop, tAsg, gName, gCons, gNil, tVar, tC, tOp, rI, rI0, tUn, rU, tTest, tB, tAnd, tOr, tNot, tAndV, tOrV, tNotV, tIf, tCons, tNil, tCallX, tCallL, tCB, sRaise, rEq, rNe, scal_ii, scal_bb, scal_ss, scal_ni, scal_in, tChain, tAug, ipI, L2.start, List.map_cons, List.map_nil, List.length_cons, List.length_nil, List.cons_append, List.nil_append, List.append_nil, List.replicate_succ, List.replicate_zero, Nat.reduceAdd, Nat.reduceSub, List.getElem?_cons_zero, List.getElem?_cons_succ, List.set_cons_zero, List.set_cons_succ, Option.some.injEq, V.int.injEq, V.bl.injEq, V.ref.injEq, V.str.injEq, exists_eq_left', exists_eq_left, exists_eq', exists_and_left, List.cons.injEq, and_true, true_and, and_self, and_assoc, decide_eq_true_eq, if_true, if_false, Bool.true_eq_false, Bool.false_eq_true, Bool.not_eq_true', Bool.not_true, Bool.not_false, decide_eq_false_iff_not, ite_true, ite_false, reduceCtorEq, false_and, exists_false, false_or, or_false, and_false]
    have e1 : (((m - 1).toNat : Nat) : Int) + 1 = m := by omega
    rw [e1]
    exact q
def spYearOf : Sp := fun vs H Q _ => ∃ n : Int, vs = [.int n] ∧ ∀ H', Same H H' → Q (.int (Cal.yearOf n)) H'
theorem sc_year_of : FnScope ["number", "rounds", "rest", "hundreds", "fours", "ones"] ["number"] (defScope s_year_of) := ⟨rfl, rfl, rfl, by decide +kernel, rfl, by decide +kernel, by decide +kernel⟩
theorem ok_year_of (T : Txt w K mg t) : FnOk P w K mg base (CXE P w) 1 t.a_year_of t.d_year_of ["number"] spYearOf := by
  refine T.fn_year_of.okX sc_year_of (fun vs H Q E h => ?_) (fun cdv A outer s H vs Q E L hr h => ?_)
  · obtain ⟨n, rfl, _⟩ := h
    rfl
  obtain ⟨n, rfl, q⟩ := h
  have nd := sc_year_of.nd
  obtain ⟨u_ROUND_DAYS, h_ROUND_DAYS, r_ROUND_DAYS⟩ := T.k_ROUND_DAYS
  obtain ⟨u_HUNDRED_YEARS_DAYS, h_HUNDRED_YEARS_DAYS, r_HUNDRED_YEARS_DAYS⟩ := T.k_HUNDRED_YEARS_DAYS
  obtain ⟨u_FOUR_YEARS_DAYS, h_FOUR_YEARS_DAYS, r_FOUR_YEARS_DAYS⟩ := T.k_FOUR_YEARS_DAYS
  obtain ⟨u_YEAR_DAYS, h_YEAR_DAYS, r_YEAR_DAYS⟩ := T.k_YEAR_DAYS
  refine ⟨_, (pss_cons (ps_asg (pe_callB call_divmod (by rfl) T.no_divmod bb_divmod (pa_cons (pv 0) (pa_cons (pe_glob (by rfl) h_ROUND_DAYS r_ROUND_DAYS) pa_nil star_Name) star_Name)) (pg_tup (n := 2) rfl (pgs_cons (pg_name (i := 1) nd rfl (Or.inl rfl)) (pgs_cons (pg_name (i := 2) nd rfl (Or.inl rfl)) pgs_nil)))) (pss_cons (ps_set (i := 3) nd rfl (Or.inl rfl) (pe_callB (call_min2 (by rfl)) (by rfl) T.no_min bb_min (pa_cons (pe_op op_fdiv (pv 2) (pe_glob (by rfl) h_HUNDRED_YEARS_DAYS r_HUNDRED_YEARS_DAYS)) (pa_cons pe_int pa_nil star_Constant) star_BinOp))) (pss_cons (ps_aug (i := 2) nd rfl (Or.inl rfl) (pe_op op_mul (pv 3) (pe_glob (by rfl) h_HUNDRED_YEARS_DAYS r_HUNDRED_YEARS_DAYS)) ip_sub) (pss_cons (ps_asg (pe_callB call_divmod (by rfl) T.no_divmod bb_divmod (pa_cons (pv 2) (pa_cons (pe_glob (by rfl) h_FOUR_YEARS_DAYS r_FOUR_YEARS_DAYS) pa_nil star_Name) star_Name)) (pg_tup (n := 2) rfl (pgs_cons (pg_name (i := 4) nd rfl (Or.inl rfl)) (pgs_cons (pg_name (i := 2) nd rfl (Or.inl rfl)) pgs_nil)))) (pss_cons (ps_set (i := 5) nd rfl (Or.inl rfl) (pe_callB (call_min2 (by rfl)) (by rfl) T.no_min bb_min (pa_cons (pe_op op_fdiv (pv 2) (pe_glob (by rfl) h_YEAR_DAYS r_YEAR_DAYS)) (pa_cons pe_int pa_nil star_Constant) star_BinOp))) (pss_one (ps_ret (pe_op op_add (pe_op op_add (pe_op op_add (pe_op op_add (pe_op op_mul (pv 1) pe_int) (pe_op op_mul (pv 3) pe_int)) (pe_op op_mul (pv 4) pe_int)) (pv 5)) pe_int)))))))), ?_⟩
  open_k0
  intro p hp
  refine ⟨p, _, rfl, SqT.of upd_same, rfl, ?_⟩
  simp only [tItems, tRev, tDNewS, tDIn, tDNotIn, sDPut, tDPop1, tDGet2, tDGet, tDc, tCallKX, kwG_one, tEither, tTupS, tLstS, comp_K, capσ, sub_nil, sub_none, sub_some, tYes, List.replicate, Option.join_some, Option.join_none, SL_inj, iStr, tPart, tNoPart, tSl, tLst, tTup, cx_K, slT, CDiv, Int.reduceLT, Int.reduceLE, Int.reduceToNat, Int.reduceNeg, Int.reduceAdd, Int.reduceSub, Int.reduceMul, forall_const, tSeq, tNext, tIfS, tRet, tRetN, tDrop, tAsg, gName, gCons, gNil, tVar, tC, tOp, rI, rI0, tUn, rU, tTest, tB, tAnd, tOr, tNot, tAndV, tOrV, tNotV, tIf, tCons, tNil, tCallX, tCallL, tCB, sRaise, rEq, rNe, scal_ii, scal_bb, scal_ss, scal_ni, scal_in, tChain, tAug, ipI, L2.start, List.map_cons, List.map_nil, List.length_cons, List.length_nil, List.cons_append, List.nil_append, List.append_nil, List.replicate_succ, List.replicate_zero, Nat.reduceAdd, Nat.reduceSub, List.getElem?_cons_zero, List.getElem?_cons_succ, List.set_cons_zero, List.set_cons_succ, Option.some.injEq, V.int.injEq, V.bl.injEq, V.ref.injEq, V.str.injEq, exists_eq_left', exists_eq_left, exists_eq', exists_and_left, List.cons.injEq, and_true, true_and, and_self, and_assoc, decide_eq_true_eq, if_true, if_false, Bool.true_eq_false, Bool.false_eq_true, Bool.not_eq_true', Bool.not_true, Bool.not_false, decide_eq_false_iff_not, ite_true, ite_false, reduceCtorEq, false_and, exists_false, false_or, or_false, and_false]
  refine ⟨Or.inr ⟨by decide, by decide⟩, fun p2 hp2 => ⟨p2, _, rfl, SqT.of upd_same, rfl, ?_⟩⟩
  simp only [tItems, tRev, tDNewS, tDIn, tDNotIn, sDPut, tDPop1, tDGet2, tDGet, tDc, tCallKX, kwG_one, tEither, tTupS, tLstS, comp_K, capσ, sub_nil, sub_none, sub_some, tYes, List.replicate, Option.join_some, Option.join_none, SL_inj, iStr, tPart, tNoPart, tSl, tLst, tTup, cx_K, slT, CDiv, Int.reduceLT, Int.reduceLE, Int.reduceToNat, Int.reduceNeg, Int.reduceAdd, Int.reduceSub, Int.reduceMul, forall_const, tSeq, tNext, tIfS, tRet, tRetN, tDrop, tAsg, gName, gCons, gNil, tVar, tC, tOp, rI, rI0, tUn, rU, tTest, tB, tAnd, tOr, tNot, tAndV, tOrV, tNotV, tIf, tCons, tNil, tCallX, tCallL, tCB, sRaise, rEq, rNe, scal_ii, scal_bb, scal_ss, scal_ni, scal_in, tChain, tAug, ipI, L2.start, List.map_cons, List.map_nil, List.length_cons, List.length_nil, List.cons_append, List.nil_append, List.append_nil, List.replicate_succ, List.replicate_zero, Nat.reduceAdd, Nat.reduceSub, List.getElem?_cons_zero, List.getElem?_cons_succ, List.set_cons_zero, List.set_cons_succ, Option.some.injEq, V.int.injEq, V.bl.injEq, V.ref.injEq, V.str.injEq, exists_eq_left', exists_eq_left, exists_eq', exists_and_left, List.cons.injEq, and_true, true_and, and_self, and_assoc, decide_eq_true_eq, if_true, if_false, Bool.true_eq_false, Bool.false_eq_true, Bool.not_eq_true', Bool.not_true, Bool.not_false, decide_eq_false_iff_not, ite_true, ite_false, reduceCtorEq, false_and, exists_false, false_or, or_false, and_false]
  refine ⟨Or.inr ⟨by decide, by decide⟩, Or.inr ⟨by decide, by decide⟩, Or.inr ⟨by decide, by decide⟩, ?_⟩
  have e : ∀ r : Int, r = Cal.yearOf n → Q (.int r) (upd (upd H p (.tup [.int (n / 146097), .int (n % 146097)])) p2 (.tup [.int ((n % 146097 - (if 3 < n % 146097 / 36524 then 3 else n % 146097 / 36524) * 36524) / 1461), .int ((n % 146097 - (if 3 < n % 146097 / 36524 then 3 else n % 146097 / 36524) * 36524) % 1461)])) := fun r z => by
    rw [z]
    exact q _ ((same_new hp _).trans (same_new hp2 _))
  refine e _ ?_
  unfold Cal.yearOf
  have m1 : ∀ a : Int, min a 3 = if 3 < a then 3 else a := fun a => by split <;> omega
  simp only [m1]
def spDateOf (t : Adr) : Sp := fun vs H Q E => ∃ n : Int, vs = [.int n] ∧
  (0 ≤ n ∧ n ≤ 3652058 → ∀ y m d p H', Cal.Valid y m d → Cal.num y m d = n → Same H H' → H' p = some (.tup [.int y, .int m, .int d]) → Q (.ref p) H') ∧ (¬ (0 ≤ n ∧ n ≤ 3652058) → E (.ref t.c_NoDate) none H)
theorem sc_date_of : FnScope ["number", "year", "rest", "month"] ["number"] (defScope s_date_of) := ⟨rfl, rfl, rfl, by decide +kernel, rfl, by decide +kernel, by decide +kernel⟩
theorem ok_date_of (T : Txt w K mg t) : FnOk P w K mg base (CXE P w) 3 t.a_date_of t.d_date_of ["number"] (spDateOf t) := by
  refine T.fn_date_of.okX sc_date_of (fun vs H Q E h => ?_) (fun cdv A outer s H vs Q E L hr h => ?_)
  · obtain ⟨n, rfl, _⟩ := h
    rfl
  obtain ⟨n, rfl, q1, q2⟩ := h
  have nd := sc_date_of.nd
  obtain ⟨u_LAST_DAY, h_LAST_DAY, r_LAST_DAY⟩ := T.k_LAST_DAY
  refine ⟨_, (pss_cons (ps_if (pw_or (pt_cmpR op_lt (pv 0) pe_int (nomark _)) (pw_or1 (pt_cmpR op_gt (pv 0) (pe_glob (by rfl) h_LAST_DAY r_LAST_DAY) (nomark _)))).pt (pss_one (ps_raise L T.ex_NoDate (by rfl) (by rfl) T.mg_NoDate (pa_cons pe_str pa_nil))) pss_nil) (pss_cons (ps_set (i := 1) nd rfl (Or.inl rfl) (pe_callX L.toLv (ok_year_of T) (hr.mono (by decide)) (by rfl) T.mg_year_of T.fn_year_of.kp T.b_year_of .nil (pa_cons (pv 0) pa_nil))) (pss_cons (ps_set (i := 2) nd rfl (Or.inl rfl) (pe_op op_sub (pv 0) (pe_callX L.toLv (ok_days_ahead_of_year T) (hr.mono (by decide)) (by rfl) T.mg_days_ahead_of_year T.fn_days_ahead_of_year.kp T.b_days_ahead_of_year .nil (pa_cons (pv 1) pa_nil)))) (pss_cons (ps_set (i := 3) nd rfl (Or.inl rfl) pe_int) (pss_cons (ps_while (by passes_own) (pt_cmpR op_ge (pv 2) (pe_callX L.toLv (ok_days_in T) (hr.mono (by decide)) (by rfl) T.mg_days_in T.fn_days_in.kp T.b_days_in .nil (pa_cons (pv 1) (pa_cons (pv 3) pa_nil star_Name) star_Name)) (nomark _)) (pss_cons (ps_aug (i := 2) nd rfl (Or.inl rfl) (pe_callX L.toLv (ok_days_in T) (hr.mono (by decide)) (by rfl) T.mg_days_in T.fn_days_in.kp T.b_days_in .nil (pa_cons (pv 1) (pa_cons (pv 3) pa_nil star_Name) star_Name)) ip_sub) (pss_one (ps_aug (i := 3) nd rfl (Or.inl rfl) pe_int ip_add)))) (pss_one (ps_ret (pe_tup (pa_cons (pv 1) (pa_cons (pv 3) (pa_cons (pe_op op_add (pv 2) pe_int) pa_nil star_BinOp) star_Name) star_Name))))))))), ?_⟩
  open_k0
  split
  · exact q2 (fun z => by obtain ⟨_, _⟩ := z; omega)
  split
  · exact q2 (fun z => by obtain ⟨_, _⟩ := z; omega)
  have n0 : 0 ≤ n := by omega
  have n1 : n ≤ 3652058 := by omega
  have q := q1 ⟨n0, n1⟩
  obtain ⟨y1, y2, y3, y4⟩ := Cal.yearOf_spec n0 n1
  refine ⟨n, rfl, fun H1 sm => ⟨_, rfl, _, rfl, ?_⟩⟩
  refine ⟨fun k σ1 H2 => H2 = H1 ∧ ∃ m : Int, σ1 = [some (.int n), some (.int (Cal.yearOf n)), some (.int (n - Cal.ahead (Cal.yearOf n) - Cal.cum (Cal.yearOf n) m)), some (.int m)] ∧ 1 ≤ m ∧ m ≤ 12 ∧ Cal.cum (Cal.yearOf n) m ≤ n - Cal.ahead (Cal.yearOf n) ∧ k = (13 - m).toNat, ⟨12, rfl, 1, ?_, by decide, by decide, by rw [Cal.cum_one]; omega, by decide⟩, ?_⟩
  · rw [Cal.cum_one, Int.sub_zero]
  · rintro k σ1 H2 ⟨rfl, m, rfl, m1, m2, m3, rfl⟩
    simp only [tItems, tRev, tDNewS, tDIn, tDNotIn, sDPut, tDPop1, tDGet2, tDGet, tDc, tCallKX, kwG_one, tEither, tTupS, tLstS, comp_K, capσ, sub_nil, sub_none, sub_some, tYes, List.replicate, Option.join_some, Option.join_none, SL_inj, iStr, tPart, tNoPart, tSl, tLst, tTup, cx_K, slT, CDiv, Int.reduceLT, Int.reduceLE, Int.reduceToNat, Int.reduceNeg, Int.reduceAdd, Int.reduceSub, Int.reduceMul, forall_const, tSeq, tNext, tIfS, tRet, tRetN, tDrop, tAsg, gName, gCons, gNil, tVar, tC, tOp, rI, rI0, tUn, rU, tTest, tB, tAnd, tOr, tNot, tAndV, tOrV, tNotV, tIf, tCons, tNil, tCallX, tCallL, tCB, sRaise, rEq, rNe, scal_ii, scal_bb, scal_ss, scal_ni, scal_in, tChain, tAug, ipI, L2.start, List.map_cons, List.map_nil, List.length_cons, List.length_nil, List.cons_append, List.nil_append, List.append_nil, List.replicate_succ, List.replicate_zero, Nat.reduceAdd, Nat.reduceSub, List.getElem?_cons_zero, List.getElem?_cons_succ, List.set_cons_zero, List.set_cons_succ, Option.some.injEq, V.int.injEq, V.bl.injEq, V.ref.injEq, V.str.injEq, exists_eq_left', exists_eq_left, exists_eq', exists_and_left, List.cons.injEq, and_true, true_and, and_self, and_assoc, decide_eq_true_eq, if_true, if_false, Bool.true_eq_false, Bool.false_eq_true, Bool.not_eq_true', Bool.not_true, Bool.not_false, decide_eq_false_iff_not, ite_true, ite_false, reduceCtorEq, false_and, exists_false, false_or, or_false, and_false]
    refine ⟨_, m, rfl, fun _ => ?_, fun no => absurd ⟨y1, y2, m1, m2⟩ no⟩
    simp only [tItems, tRev, tDNewS, tDIn, tDNotIn, sDPut, tDPop1, tDGet2, tDGet, tDc, tCallKX, kwG_one, tEither, tTupS, tLstS, comp_K, capσ, sub_nil, sub_none, sub_some, tYes, List.replicate, Option.join_some, Option.join_none, SL_inj, iStr, tPart, tNoPart, tSl, tLst, tTup, cx_K, slT, CDiv, Int.reduceLT, Int.reduceLE, Int.reduceToNat, Int.reduceNeg, Int.reduceAdd, Int.reduceSub, Int.reduceMul, forall_const, tSeq, tNext, tIfS, tRet, tRetN, tDrop, tAsg, gName, gCons, gNil, tVar, tC, tOp, rI, rI0, tUn, rU, tTest, tB, tAnd, tOr, tNot, tAndV, tOrV, tNotV, tIf, tCons, tNil, tCallX, tCallL, tCB, sRaise, rEq, rNe, scal_ii, scal_bb, scal_ss, scal_ni, scal_in, tChain, tAug, ipI, L2.start, List.map_cons, List.map_nil, List.length_cons, List.length_nil, List.cons_append, List.nil_append, List.append_nil, List.replicate_succ, List.replicate_zero, Nat.reduceAdd, Nat.reduceSub, List.getElem?_cons_zero, List.getElem?_cons_succ, List.set_cons_zero, List.set_cons_succ, Option.some.injEq, V.int.injEq, V.bl.injEq, V.ref.injEq, V.str.injEq, exists_eq_left', exists_eq_left, exists_eq', exists_and_left, List.cons.injEq, and_true, true_and, and_self, and_assoc, decide_eq_true_eq, if_true, if_false, Bool.true_eq_false, Bool.false_eq_true, Bool.not_eq_true', Bool.not_true, Bool.not_false, decide_eq_false_iff_not, ite_true, ite_false, reduceCtorEq, false_and, exists_false, false_or, or_false, and_false]
    split
    · rename_i c
      have lt : m < 12 := by
        apply Classical.byContradiction
        intro z
        obtain rfl : m = 12 := by omega
        have s := Cal.cum_succ (y := Cal.yearOf n) (m := 12) (by decide) (by decide)
        have u : Cal.cum (Cal.yearOf n) (12 + 1) = 365 + Cal.lp (Cal.yearOf n) := Cal.cum_13 _
        omega
      have s := Cal.cum_succ (y := Cal.yearOf n) m1 m2
      refine ⟨_, fun σ2 H3 h => h, ?_⟩
      refine ⟨_, m, rfl, fun _ => ?_, fun no => absurd ⟨y1, y2, m1, m2⟩ no⟩
      simp only [tItems, tRev, tDNewS, tDIn, tDNotIn, sDPut, tDPop1, tDGet2, tDGet, tDc, tCallKX, kwG_one, tEither, tTupS, tLstS, comp_K, capσ, sub_nil, sub_none, sub_some, tYes, List.replicate, Option.join_some, Option.join_none, SL_inj, iStr, tPart, tNoPart, tSl, tLst, tTup, cx_K, slT, CDiv, Int.reduceLT, Int.reduceLE, Int.reduceToNat, Int.reduceNeg, Int.reduceAdd, Int.reduceSub, Int.reduceMul, forall_const, tSeq, tNext, tIfS, tRet, tRetN, tDrop, tAsg, gName, gCons, gNil, tVar, tC, tOp, rI, rI0, tUn, rU, tTest, tB, tAnd, tOr, tNot, tAndV, tOrV, tNotV, tIf, tCons, tNil, tCallX, tCallL, tCB, sRaise, rEq, rNe, scal_ii, scal_bb, scal_ss, scal_ni, scal_in, tChain, tAug, ipI, L2.start, List.map_cons, List.map_nil, List.length_cons, List.length_nil, List.cons_append, List.nil_append, List.append_nil, List.replicate_succ, List.replicate_zero, Nat.reduceAdd, Nat.reduceSub, List.getElem?_cons_zero, List.getElem?_cons_succ, List.set_cons_zero, List.set_cons_succ, Option.some.injEq, V.int.injEq, V.bl.injEq, V.ref.injEq, V.str.injEq, exists_eq_left', exists_eq_left, exists_eq', exists_and_left, List.cons.injEq, and_true, true_and, and_self, and_assoc, decide_eq_true_eq, if_true, if_false, Bool.true_eq_false, Bool.false_eq_true, Bool.not_eq_true', Bool.not_true, Bool.not_false, decide_eq_false_iff_not, ite_true, ite_false, reduceCtorEq, false_and, exists_false, false_or, or_false, and_false]
      exact ⟨(13 - (m + 1)).toNat, by omega, m + 1, by omega, rfl, by omega, by omega, by omega, rfl⟩
    · rename_i c
      open_k0
      intro p hp
      have s := Cal.cum_succ (y := Cal.yearOf n) m1 m2
      refine q (Cal.yearOf n) m (n - Cal.ahead (Cal.yearOf n) - Cal.cum (Cal.yearOf n) m + 1) p _ ⟨y1, y2, m1, m2, by omega, by omega⟩ (by unfold Cal.num; omega) (sm.trans (same_new hp _)) upd_same
def spMonthsOn (t : Adr) : Sp := fun vs H Q E => ∃ n k y m d : Int, vs = [.int n, .int k] ∧ Cal.Valid y m d ∧ Cal.num y m d = n ∧
  (Cal.MonOk y m k → ∀ H', Same H H' → Q (.int (Cal.num (Cal.monY y m k) (Cal.monM y m k) (Cal.monD y m d k))) H') ∧ (¬ Cal.MonOk y m k → ∀ H', Same H H' → E (.ref t.c_NoDate) none H')
theorem sc_months_on : FnScope ["number", "many", "year", "month", "day", "months", "to_year", "to_month"] ["number", "many"] (defScope s_months_on) := ⟨rfl, rfl, rfl, by decide +kernel, rfl, by decide +kernel, by decide +kernel⟩
theorem ok_months_on (T : Txt w K mg t) : FnOk P w K mg base (CXE P w) 4 t.a_months_on t.d_months_on ["number", "many"] (spMonthsOn t) := by
  refine T.fn_months_on.okX sc_months_on (fun vs H Q E h => ?_) (fun cdv A outer s H vs Q E L hr h => ?_)
  · obtain ⟨n, k, y, m, d, rfl, va, hn, q1, q2⟩ := h
    rfl
  obtain ⟨n, k, y, m, d, rfl, va, hn, q1, q2⟩ := h
  have nd := sc_months_on.nd
  refine ⟨_, (pss_cons (ps_asg (pe_callX L.toLv (ok_date_of T) (hr.mono (by decide)) (by rfl) T.mg_date_of T.fn_date_of.kp T.b_date_of .nil (pa_cons (pv 0) pa_nil)) (pg_tup (n := 3) rfl (pgs_cons (pg_name (i := 2) nd rfl (Or.inl rfl)) (pgs_cons (pg_name (i := 3) nd rfl (Or.inl rfl)) (pgs_cons (pg_name (i := 4) nd rfl (Or.inl rfl)) pgs_nil))))) (pss_cons (ps_set (i := 5) nd rfl (Or.inl rfl) (pe_op op_add (pe_op op_sub (pe_op op_add (pe_op op_mul (pv 2) pe_int) (pv 3)) pe_int) (pv 1))) (pss_cons (ps_set (i := 6) nd rfl (Or.inl rfl) (pe_op op_fdiv (pv 5) pe_int)) (pss_cons (ps_set (i := 7) nd rfl (Or.inl rfl) (pe_op op_add (pe_op op_mod (pv 5) pe_int) pe_int)) (pss_one (ps_ret (pe_callX L.toLv (ok_day_of T) (hr.mono (by decide)) (by rfl) T.mg_day_of T.fn_day_of.kp T.b_day_of .nil (pa_cons (pv 6) (pa_cons (pv 7) (pa_cons (pe_callB (call_min2 (by rfl)) (by rfl) T.no_min bb_min (pa_cons (pv 4) (pa_cons (pe_callX L.toLv (ok_days_in T) (hr.mono (by decide)) (by rfl) T.mg_days_in T.fn_days_in.kp T.b_days_in .nil (pa_cons (pv 6) (pa_cons (pv 7) pa_nil star_Name) star_Name)) pa_nil star_Call) star_Name)) pa_nil star_Call) star_Name) star_Name)))))))), ?_⟩
  open_k0
  have nr := Cal.num_range va
  refine ⟨_, rfl, fun _ y' m' d' p H1 va' hn' s1 hp => ?_, fun no => absurd (by omega) no⟩
  obtain ⟨rfl, rfl, rfl⟩ := Cal.num_inj va' va (by rw [hn', hn])
  refine ⟨p, _, rfl, SqT.of hp, rfl, ?_⟩
  open_k0
  refine ⟨Or.inr ⟨by decide, by decide⟩, _, _, rfl, fun ok => ?_, fun no => q2 (fun z => no ⟨z.1, z.2, by omega, by omega⟩) _ s1⟩
  obtain ⟨o1, o2, o3, o4⟩ := ok
  have mo : Cal.MonOk y' m' k := ⟨o1, o2⟩
  exact ⟨_, rfl, _, _, _, rfl, fun _ => q1 mo _ s1, fun no => absurd (Cal.mon_valid va mo) no⟩
/-- a cell of the script, 0 where there is none -/
def cellOf (ns : List Int) (k : Int) : Int := ns.getD k.toNat 0
def spCell (K : PySem.W.Frag) : Sp := fun vs H Q _ => ∃ (a : Addr) (ns : List Int) (k : Int), vs = [.ref a, .int k] ∧ SqL K H a (ns.map V.int) ∧ ns.length ≤ 63 ∧ 0 ≤ k ∧ Q (.int (cellOf ns k)) H
theorem sc_xL_cell_at : FnScope ["_law_script", "_law_k"] ["_law_script", "_law_k"] (defScope s_xL_cell_at) := ⟨rfl, rfl, rfl, by decide +kernel, rfl, by decide +kernel, by decide +kernel⟩
theorem ok_xL_cell_at (T : Txt w K mg t) : FnOk P w K mg base (CXE P w) 1 t.a_xL_cell_at t.d_xL_cell_at ["_law_script", "_law_k"] (spCell K) := by
  refine T.fn_xL_cell_at.okX sc_xL_cell_at (fun vs H Q E h => ?_) (fun cdv A outer s H vs Q E L hr h => ?_)
  · obtain ⟨a, ns, k, rfl, hS, h63, k0, q⟩ := h
    rfl
  obtain ⟨a, ns, k, rfl, hS, h63, k0, q⟩ := h
  have nd := sc_xL_cell_at.nd
  refine ⟨_, (pss_cons (ps_if (pt_cmpR op_lt (pv 1) (pe_callB call_len_seq (by rfl) T.no_len bb_len (pa_cons (pv 0) pa_nil)) (nomark _)) (pss_one (ps_ret (pe_ix ix_list (pv 0) (pv 1) (fun _ _ => rfl)))) pss_nil) (pss_one (ps_ret pe_int))), ?_⟩
  open_k0
  refine ⟨_, .inl hS, ?_⟩
  rw [List.length_map]
  split
  · exact ixL hS (at_ints k0 (by omega)) q
  · have e : cellOf ns k = 0 := by
      unfold cellOf
      rw [List.getD_eq_getElem?_getD, List.getElem?_eq_none (by omega)]
      rfl
    rw [e] at q
    exact q
def IsCyc (K : PySem.W.Frag) (H : Hp) (p : Addr) (dy : Bool) (c : Int) : Prop := SqT K H p [.str (SL (if dy then [100, 97, 121, 115] else [109, 111, 110, 116, 104, 115])), .int c] ∧ Cal.CycOk dy c
noncomputable def begs (f : Int) (dy : Bool) (c : Int) (n : Nat) : List V := (List.range n).map fun j : Nat => V.int (Cal.beg f dy c j)
theorem IsCyc.same {K : PySem.W.Frag} {H H' : Hp} {p : Addr} {dy : Bool} {c : Int} (h : IsCyc K H p dy c) (sm : Same H H') : IsCyc K H' p dy c := ⟨sm.sqT h.1, h.2⟩
def spBegin (K : PySem.W.Frag) (t : Adr) : Sp := fun vs H Q E => ∃ (f : Int) (p : Addr) (dy : Bool) (c k : Int), vs = [.int f, .ref p, .int k] ∧ 0 ≤ f ∧ f ≤ 3500000 ∧ IsCyc K H p dy c ∧
  (0 ≤ k → k ≤ 60 → ∀ H', Same H H' → Q (.int (Cal.beg f dy c k)) H') ∧ (k < 0 → ∀ H', Same H H' → E (.ref t.c_NoSpan) none H') ∧ (60 < k → ∀ H', Same H H' → E (.ref t.c_TooLong) none H')
theorem sc_begin_of : FnScope ["first", "cycle", "k", "word", "many"] ["first", "cycle", "k"] (defScope s_begin_of) := ⟨rfl, rfl, rfl, by decide +kernel, rfl, by decide +kernel, by decide +kernel⟩
theorem ok_begin_of (T : Txt w K mg t) : FnOk P w K mg base (CXE P w) 5 t.a_begin_of t.d_begin_of ["first", "cycle", "k"] (spBegin K t) := by
  refine T.fn_begin_of.okX sc_begin_of (fun vs H Q E h => ?_) (fun cdv A outer s H vs Q E L hr h => ?_)
  · obtain ⟨f, p, dy, c, k, rfl, f0, f1, hc, q1, q2, q3⟩ := h
    rfl
  obtain ⟨f, p, dy, c, k, rfl, f0, f1, hc, q1, q2, q3⟩ := h
  have nd := sc_begin_of.nd
  obtain ⟨u_SPANS, h_SPANS, r_SPANS⟩ := T.k_SPANS
  refine ⟨_, (pss_cons (ps_if (pt_cmpR op_lt (pv 2) pe_int (nomark _)) (pss_one (ps_raise L T.ex_NoSpan (by rfl) (by rfl) T.mg_NoSpan (pa_cons pe_str pa_nil))) pss_nil) (pss_cons (ps_if (pt_cmpR op_gt (pv 2) (pe_glob (by rfl) h_SPANS r_SPANS) (nomark _)) (pss_one (ps_raise L T.ex_TooLong (by rfl) (by rfl) T.mg_TooLong (pa_cons pe_str pa_nil))) pss_nil) (pss_cons (ps_asg (pv 1) (pg_tup (n := 2) rfl (pgs_cons (pg_name (i := 3) nd rfl (Or.inl rfl)) (pgs_cons (pg_name (i := 4) nd rfl (Or.inl rfl)) pgs_nil)))) (pss_cons (ps_if (pt_cmpR op_eq (pv 3) (pe_strL st_4) (nomark _)) (pss_one (ps_ret (pe_callX L.toLv (ok_months_on T) (hr.mono (by decide)) (by rfl) T.mg_months_on T.fn_months_on.kp T.b_months_on .nil (pa_cons (pv 0) (pa_cons (pe_op op_mul (pv 2) (pv 4)) pa_nil star_BinOp) star_Name)))) pss_nil) (pss_one (ps_ret (pe_op op_add (pv 0) (pe_op op_mul (pv 2) (pv 4))))))))), ?_⟩
  open_k0
  split
  · rename_i h
    exact q2 h _ (Same.refl _)
  rename_i h0
  split
  · rename_i h
    exact q3 h _ (Same.refl _)
  rename_i h1
  have q := q1 (by omega) (by omega)
  refine ⟨p, _, rfl, hc.1, rfl, ?_⟩
  open_k0
  obtain ⟨c0, c1⟩ := hc.2
  cases dy with
  | true =>
    rw [if_neg (by decide)]
    rw [if_pos rfl] at c1
    refine ⟨.inl ⟨by omega, by omega⟩, ?_⟩
    exact q H (Same.refl _)
  | false =>
    rw [if_pos (by decide)]
    rw [if_neg (by decide)] at c1
    obtain ⟨y, m, d, va, hn⟩ := Cal.date_exists f0 (show f ≤ 3652058 by omega)
    have mb := Cal.mul_bound c0 c1 (show 0 ≤ k by omega) (show k ≤ 60 by omega)
    have mo := Cal.mon_ok va (by omega) mb.1 mb.2
    refine ⟨.inl ⟨by omega, by omega⟩, f, k * c, y, m, d, rfl, va, hn, fun _ H' s' => ?_, fun no => absurd mo no⟩
    have e : Cal.beg f false c k = Cal.num (Cal.monY y m (k * c)) (Cal.monM y m (k * c)) (Cal.monD y m d (k * c)) := by
      unfold Cal.beg
      rw [if_neg (by decide), ← hn, Cal.mon_eq va]
    rw [← e]
    exact q H' s'
def spSpanOn (K : PySem.W.Frag) (t : Adr) : Sp := fun vs H Q E => ∃ (f : Int) (p : Addr) (dy : Bool) (c d : Int), vs = [.int f, .ref p, .int d] ∧ 0 ≤ f ∧ f ≤ 3500000 ∧ IsCyc K H p dy c ∧
  (∀ k : Int, 0 ≤ k → k < 60 → Cal.beg f dy c k ≤ d → d < Cal.beg f dy c (k + 1) → ∀ p H', Same H H' → H' p = some (.tup [.int k, .int (Cal.beg f dy c k), .int (Cal.beg f dy c (k + 1))]) → Q (.ref p) H') ∧
  (d < f → ∀ H', Same H H' → E (.ref t.c_NoSpan) none H') ∧ (Cal.beg f dy c 60 ≤ d → ∀ H', Same H H' → E (.ref t.c_TooLong) none H')
theorem sc_span_on : FnScope ["first", "cycle", "day", "low", "high", "middle"] ["first", "cycle", "day"] (defScope s_span_on) := ⟨rfl, rfl, rfl, by decide +kernel, rfl, by decide +kernel, by decide +kernel⟩
theorem ok_span_on (T : Txt w K mg t) : FnOk P w K mg base (CXE P w) 6 t.a_span_on t.d_span_on ["first", "cycle", "day"] (spSpanOn K t) := by
  refine T.fn_span_on.okX sc_span_on (fun vs H Q E h => ?_) (fun cdv A outer s H vs Q E L hr h => ?_)
  · obtain ⟨f, p, dy, c, d, rfl, f0, f1, hc, q1, q2, q3⟩ := h
    rfl
  obtain ⟨f, p, dy, c, d, rfl, f0, f1, hc, q1, q2, q3⟩ := h
  have nd := sc_span_on.nd
  obtain ⟨u_SPANS, h_SPANS, r_SPANS⟩ := T.k_SPANS
  refine ⟨_, (pss_cons (ps_if (pt_cmpR op_lt (pv 2) (pv 0) (nomark _)) (pss_one (ps_raise L T.ex_NoSpan (by rfl) (by rfl) T.mg_NoSpan (pa_cons pe_str pa_nil))) pss_nil) (pss_cons (ps_if (pt_cmpR op_ge (pv 2) (pe_callX L.toLv (ok_begin_of T) (hr.mono (by decide)) (by rfl) T.mg_begin_of T.fn_begin_of.kp T.b_begin_of .nil (pa_cons (pv 0) (pa_cons (pv 1) (pa_cons (pe_glob (by rfl) h_SPANS r_SPANS) pa_nil star_Name) star_Name) star_Name)) (nomark _)) (pss_one (ps_raise L T.ex_TooLong (by rfl) (by rfl) T.mg_TooLong (pa_cons pe_str pa_nil))) pss_nil) (pss_cons (ps_set (i := 3) nd rfl (Or.inl rfl) pe_int) (pss_cons (ps_set (i := 4) nd rfl (Or.inl rfl) (pe_glob (by rfl) h_SPANS r_SPANS)) (pss_cons (ps_while (by passes_own) (pt_cmpR op_gt (pe_op op_sub (pv 4) (pv 3)) pe_int (nomark _)) (pss_cons (ps_set (i := 5) nd rfl (Or.inl rfl) (pe_op op_fdiv (pe_op op_add (pv 3) (pv 4)) pe_int)) (pss_one (ps_if (pt_cmpR op_lt (pv 2) (pe_callX L.toLv (ok_begin_of T) (hr.mono (by decide)) (by rfl) T.mg_begin_of T.fn_begin_of.kp T.b_begin_of .nil (pa_cons (pv 0) (pa_cons (pv 1) (pa_cons (pv 5) pa_nil star_Name) star_Name) star_Name)) (nomark _)) (pss_one (ps_set (i := 4) nd rfl (Or.inl rfl) (pv 5))) (pss_one (ps_set (i := 3) nd rfl (Or.inl rfl) (pv 5))))))) (pss_one (ps_ret (pe_tupS (pa_cons (pv 3) (pa_cons (pe_callX L.toLv (ok_begin_of T) (hr.mono (by decide)) (by rfl) T.mg_begin_of T.fn_begin_of.kp T.b_begin_of .nil (pa_cons (pv 0) (pa_cons (pv 1) (pa_cons (pv 3) pa_nil star_Name) star_Name) star_Name)) (pa_cons (pe_callX L.toLv (ok_begin_of T) (hr.mono (by decide)) (by rfl) T.mg_begin_of T.fn_begin_of.kp T.b_begin_of .nil (pa_cons (pv 0) (pa_cons (pv 1) (pa_cons (pv 4) pa_nil star_Name) star_Name) star_Name)) pa_nil star_Call) star_Call) star_Name))))))))), ?_⟩
  open_k0
  split
  · rename_i h
    exact q2 h _ (Same.refl _)
  rename_i h0
  refine ⟨f, p, dy, c, 60, rfl, f0, f1, hc, fun _ _ H1 s1 => ?_, fun z => absurd z (by decide), fun z => absurd z (by decide)⟩
  try open_k0
  split
  · rename_i h
    exact q3 h _ s1
  rename_i h1
  have b0 : Cal.beg f dy c 0 = f := Cal.beg_zero f0 f1
  obtain ⟨Pv, hPv⟩ : ∃ Pv : St → Hp → Prop, Pv = fun σ1 H2 => Same H H2 ∧ ∃ (lo hi : Int) (x5 : Option V), 0 ≤ lo ∧ lo < hi ∧ hi ≤ 60 ∧ Cal.beg f dy c lo ≤ d ∧ d < Cal.beg f dy c hi ∧ σ1 = [some (.int f), some (.ref p), some (.int d), some (.int lo), some (.int hi), x5] := ⟨_, rfl⟩
  obtain ⟨mu, hmu⟩ : ∃ mu : St → Hp → Nat, mu = fun σ1 _ => (match σ1 with | [_, _, _, some (.int lo), some (.int hi), _] => (hi - lo).toNat | _ => 0) := ⟨_, rfl⟩
  refine while_by Pv mu (by rw [hPv]; exact ⟨s1, 0, 60, _, by decide, by decide, by decide, by omega, by omega, rfl⟩) (fun σ1 H2 h => ?_) ?_
  · rw [hPv] at h
    obtain ⟨s2, lo, hi, x5, l0, lh, l1, d0, d1, rfl⟩ := h
    open_k0
    split
    · rename_i c2
      have m0 : lo < (lo + hi) / 2 ∧ (lo + hi) / 2 < hi := by omega
      generalize (lo + hi) / 2 = mi at m0 ⊢
      refine ⟨f, p, dy, c, mi, rfl, f0, f1, hc.same s2, fun _ _ H3 s3 => ?_, fun z => absurd z (by omega), fun z => absurd z (by omega)⟩
      try open_k0
      split
      · rename_i dm
        rw [hPv, hmu]
        exact ⟨⟨s2.trans s3, lo, mi, _, l0, m0.1, by omega, d0, dm, rfl⟩, by show (mi - lo).toNat < (hi - lo).toNat; omega⟩
      · rename_i dm
        rw [hPv, hmu]
        exact ⟨⟨s2.trans s3, mi, hi, _, by omega, m0.2, l1, by omega, d1, rfl⟩, by show (hi - mi).toNat < (hi - lo).toNat; omega⟩
    · rename_i c2
      obtain rfl : hi = lo + 1 := by omega
      refine ⟨f, p, dy, c, lo, rfl, f0, f1, hc.same s2, fun _ _ H3 s3 => ?_, fun z => absurd z (by omega), fun z => absurd z (by omega)⟩
      try open_k0
      refine ⟨f, p, dy, c, lo + 1, rfl, f0, f1, (hc.same s2).same s3, fun _ _ H4 s4 => ?_, fun z => absurd z (by omega), fun z => absurd z (by omega)⟩
      try open_k0
      intro p5 H5 _ s5 e5
      exact q1 lo l0 (by omega) d0 d1 p5 H5 (((s2.trans s3).trans s4).trans s5) e5
  · intro σ1 H1 Q1 Q2 hm h
    obtain ⟨x, hx, y, hy, i, j, e1, e2, i2, j2, e3, e4, k, e5, r⟩ := h
    exact ⟨x, hx, y, hy, i, j, e1, e2, i2, j2, e3, e4, k, e5, hm _ _ r⟩
theorem at_0 (v : V) (r : List V) : atI (v :: r) 0 = some v := atI_nat (j := 0) rfl
theorem at_1 (u v : V) (r : List V) : atI (u :: v :: r) 1 = some v := atI_nat (j := 1) rfl
theorem at_2 (u v x : V) (r : List V) : atI (u :: v :: x :: r) 2 = some x := atI_nat (j := 2) rfl
theorem at_3 (u v x y : V) (r : List V) : atI (u :: v :: x :: y :: r) 3 = some y := atI_nat (j := 3) rfl
theorem beg_has {f c d : Int} {dy : Bool} (b0 : Cal.beg f dy c 0 ≤ d) : ∀ n : Nat, d < Cal.beg f dy c n → ∃ k : Int, 0 ≤ k ∧ k < n ∧ Cal.beg f dy c k ≤ d ∧ d < Cal.beg f dy c (k + 1)
  | 0, h => absurd h (by have : Cal.beg f dy c ((0 : Nat) : Int) = Cal.beg f dy c 0 := rfl; omega)
  | n + 1, h => by
    by_cases z : d < Cal.beg f dy c n
    · obtain ⟨k, h1, h2, h3, h4⟩ := beg_has b0 n z
      exact ⟨k, h1, by omega, h3, h4⟩
    · exact ⟨n, by omega, by omega, by omega, h⟩
/-- the account's tuple -/
def AccIs (K : PySem.W.Frag) (H : Hp) (p : Addr) (l : Addr) (f : Int) (dy : Bool) (cc : Int) : Prop := ∃ pc, 0 ≤ f ∧ f ≤ 3500000 ∧ IsCyc K H pc dy cc ∧ H p = some (.tup [.ref l, .int f, .ref pc])
theorem AccIs.same {K : PySem.W.Frag} {H H' : Hp} {p l : Addr} {f : Int} {dy : Bool} {cc : Int} (h : AccIs K H p l f dy cc) (s : Same H H') : AccIs K H' p l f dy cc :=
  let ⟨pc, h1, h2, h3, h4⟩ := h; ⟨pc, h1, h2, h3.same s, s _ _ h4⟩
theorem AccIs.cyc {K : PySem.W.Frag} {H : Hp} {p l : Addr} {f : Int} {dy : Bool} {cc : Int} (h : AccIs K H p l f dy cc) : 0 ≤ f ∧ f ≤ 3500000 ∧ Cal.CycOk dy cc := let ⟨_, h1, h2, h3, _⟩ := h; ⟨h1, h2, h3.2⟩
theorem beg_wide {f c k : Int} {dy : Bool} (f0 : 0 ≤ f) (f1 : f ≤ 3500000) (hc : Cal.CycOk dy c) (k0 : 0 ≤ k) (k1 : k < 60) : 0 ≤ Cal.beg f dy c k ∧ Cal.beg f dy c k < Cal.beg f dy c (k + 1) ∧ Cal.beg f dy c (k + 1) < 4000000 := by
  have a1 := Cal.beg_lt (k := k) (j := k + 1) f0 f1 hc k0 (by omega) (by omega)
  have a2 := Cal.beg_ge (k := k) f0 f1 hc k0 (by omega)
  have a3 := Cal.beg_range (k := k + 1) f0 f1 hc (by omega) (by omega)
  exact ⟨by omega, a1, by omega⟩
def spSpanDays (K : PySem.W.Frag) (t : Adr) : Sp := fun vs H Q E => ∃ (pa l : Addr) (f : Int) (dy : Bool) (c k : Int), vs = [.ref pa, .int k] ∧ AccIs K H pa l f dy c ∧ (0 ≤ k → k < 60 → ∀ p H', Same H H' → H' p = some (.tup [.int (Cal.beg f dy c k), .int (Cal.beg f dy c (k + 1))]) → Q (.ref p) H') ∧ (k < 0 → ∀ H', Same H H' → E (.ref t.c_NoSpan) none H') ∧ (60 ≤ k → ∀ H', Same H H' → E (.ref t.c_TooLong) none H')
theorem sc_span_days : FnScope ["account", "k", "plans", "first", "cycle"] ["account", "k"] (defScope s_span_days) := ⟨rfl, rfl, rfl, by decide +kernel, rfl, by decide +kernel, by decide +kernel⟩
theorem ok_span_days (T : Txt w K mg t) : FnOk P w K mg base (CXE P w) 6 t.a_span_days t.d_span_days ["account", "k"] (spSpanDays K t) := by
  refine T.fn_span_days.okX sc_span_days (fun vs H Q E h => ?_) (fun cdv A outer s H vs Q E L hr h => ?_)
  · obtain ⟨pa, l, f, dy, c, k, rfl, ⟨pc, f0, f1, hc, ep⟩, q, q2, q3⟩ := h
    rfl
  obtain ⟨pa, l, f, dy, c, k, rfl, ⟨pc, f0, f1, hc, ep⟩, q, q2, q3⟩ := h
  have nd := sc_span_days.nd
  refine ⟨_, (pss_cons (ps_asg (pv 0) (pg_tup (n := 3) rfl (pgs_cons (pg_name (i := 2) nd rfl (Or.inl rfl)) (pgs_cons (pg_name (i := 3) nd rfl (Or.inl rfl)) (pgs_cons (pg_name (i := 4) nd rfl (Or.inl rfl)) pgs_nil))))) (pss_one (ps_ret (pe_tupS (pa_cons (pe_callX L.toLv (ok_begin_of T) (hr.mono (by decide)) (by rfl) T.mg_begin_of T.fn_begin_of.kp T.b_begin_of .nil (pa_cons (pv 3) (pa_cons (pv 4) (pa_cons (pv 1) pa_nil star_Name) star_Name) star_Name)) (pa_cons (pe_callX L.toLv (ok_begin_of T) (hr.mono (by decide)) (by rfl) T.mg_begin_of T.fn_begin_of.kp T.b_begin_of .nil (pa_cons (pv 3) (pa_cons (pv 4) (pa_cons (pe_op op_add (pv 1) pe_int) pa_nil star_BinOp) star_Name) star_Name)) pa_nil star_Call) star_Call))))), ?_⟩
  open_k0
  refine ⟨pa, _, rfl, SqT.of ep, rfl, ?_⟩
  open_k0
  refine ⟨f, pc, dy, c, k, rfl, f0, f1, hc, fun k0 _ H1 s1 => ?_, q2, fun z => q3 (by omega)⟩
  refine ⟨f, pc, dy, c, k + 1, rfl, f0, f1, hc.same s1, fun _ k1 H2 s2 => ?_, fun z => by omega, fun z H3 s3 => q3 (by omega) H3 (s1.trans s3)⟩
  exact fun p H3 _ s3 e3 => q k0 (by omega) p H3 ((s1.trans s2).trans s3) e3
def spSpanWith (K : PySem.W.Frag) (t : Adr) : Sp := fun vs H Q E => ∃ (pa l : Addr) (f : Int) (dy : Bool) (c d : Int), vs = [.ref pa, .int d] ∧ AccIs K H pa l f dy c ∧
  (∀ k : Int, 0 ≤ k → k < 60 → Cal.beg f dy c k ≤ d → d < Cal.beg f dy c (k + 1) → ∀ p H', Same H H' → H' p = some (.tup [.int k, .int (Cal.beg f dy c k), .int (Cal.beg f dy c (k + 1))]) → Q (.ref p) H') ∧
  (d < f → ∀ H', Same H H' → E (.ref t.c_NoSpan) none H') ∧ (Cal.beg f dy c 60 ≤ d → ∀ H', Same H H' → E (.ref t.c_TooLong) none H')
theorem sc_span_with : FnScope ["account", "day", "plans", "first", "cycle"] ["account", "day"] (defScope s_span_with) := ⟨rfl, rfl, rfl, by decide +kernel, rfl, by decide +kernel, by decide +kernel⟩
theorem ok_span_with (T : Txt w K mg t) : FnOk P w K mg base (CXE P w) 7 t.a_span_with t.d_span_with ["account", "day"] (spSpanWith K t) := by
  refine T.fn_span_with.okX sc_span_with (fun vs H Q E h => ?_) (fun cdv A outer s H vs Q E L hr h => ?_)
  · obtain ⟨pa, l, f, dy, c, d, rfl, ⟨pc, f0, f1, hc, ep⟩, q1, q2, q3⟩ := h
    rfl
  obtain ⟨pa, l, f, dy, c, d, rfl, ⟨pc, f0, f1, hc, ep⟩, q1, q2, q3⟩ := h
  have nd := sc_span_with.nd
  refine ⟨_, (pss_cons (ps_asg (pv 0) (pg_tup (n := 3) rfl (pgs_cons (pg_name (i := 2) nd rfl (Or.inl rfl)) (pgs_cons (pg_name (i := 3) nd rfl (Or.inl rfl)) (pgs_cons (pg_name (i := 4) nd rfl (Or.inl rfl)) pgs_nil))))) (pss_one (ps_ret (pe_callX L.toLv (ok_span_on T) (hr.mono (by decide)) (by rfl) T.mg_span_on T.fn_span_on.kp T.b_span_on .nil (pa_cons (pv 3) (pa_cons (pv 4) (pa_cons (pv 1) pa_nil star_Name) star_Name) star_Name))))), ?_⟩
  open_k0
  refine ⟨pa, _, rfl, SqT.of ep, rfl, ?_⟩
  open_k0
  exact ⟨f, pc, dy, c, d, rfl, f0, f1, hc, q1, q2, q3⟩
theorem chD_head (ch : Ch) (h : isTm ch = true) : ∃ r, (chD ch).map sv = .str (SL (chW ch)) :: .int (chDay ch) :: r := by
  cases ch with
  | plan d nm => exact ⟨_, rfl⟩
  | seats d n => exact ⟨_, rfl⟩
  | word w d => exact ⟨_, rfl⟩
  | undo k => cases h
  | grant k => cases h
  | back => cases h
theorem chW_last {ch : Ch} (h : isTm ch = true) (w4 : ∀ w d, ch = .word w d → w < 4) : (chW ch = [108, 97, 115, 116] ↔ isLast ch = true) := by
  cases ch with
  | plan d nm => exact ⟨fun z => absurd z (by show ¬ ([112, 108, 97, 110] : List Nat) = _; decide), fun z => by cases z⟩
  | seats d n => exact ⟨fun z => absurd z (by show ¬ ([115, 101, 97, 116, 115] : List Nat) = _; decide), fun z => by cases z⟩
  | word w d =>
    have := w4 w d rfl
    match w, this with
    | 0, _ => exact ⟨fun z => absurd z (by show ¬ ([104, 111, 108, 100] : List Nat) = _; decide), fun z => by cases z⟩
    | 1, _ => exact ⟨fun z => absurd z (by show ¬ ([103, 111] : List Nat) = _; decide), fun z => by cases z⟩
    | 2, _ => exact ⟨fun z => absurd z (by show ¬ ([115, 116, 111, 112] : List Nat) = _; decide), fun z => by cases z⟩
    | 3, _ => exact ⟨fun _ => rfl, fun _ => rfl⟩
  | undo k => cases h
  | grant k => cases h
  | back => cases h
/-- a change that is a term of the account -/
def TmB (f e : Int) (ch : Ch) : Prop := isTm ch = true ∧ f ≤ chDay ch ∧ chDay ch < e ∧ ∀ w d, ch = .word w d → w < 4
def spCounts (K : PySem.W.Frag) : Sp := fun vs H Q _ => ∃ (pa p l : Addr) (f : Int) (dy : Bool) (c : Int) (ch : Ch), vs = [.ref pa, .ref p] ∧ AccIs K H pa l f dy c ∧ SqT K H p ((chD ch).map sv) ∧ TmB f (Cal.beg f dy c 60) ch ∧ ∀ H', Same H H' → Q (.int (cntF f dy c ch)) H'
theorem sc_counts_from : FnScope ["account", "change", "own_day", "k", "begin", "end"] ["account", "change"] (defScope s_counts_from) := ⟨rfl, rfl, rfl, by decide +kernel, rfl, by decide +kernel, by decide +kernel⟩
theorem ok_counts_from (T : Txt w K mg t) : FnOk P w K mg base (CXE P w) 8 t.a_counts_from t.d_counts_from ["account", "change"] (spCounts K) := by
  refine T.fn_counts_from.okX sc_counts_from (fun vs H Q E h => ?_) (fun cdv A outer s H vs Q E L hr h => ?_)
  · obtain ⟨pa, p, l, f, dy, c, ch, rfl, ha, hp, ⟨tm, d0, d1, w4⟩, q⟩ := h
    rfl
  obtain ⟨pa, p, l, f, dy, c, ch, rfl, ha, hp, ⟨tm, d0, d1, w4⟩, q⟩ := h
  have nd := sc_counts_from.nd
  refine ⟨_, (pss_cons (ps_set (i := 2) nd rfl (Or.inl rfl) (pe_ix ix_tup (pv 1) pe_int (fun _ _ => rfl))) (pss_cons (ps_if (pt_cmpR op_eq (pe_ix ix_tup (pv 1) pe_int (fun _ _ => rfl)) (pe_strL st_9) (nomark _)) (pss_cons (ps_asg (pe_callX L.toLv (ok_span_with T) (hr.mono (by decide)) (by rfl) T.mg_span_with T.fn_span_with.kp T.b_span_with .nil (pa_cons (pv 0) (pa_cons (pv 2) pa_nil star_Name) star_Name)) (pg_tup (n := 3) rfl (pgs_cons (pg_name (i := 3) nd rfl (Or.inl rfl)) (pgs_cons (pg_name (i := 4) nd rfl (Or.inl rfl)) (pgs_cons (pg_name (i := 5) nd rfl (Or.inl rfl)) pgs_nil))))) (pss_one (ps_ret (pv 5)))) pss_nil) (pss_one (ps_ret (pv 2))))), ?_⟩
  obtain ⟨r, er⟩ := chD_head ch tm
  rw [er] at hp
  have lw := chW_last tm w4
  unfold cntF at q
  open_k0
  refine ixT hp (at_1 _ _ _) (ixT hp (at_0 _ _) ⟨rfl, ?_⟩)
  by_cases e : chW ch = [108, 97, 115, 116]
  · rw [if_pos (lw.mp e)] at q
    obtain ⟨f0, f1, hc⟩ := ha.cyc
    refine ite_t (by rw [e]) ⟨pa, l, f, dy, c, _, rfl, ha, fun k k0 k1 a1 a2 p1 H1 s1 e1 => ?_, fun z => by omega, fun z => by omega⟩
    rw [← nb_eq f0 f1 hc k0 k1 a1 a2] at e1
    refine ⟨p1, _, rfl, SqT.of e1, rfl, ?_⟩
    open_k0
    exact q H1 s1
  · rw [if_neg (fun z => e (lw.mpr z))] at q
    exact ite_f (str_ne e) (q _ (Same.refl _))
theorem cnt_in {f c : Int} {dy : Bool} {ch : Ch} (f0 : 0 ≤ f) (f1 : f ≤ 3500000) (hc : Cal.CycOk dy c) (h : TmB f (Cal.beg f dy c 60) ch) : 0 ≤ cntF f dy c ch ∧ cntF f dy c ch < 4000000 := by
  obtain ⟨tm, d0, d1, w4⟩ := h
  have b6 := Cal.beg_range (k := 60) f0 f1 hc (by decide) (by decide)
  unfold cntF
  split
  · have b0 : Cal.beg f dy c 0 = f := Cal.beg_zero f0 f1
    obtain ⟨k, k0, k1, a1, a2⟩ := beg_has (f := f) (c := c) (dy := dy) (d := chDay ch) (by omega) 60 d1
    rw [nb_eq f0 f1 hc k0 k1 a1 a2]
    have := Cal.beg_range (k := k + 1) f0 f1 hc (by omega) (by omega)
    omega
  · omega
/-- a term: its tuple, its change, its number, the change -/
abbrev Tm := Addr × Addr × Int × Ch
def TmAt (K : PySem.W.Frag) (H : Hp) (f e : Int) (t : Tm) : Prop := (H t.1 = some (.tup [.int t.2.2.1, .ref t.2.1]) ∧ SqT K H t.2.1 ((chD t.2.2.2).map sv)) ∧ (0 ≤ t.2.2.1 ∧ t.2.2.1 < 64) ∧ TmB f e t.2.2.2
def TmsAt (K : PySem.W.Frag) (H : Hp) (l : Addr) (f e : Int) (ts : List Tm) : Prop := H l = some (.lst (ts.map fun t => V.ref t.1)) ∧ ts.length < 64 ∧ (∀ t ∈ ts, TmAt K H f e t) ∧ ts.Pairwise (fun x y => x.2.2.1 ≠ y.2.2.1)
theorem TmAt.same {K : PySem.W.Frag} {H H' : Hp} {f e : Int} {t : Tm} (h : TmAt K H f e t) (s : Same H H') : TmAt K H' f e t := ⟨⟨s _ _ h.1.1, s.sqT h.1.2⟩, h.2⟩
theorem TmsAt.same {K : PySem.W.Frag} {H H' : Hp} {l : Addr} {f e : Int} {ts : List Tm} (h : TmsAt K H l f e ts) (s : Same H H') : TmsAt K H' l f e ts := ⟨s _ _ h.1, h.2.1, fun t ht => (h.2.2.1 t ht).same s, h.2.2.2⟩
theorem perm_pre {α β : Type} {g : α → β} {ws l : List β} (h : ws.Perm l) : ∀ os : List α, l = os.map g → ∃ os' : List α, os'.Perm os ∧ os'.map g = ws := by
  induction h with
  | nil => intro os e; exact ⟨os, .refl _, e.symm⟩
  | cons x _ ih =>
    intro os e
    match os, e with
    | o :: r, e =>
      obtain ⟨e1, e2⟩ := List.cons.inj e
      obtain ⟨r', p, m⟩ := ih r e2
      exact ⟨o :: r', p.cons o, by rw [List.map_cons, m, e1]⟩
  | swap x y l =>
    intro os e
    match os, e with
    | a :: b :: r, e =>
      obtain ⟨e1, e2⟩ := List.cons.inj e
      obtain ⟨e3, e4⟩ := List.cons.inj e2
      exact ⟨b :: a :: r, .swap a b r, by rw [List.map_cons, List.map_cons, e1, e3, e4]⟩
  | trans _ _ ih1 ih2 =>
    intro os e
    obtain ⟨os2, p2, m2⟩ := ih2 os e
    obtain ⟨os1, p1, m1⟩ := ih1 os2 m2.symm
    exact ⟨os1, p1.trans p2, m1⟩
noncomputable def rtT (f : Int) (dy : Bool) (c : Int) (t : Tm) : Rt := rtF f dy c t.2.2.1 t.2.2.2
/-- in order: the tuple, and the term -/
abbrev Or' := Addr × Tm
def OrdAt (K : PySem.W.Frag) (H : Hp) (l : Addr) (f : Int) (dy : Bool) (c : Int) (os : List Or') : Prop := H l = some (.lst (os.map fun o => V.ref o.1)) ∧ os.length < 64 ∧ (∀ o ∈ os, H o.1 = some (.tup [.int (cntF f dy c o.2.2.2.2), .int (chDay o.2.2.2.2), .int o.2.2.2.1, .ref o.2.2.1]) ∧ SqT K H o.2.2.1 ((chD o.2.2.2.2).map sv) ∧ TmB f (Cal.beg f dy c 60) o.2.2.2.2) ∧ os.Pairwise (fun x y => cntF f dy c x.2.2.2.2 ≤ cntF f dy c y.2.2.2.2 ∧ (rtT f dy c x.2).2.2.1 < (rtT f dy c y.2).2.2.1)
def spInOrder (K : PySem.W.Frag) : Sp := fun vs H Q _ => ∃ (pa l la : Addr) (f : Int) (dy : Bool) (c : Int) (ts : List Tm), vs = [.ref pa, .ref l] ∧ AccIs K H pa la f dy c ∧ TmsAt K H l f (Cal.beg f dy c 60) ts ∧ ∀ l' os H', Same H H' → OrdAt K H' l' f dy c os → (∀ t, t ∈ os.map (·.2) ↔ t ∈ ts) → Q (.ref l') H'
theorem sc_in_order : FnScope ["account", "terms"] ["account", "terms"] (defScope s_in_order) := ⟨rfl, rfl, rfl, by decide +kernel, rfl, by decide +kernel, by decide +kernel⟩
theorem ok_in_order (T : Txt w K mg t) : FnOk P w K mg base (CXE P w) 9 t.a_in_order t.d_in_order ["account", "terms"] (spInOrder K) := by
  refine T.fn_in_order.okX sc_in_order (fun vs H Q E h => ?_) (fun cdv A outer s H vs Q E L hr h => ?_)
  · obtain ⟨pa, l, la, f, dy, c, ts, rfl, ha, ht, q⟩ := h
    rfl
  obtain ⟨pa, l, la, f, dy, c, ts, rfl, ha, ht, q⟩ := h
  have nd := sc_in_order.nd
  refine ⟨_, (pss_one (ps_ret (pe_callB call_sortedA (by rfl) T.no_sorted bb_sorted (pa_cons (pe_comp (n := 2) (N := ["number", "change", "account"]) (js := [0]) (by rfl) rfl rfl (pi_list (pv 1)) (fun a => (pg_tup (n := 2) rfl (pgs_cons (pg_name (i := 0) (show List.Nodup (["number", "change", "account"] : List Str) from by decide +kernel) rfl (Or.inl rfl)) (pgs_cons (pg_name (i := 1) (show List.Nodup (["number", "change", "account"] : List Str) from by decide +kernel) rfl (Or.inl rfl)) pgs_nil)))) (fun a => pif_nil) (fun a => (pe_tupS (pa_cons (pe_callX lv_no (ok_counts_from T) (hr.mono (by decide)) (by rfl) T.mg_counts_from T.fn_counts_from.kp T.b_counts_from .nil (pa_cons (pv 2) (pa_cons (pv 1) pa_nil star_Name) star_Name)) (pa_cons (pe_ix ix_tup (pv 1) pe_int (fun _ _ => rfl)) (pa_cons (pv 0) (pa_cons (pv 1) pa_nil star_Name) star_Name) star_Subscript) star_Call)))) pa_nil)))), ?_⟩
  obtain ⟨f0, f1, hc⟩ := ha.cyc
  have b6 := Cal.beg_range (k := 60) f0 f1 hc (by decide) (by decide)
  obtain ⟨el, n64, hts, hn⟩ := id ht
  open_k0
  refine ⟨_, rfl, l, rfl, ⟨_, SqL.of el⟩, fun l2 hl2 aa => ?_⟩
  refine comp_by (fun j xs H5 => ∃ as : List Addr, xs = as.map V.ref ∧ as.length = j ∧ ∀ (i : Nat) (a : Addr) (t : Tm), as[i]? = some a → ts[i]? = some t → H5 a = some (.tup [.int (cntF f dy c t.2.2.2), .int (chDay t.2.2.2), .int t.2.2.1, .ref t.2.1])) (lists_lst (SqL.of el)) hl2 (by rw [List.length_map]; exact small_len (by omega)) (fun _ _ => ⟨[], rfl, rfl, fun i a t h => by rw [List.getElem?_nil] at h; cases h⟩) (fun j x xs H8 K1 K0 hx sm pv hl k1 k0 => ?_) (fun xs H2 s2 pv _ w2 => ?_)
  · obtain ⟨u, hz, rfl⟩ : ∃ u, ts[j]? = some u ∧ x = .ref u.1 := by
      rw [List.getElem?_map] at hx
      obtain ⟨u, e, rfl⟩ := Option.map_eq_some_iff.mp hx
      exact ⟨u, e, rfl⟩
    obtain ⟨⟨z1, z2⟩, zn, tb⟩ := hts u (List.mem_of_getElem? hz)
    obtain ⟨as, rfl, al, pa'⟩ := pv
    obtain ⟨r, er⟩ := chD_head u.2.2.2 tb.1
    lge_open0
    refine ⟨_, _, rfl, SqT.of (sm _ _ z1), rfl, ?_⟩
    lge_open0
    refine ⟨pa, u.2.1, la, f, dy, c, u.2.2.2, rfl, ha.same sm, sm.sqT z2, tb, fun H9 s9 => ?_⟩
    rw [er] at z2
    refine ixT (s9.sqT (sm.sqT z2)) (at_1 _ _ _) ⟨le_line (by decide), fun p H10 hp s10 e10 => k1 _ _ (s9.trans s10) fun H5 h5 => ⟨as ++ [p], by rw [List.map_append]; rfl, by rw [List.length_append, al]; rfl, fun i a t h1 h2 => ?_⟩⟩
    have s810 := s9.trans s10
    have nl : ∀ a xs, H10 a = some (.tup xs) → a ≠ l2 := fun a xs h z => by rw [z, s810 _ _ hl] at h; cases h
    rw [List.getElem?_append] at h1
    by_cases hi : i < as.length
    · rw [if_pos hi] at h1
      have := s810 _ _ (pa' i a t h1 h2)
      exact h5 _ _ (nl _ _ this) this
    · rw [if_neg hi] at h1
      have i0 : i - as.length = 0 := by
        rcases Nat.lt_or_ge (i - as.length) 1 with z | z
        · omega
        · rw [List.getElem?_eq_none (by simpa using z)] at h1; cases h1
      rw [i0] at h1
      cases h1
      obtain rfl : i = j := by omega
      rw [hz] at h2
      cases h2
      exact h5 _ _ (nl _ _ e10) e10
  rw [List.length_map] at pv
  obtain ⟨as, rfl, al, pa'⟩ := pv
  obtain ⟨os, hos⟩ : ∃ os : List Or', os = as.zip ts := ⟨_, rfl⟩
  have om : ∀ o ∈ os, ∃ i : Nat, as[i]? = some o.1 ∧ ts[i]? = some o.2 := fun o ho => by
    rw [hos] at ho
    obtain ⟨i, hi, e⟩ := List.mem_iff_getElem.mp ho
    rw [List.length_zip] at hi
    refine ⟨i, ?_, ?_⟩
    · rw [List.getElem?_eq_getElem (by omega), ← e, List.getElem_zip]
    · rw [List.getElem?_eq_getElem (by omega), ← e, List.getElem_zip]
  have ol : os.length = ts.length := by rw [hos, List.length_zip, al, Nat.min_self]
  have o1 : os.map (·.1) = as := by rw [hos]; exact List.map_fst_zip (by omega)
  have o2 : os.map (·.2) = ts := by rw [hos]; exact List.map_snd_zip (by omega)
  have ob : ∀ o ∈ os, H2 o.1 = some (.tup [.int (cntF f dy c o.2.2.2.2), .int (chDay o.2.2.2.2), .int o.2.2.2.1, .ref o.2.2.1]) ∧ SqT K H2 o.2.2.1 ((chD o.2.2.2.2).map sv) ∧ TmB f (Cal.beg f dy c 60) o.2.2.2.2 ∧ (0 ≤ o.2.2.2.1 ∧ o.2.2.2.1 < 64) := fun o ho => by
    obtain ⟨i, h1, h2⟩ := om o ho
    obtain ⟨⟨z1, z2⟩, zn, tb⟩ := hts o.2 (List.mem_of_getElem? h2)
    exact ⟨pa' i _ _ h1 h2, s2.sqT z2, tb, zn⟩
  obtain ⟨zf, hzf⟩ : ∃ zf : Or' → Tz, zf = fun o => (o.1, cntF f dy c o.2.2.2.2, chDay o.2.2.2.2, o.2.2.2.1) := ⟨_, rfl⟩
  refine ⟨l2, rfl, os.map zf, by rw [w2, List.map_map, ← o1, List.map_map, hzf]; rfl, by rw [List.length_map]; omega, fun z hz => ?_, ?_, fun ws wp wo p H3 hp s3 e3 => ?_⟩
  · obtain ⟨o, ho, rfl⟩ := List.mem_map.mp hz
    obtain ⟨a1, a2, a3, a4⟩ := ob o ho
    have ci := cnt_in f0 f1 hc a3
    rw [hzf]
    exact ⟨⟨ci, ⟨by show 0 ≤ chDay o.2.2.2.2; have := a3.2.1; omega, by show chDay o.2.2.2.2 < 4000000; have := a3.2.2.1; omega⟩, a4⟩, _, a1⟩
  · rw [List.pairwise_map, hzf]
    have := hn
    rw [← o2, List.pairwise_map] at this
    exact this
  · obtain ⟨os', op, rfl⟩ := perm_pre wp os rfl
    refine q p os' H3 (s2.trans s3) ⟨by rw [e3, List.map_map, hzf]; rfl, by rw [op.length_eq]; omega, fun o ho => ?_, ?_⟩ fun t => ?_
    · obtain ⟨a1, a2, a3, _⟩ := ob o (op.mem_iff.mp ho)
      exact ⟨s3 _ _ a1, s3.sqT a2, a3⟩
    · rw [List.pairwise_map, hzf] at wo
      exact wo
    · rw [(op.map (·.2)).mem_iff, o2]
theorem word_cases : ∀ {w : Nat}, w < 4 → (wordS w = [104, 111, 108, 100] ∧ wordT w = [104, 101, 108, 100]) ∨ (wordS w = [103, 111] ∧ wordT w = [111, 110]) ∨ (wordS w = [115, 116, 111, 112] ∧ wordT w = [111, 102, 102]) ∨ (wordS w = [108, 97, 115, 116] ∧ wordT w = [111, 102, 102])
  | 0, _ => .inl ⟨rfl, rfl⟩
  | 1, _ => .inr (.inl ⟨rfl, rfl⟩)
  | 2, _ => .inr (.inr (.inl ⟨rfl, rfl⟩))
  | 3, _ => .inr (.inr (.inr ⟨rfl, rfl⟩))
def on' : D := .str [111, 110]
/-- a state's tuple -/
def stT (o0 o1 o2 : Option Rt) : List D := [stV o0 .non, stV o1 (.int 1), stV o2 on']
def StOk (f : Int) (dy : Bool) (c : Int) (ts : List Tm) (day : Int) (o0 o1 o2 : Option Rt) : Prop := Bst (ts.map (rtT f dy c)) day 0 o0 ∧ Bst (ts.map (rtT f dy c)) day 1 o1 ∧ Bst (ts.map (rtT f dy c)) day 2 o2
def spStateBy (K : PySem.W.Frag) : Sp := fun vs H Q _ => ∃ (l : Addr) (d : Int) (f : Int) (dy : Bool) (c : Int) (os : List Or'), vs = [.ref l, .int d] ∧ OrdAt K H l f dy c os ∧ ∀ p o0 o1 o2 H', Same H H' → StOk f dy c (os.map (·.2)) d o0 o1 o2 → H' p = some (.tup ((stT o0 o1 o2).map sv)) → Q (.ref p) H'
theorem sc_state_by : FnScope ["ordered", "day", "name", "seats", "word", "counts", "own_day", "number", "change"] ["ordered", "day"] (defScope s_state_by) := ⟨rfl, rfl, rfl, by decide +kernel, rfl, by decide +kernel, by decide +kernel⟩
theorem ok_state_by (T : Txt w K mg t) : FnOk P w K mg base (CXE P w) 1 t.a_state_by t.d_state_by ["ordered", "day"] (spStateBy K) := by
  refine T.fn_state_by.okX sc_state_by (fun vs H Q E h => ?_) (fun cdv A outer s H vs Q E L hr h => ?_)
  · obtain ⟨l, d, f, dy, c, os, rfl, ho, q⟩ := h
    rfl
  obtain ⟨l, d, f, dy, c, os, rfl, ho, q⟩ := h
  have nd := sc_state_by.nd
  refine ⟨_, (pss_cons (ps_set (i := 2) nd rfl (Or.inl rfl) pe_non) (pss_cons (ps_set (i := 3) nd rfl (Or.inl rfl) pe_int) (pss_cons (ps_set (i := 4) nd rfl (Or.inl rfl) (pe_strL st_10)) (pss_cons (ps_for (by passes_own) rfl (pi_list (pv 0)) (pg_tup (n := 4) rfl (pgs_cons (pg_name (i := 5) nd rfl (Or.inl rfl)) (pgs_cons (pg_name (i := 6) nd rfl (Or.inl rfl)) (pgs_cons (pg_name (i := 7) nd rfl (Or.inl rfl)) (pgs_cons (pg_name (i := 8) nd rfl (Or.inl rfl)) pgs_nil))))) (pss_cons (ps_if (pt_cmpR op_gt (pv 5) (pv 1) (nomark _)) (pss_one ps_break) pss_nil) (pss_one (ps_if (pt_cmpR op_eq (pe_ix ix_tup (pv 8) pe_int (fun _ _ => rfl)) (pe_strL st_11) (nomark _)) (pss_one (ps_set (i := 2) nd rfl (Or.inl rfl) (pe_ix ix_tup (pv 8) pe_int (fun _ _ => rfl)))) (pss_one (ps_if (pt_cmpR op_eq (pe_ix ix_tup (pv 8) pe_int (fun _ _ => rfl)) (pe_strL st_12) (nomark _)) (pss_one (ps_set (i := 3) nd rfl (Or.inl rfl) (pe_ix ix_tup (pv 8) pe_int (fun _ _ => rfl)))) (pss_one (ps_set (i := 4) nd rfl (Or.inl rfl) (pe_dcget (by rfl) T.k_WORDS (pe_ix ix_tup (pv 8) pe_int (fun _ _ => rfl)) (fun _ _ => rfl)))))))))) (pss_one (ps_ret (pe_tupS (pa_cons (pv 2) (pa_cons (pv 3) (pa_cons (pv 4) pa_nil star_Name) star_Name) star_Name)))))))), ?_⟩
  obtain ⟨el, n64, h3, so⟩ := id ho
  have fin : ∀ (i : Nat) (kd : Nat) (o' : Option Rt), (i = os.length ∨ ∃ x, os[i]? = some x ∧ d < cntF f dy c x.2.2.2.2) → Bst ((os.take i).map fun x => rtT f dy c x.2) d kd o' → Bst ((os.map (·.2)).map (rtT f dy c)) d kd o' := fun i kd o' hi hb => by
    rw [List.map_map]
    refine hb.more (fun t ht => ?_) fun t ht nt => ?_
    · obtain ⟨x, hx, rfl⟩ := List.mem_map.mp ht
      exact List.mem_map.mpr ⟨x, List.mem_of_mem_take hx, rfl⟩
    · obtain ⟨x, hx, rfl⟩ := List.mem_map.mp ht
      have nx : x ∉ os.take i := fun z => nt (List.mem_map.mpr ⟨x, z, rfl⟩)
      show d < cntF f dy c x.2.2.2.2
      rcases hi with rfl | ⟨y, hy, ly⟩
      · rw [List.take_length] at nx
        exact absurd hx nx
      · obtain ⟨j, hj, ej⟩ := List.mem_iff_getElem.mp hx
        obtain ⟨hi', ey⟩ := List.getElem?_eq_some_iff.mp hy
        by_cases jl : j < i
        · exact absurd (List.mem_iff_getElem.mpr ⟨j, by rw [List.length_take]; omega, by rw [List.getElem_take, ej]⟩) nx
        · by_cases ji : j = i
          · subst ji
            rw [ej] at ey
            rw [ey]
            exact ly
          · have := (List.pairwise_iff_getElem.mp so i j hi' hj (by omega)).1
            rw [ey, ej] at this
            omega
  open_k0
  ((try dsimp only); refine for_by fun R hR => ?_; simp only [tItems, tRev, tDNewS, tDIn, tDNotIn, sDPut, tDPop1, tDGet2, tDGet, tDc, tCallKX, kwG_one, tEither, tTupS, tLstS, comp_K, capσ, sub_nil, sub_none, sub_some, tYes, List.replicate, Option.join_some, Option.join_none, SL_inj, iStr, tPart, tNoPart, tSl, tLst, tTup, cx_K, slT, CDiv, Int.reduceLT, Int.reduceLE, Int.reduceToNat, Int.reduceNeg, Int.reduceAdd, Int.reduceSub, Int.reduceMul, forall_const, tSeq, tNext, tIfS, tRet, tRetN, tDrop, tAsg, gName, gCons, gNil, tVar, tC, tOp, rI, rI0, tUn, rU, tTest, tB, tAnd, tOr, tNot, tAndV, tOrV, tNotV, tIf, tCons, tNil, tCallX, tCallL, tCB, sRaise, rEq, rNe, scal_ii, scal_bb, scal_ss, scal_ni, scal_in, tChain, tAug, ipI, L2.start, List.map_cons, List.map_nil, List.length_cons, List.length_nil, List.cons_append, List.nil_append, List.append_nil, List.replicate_succ, List.replicate_zero, Nat.reduceAdd, Nat.reduceSub, List.getElem?_cons_zero, List.getElem?_cons_succ, List.set_cons_zero, List.set_cons_succ, Option.some.injEq, V.int.injEq, V.bl.injEq, V.ref.injEq, V.str.injEq, exists_eq_left', exists_eq_left, exists_eq', exists_and_left, List.cons.injEq, and_true, true_and, and_self, and_assoc, decide_eq_true_eq, if_true, if_false, Bool.true_eq_false, Bool.false_eq_true, Bool.not_eq_true', Bool.not_true, Bool.not_false, decide_eq_false_iff_not, ite_true, ite_false, reduceCtorEq, false_and, exists_false, false_or, or_false, and_false, iList, iTup, iZip, iEnum, iRng1, iRng2, Nat.reduceLeDiff])
  refine ⟨⟨_, SqL.of el⟩, hR _ _ ?_⟩
  clear hR
  obtain ⟨Pv, hPv⟩ : ∃ Pv : Nat → St → Hp → Prop, Pv = fun i σ1 H7 => Same H H7 ∧ ∃ (o0 o1 o2 : Option Rt) (x5 x6 x7 x8 : Option V), (Bst ((os.take i).map fun x => rtT f dy c x.2) d 0 o0 ∧ Bst ((os.take i).map fun x => rtT f dy c x.2) d 1 o1 ∧ Bst ((os.take i).map fun x => rtT f dy c x.2) d 2 o2) ∧ σ1 = [some (.ref l), some (.int d), some (sv (stV o0 .non)), some (sv (stV o1 (.int 1))), some (sv (stV o2 on')), x5, x6, x7, x8] := ⟨_, rfl⟩
  have b0 : ∀ kd, Bst ((os.take 0).map fun x => rtT f dy c x.2) d kd none := fun kd t h => by rw [List.take_zero] at h; cases h
  refine for_list (xs := os.map fun o => V.ref o.1) Pv (by rw [hPv]; exact ⟨Same.refl _, none, none, none, _, _, _, _, ⟨b0 0, b0 1, b0 2⟩, rfl⟩) (fun _ _ _ _ h => by rw [hPv] at h; exact SqL.of (h.1 _ _ el)) (fun i x σ1 H7 hx h => ?_) (fun σ1 H7 h => ?_)
  · rw [hPv] at h
    obtain ⟨s7, o0, o1, o2, x5, x6, x7, x8, ⟨c0, c1, c2⟩, rfl⟩ := h
    obtain ⟨o, hz, rfl⟩ : ∃ o, os[i]? = some o ∧ x = .ref o.1 := by
      rw [List.getElem?_map] at hx
      obtain ⟨u, e, rfl⟩ := Option.map_eq_some_iff.mp hx
      exact ⟨u, e, rfl⟩
    obtain ⟨a1, a2, tb⟩ := h3 o (List.mem_of_getElem? hz)
    have a2' := s7.sqT a2
    obtain ⟨r, er⟩ := chD_head o.2.2.2.2 tb.1
    rw [er] at a2'
    have tk : (os.take (i + 1)).map (fun x => rtT f dy c x.2) = (os.take i).map (fun x => rtT f dy c x.2) ++ [rtT f dy c o.2] := by rw [List.take_add_one, hz, Option.toList_some, List.map_append]; rfl
    have rb : ∀ (kd : Nat) (o' : Option Rt), Bst ((os.take i).map fun x => rtT f dy c x.2) d kd o' → ∀ t, o' = some t → t.2.2.1 ≤ (rtT f dy c o.2).2.2.1 := fun kd o' hb t e => by
      subst e
      obtain ⟨y, hy, rfl⟩ := List.mem_map.mp hb.1
      obtain ⟨j, hj, ej⟩ := List.mem_iff_getElem.mp hy
      rw [List.length_take] at hj
      rw [List.getElem_take] at ej
      obtain ⟨hi', eo⟩ := List.getElem?_eq_some_iff.mp hz
      have := (List.pairwise_iff_getElem.mp so j i (by omega) hi' (by omega)).2
      rw [ej, eo] at this
      omega
    open_k0
    refine ⟨o.1, _, rfl, SqT.of (s7 _ _ a1), rfl, ?_⟩
    simp only [tItems, tRev, tDNewS, tDIn, tDNotIn, sDPut, tDPop1, tDGet2, tDGet, tDc, tCallKX, kwG_one, tEither, tTupS, tLstS, comp_K, capσ, sub_nil, sub_none, sub_some, tYes, List.replicate, Option.join_some, Option.join_none, SL_inj, iStr, tPart, tNoPart, tSl, tLst, tTup, cx_K, slT, CDiv, Int.reduceLT, Int.reduceLE, Int.reduceToNat, Int.reduceNeg, Int.reduceAdd, Int.reduceSub, Int.reduceMul, forall_const, tSeq, tNext, tIfS, tRet, tRetN, tDrop, tAsg, gName, gCons, gNil, tVar, tC, tOp, rI, rI0, tUn, rU, tTest, tB, tAnd, tOr, tNot, tAndV, tOrV, tNotV, tIf, tCons, tNil, tCallX, tCallL, tCB, sRaise, rEq, rNe, scal_ii, scal_bb, scal_ss, scal_ni, scal_in, tChain, tAug, ipI, L2.start, List.map_cons, List.map_nil, List.length_cons, List.length_nil, List.cons_append, List.nil_append, List.append_nil, List.replicate_succ, List.replicate_zero, Nat.reduceAdd, Nat.reduceSub, List.getElem?_cons_zero, List.getElem?_cons_succ, List.set_cons_zero, List.set_cons_succ, Option.some.injEq, V.int.injEq, V.bl.injEq, V.ref.injEq, V.str.injEq, exists_eq_left', exists_eq_left, exists_eq', exists_and_left, List.cons.injEq, and_true, true_and, and_self, and_assoc, decide_eq_true_eq, if_true, if_false, Bool.true_eq_false, Bool.false_eq_true, Bool.not_eq_true', Bool.not_true, Bool.not_false, decide_eq_false_iff_not, ite_true, ite_false, reduceCtorEq, false_and, exists_false, false_or, or_false, and_false, tBreak, Nat.reduceLeDiff]
    refine ite_of (fun h p H8 _ s8 e8 => q p o0 o1 o2 H8 (s7.trans s8) ⟨fin i 0 _ (.inr ⟨o, hz, h⟩) c0, fin i 1 _ (.inr ⟨o, hz, h⟩) c1, fin i 2 _ (.inr ⟨o, hz, h⟩) c2⟩ e8) (fun h => ?_)
    have nx : ∀ (o0' o1' o2' : Option Rt), Bst ((os.take i).map (fun x => rtT f dy c x.2) ++ [rtT f dy c o.2]) d 0 o0' → Bst ((os.take i).map (fun x => rtT f dy c x.2) ++ [rtT f dy c o.2]) d 1 o1' → Bst ((os.take i).map (fun x => rtT f dy c x.2) ++ [rtT f dy c o.2]) d 2 o2' → Pv (i + 1) [some (.ref l), some (.int d), some (sv (stV o0' .non)), some (sv (stV o1' (.int 1))), some (sv (stV o2' on')), some (.int (cntF f dy c o.2.2.2.2)), some (.int (chDay o.2.2.2.2)), some (.int o.2.2.2.1), some (.ref o.2.2.1)] H7 := fun o0' o1' o2' h0 h1 h2 => by
      rw [← tk] at h0 h1 h2
      rw [hPv]
      exact ⟨s7, o0', o1', o2', _, _, _, _, ⟨h0, h1, h2⟩, rfl⟩
    have le : (rtT f dy c o.2).2.1 ≤ d := by show cntF f dy c o.2.2.2.2 ≤ d; omega
    have ne : ∀ {kd : Nat}, chK o.2.2.2.2 ≠ kd → (rtT f dy c o.2).1 = kd → d < (rtT f dy c o.2).2.1 := fun h e => absurd e h
    refine ixT a2' (at_0 _ _) ⟨rfl, ?_⟩
    cases hch : o.2.2.2.2 with
    | plan dd nm =>
      rw [hch] at er a2'
      cases er
      have k0 : chK o.2.2.2.2 = 0 := by rw [hch]; rfl
      have g := nx (some (rtT f dy c o.2)) o1 o2 (c0.last k0 le (rb 0 o0 c0)) (c1.skip (ne (by rw [k0]; decide))) (c2.skip (ne (by rw [k0]; decide)))
      rw [show sv (stV (some (rtT f dy c o.2)) .non) = .str (SL nm) by show sv (chVal o.2.2.2.2) = _; rw [hch]; rfl, hch] at g
      exact ite_t rfl (ixT a2' (at_2 _ _ _ _) g)
    | seats dd n =>
      rw [hch] at er a2'
      cases er
      have k0 : chK o.2.2.2.2 = 1 := by rw [hch]; rfl
      have g := nx o0 (some (rtT f dy c o.2)) o2 (c0.skip (ne (by rw [k0]; decide))) (c1.last k0 le (rb 1 o1 c1)) (c2.skip (ne (by rw [k0]; decide)))
      rw [show sv (stV (some (rtT f dy c o.2)) (.int 1)) = .int n by show sv (chVal o.2.2.2.2) = _; rw [hch]; rfl, hch] at g
      exact ite_f (str_ne (by show ¬ ([115, 101, 97, 116, 115] : List Nat) = _; decide)) (ixT a2' (at_0 _ _) ⟨rfl, ite_t rfl (ixT a2' (at_2 _ _ _ _) g)⟩)
    | word wi dd =>
      have w4 := tb.2.2.2 wi dd hch
      rw [hch] at er a2'
      have k0 : chK o.2.2.2.2 = 2 := by rw [hch]; rfl
      have g := nx o0 o1 (some (rtT f dy c o.2)) (c0.skip (ne (by rw [k0]; decide))) (c1.skip (ne (by rw [k0]; decide))) (c2.last k0 le (rb 2 o2 c2))
      rw [show sv (stV (some (rtT f dy c o.2)) on') = .str (SL (wordT wi)) by show sv (chVal o.2.2.2.2) = _; rw [hch]; rfl, hch] at g
      rw [show chW (.word wi dd) = wordS wi from rfl] at a2' ⊢
      rcases word_cases w4 with ⟨ew, et⟩ | ⟨ew, et⟩ | ⟨ew, et⟩ | ⟨ew, et⟩
      · rw [ew] at a2' ⊢
        rw [et] at g
        exact ite_f (str_ne (by decide)) (ixT a2' (at_0 _ _) ⟨rfl, ite_f (str_ne (by decide)) (ixT a2' (at_0 _ _) ⟨_, rfl, _, rfl, g⟩)⟩)
      · rw [ew] at a2' ⊢
        rw [et] at g
        exact ite_f (str_ne (by decide)) (ixT a2' (at_0 _ _) ⟨rfl, ite_f (str_ne (by decide)) (ixT a2' (at_0 _ _) ⟨_, rfl, _, rfl, g⟩)⟩)
      · rw [ew] at a2' ⊢
        rw [et] at g
        exact ite_f (str_ne (by decide)) (ixT a2' (at_0 _ _) ⟨rfl, ite_f (str_ne (by decide)) (ixT a2' (at_0 _ _) ⟨_, rfl, _, rfl, g⟩)⟩)
      · rw [ew] at a2' ⊢
        rw [et] at g
        exact ite_f (str_ne (by decide)) (ixT a2' (at_0 _ _) ⟨rfl, ite_f (str_ne (by decide)) (ixT a2' (at_0 _ _) ⟨_, rfl, _, rfl, g⟩)⟩)
    | undo k => have := tb.1; rw [hch] at this; cases this
    | grant k => have := tb.1; rw [hch] at this; cases this
    | back => have := tb.1; rw [hch] at this; cases this
  · rw [hPv] at h
    obtain ⟨s7, o0, o1, o2, x5, x6, x7, x8, ⟨c0, c1, c2⟩, rfl⟩ := h
    rw [List.length_map] at c0 c1 c2
    open_k0
    exact fun p H8 _ s8 e8 => q p o0 o1 o2 H8 (s7.trans s8) ⟨fin _ 0 _ (.inl rfl) c0, fin _ 1 _ (.inl rfl) c1, fin _ 2 _ (.inl rfl) c2⟩ e8
/-- the account, and the plan that is meant -/
def AccP (K : PySem.W.Frag) (H : Hp) (pa : Addr) (f : Int) (dy : Bool) (c : Int) (nm : List Nat) (pr ct : Int) : Prop := ∃ (l : Addr) (zs : List (V × Pl)), AccIs K H pa l f dy c ∧ H l = some (.lst (zs.map (·.1))) ∧ PlsAt K H zs ∧ zs.length ≤ 8 ∧ (∃ z0, (zs.filter fun z => decide (z.2.1 = nm))[0]? = some z0 ∧ z0.2.2 = (pr, ct)) ∧ (0 ≤ pr ∧ pr < 10 ^ 30) ∧ 0 ≤ ct ∧ ct ≤ 400
theorem AccP.same {K : PySem.W.Frag} {H H' : Hp} {pa : Addr} {f : Int} {dy : Bool} {c : Int} {nm : List Nat} {pr ct : Int} (h : AccP K H pa f dy c nm pr ct) (s : Same H H') : AccP K H' pa f dy c nm pr ct :=
  let ⟨l, zs, h1, h2, h3, h4⟩ := h; ⟨l, zs, h1.same s, s _ _ h2, h3.same s, h4⟩
def spPrice (K : PySem.W.Frag) : Sp := fun vs H Q _ => ∃ (pa : Addr) (f : Int) (dy : Bool) (c : Int) (nm : List Nat) (pr ct : Int), vs = [.ref pa, .str (SL nm)] ∧ AccP K H pa f dy c nm pr ct ∧ ∀ p H', Same H H' → H' p = some (.tup [.int pr, .int ct]) → Q (.ref p) H'
theorem sc_price_and_count : FnScope ["account", "name"] ["account", "name"] (defScope s_price_and_count) := ⟨rfl, rfl, rfl, by decide +kernel, rfl, by decide +kernel, by decide +kernel⟩
theorem ok_price_and_count (T : Txt w K mg t) : FnOk P w K mg base (CXE P w) 1 t.a_price_and_count t.d_price_and_count ["account", "name"] (spPrice K) := by
  refine T.fn_price_and_count.okX sc_price_and_count (fun vs H Q E h => ?_) (fun cdv A outer s H vs Q E L hr h => ?_)
  · obtain ⟨pa, f, dy, c, nm, pr, ct, rfl, ⟨l, zs, ⟨pc, f0, f1, hc, ep⟩, el, za, z8, ⟨z0, hz0, ez0⟩, _⟩, q⟩ := h
    rfl
  obtain ⟨pa, f, dy, c, nm, pr, ct, rfl, ⟨l, zs, ⟨pc, f0, f1, hc, ep⟩, el, za, z8, ⟨z0, hz0, ez0⟩, _⟩, q⟩ := h
  have nd := sc_price_and_count.nd
  refine ⟨_, (pss_one (ps_ret (pe_ix ix_list (pe_comp (n := 3) (N := ["plan", "price", "count", "name"]) (js := [1]) (by rfl) rfl rfl (pi_list (pe_ix ix_tup (pv 0) pe_int (fun _ _ => rfl))) (fun a => (pg_tup (n := 3) rfl (pgs_cons (pg_name (i := 0) (show List.Nodup (["plan", "price", "count", "name"] : List Str) from by decide +kernel) rfl (Or.inl rfl)) (pgs_cons (pg_name (i := 1) (show List.Nodup (["plan", "price", "count", "name"] : List Str) from by decide +kernel) rfl (Or.inl rfl)) (pgs_cons (pg_name (i := 2) (show List.Nodup (["plan", "price", "count", "name"] : List Str) from by decide +kernel) rfl (Or.inl rfl)) pgs_nil))))) (fun a => (pif_one (pt_cmpR op_eq (pv 0) (pv 3) (nomark _)))) (fun a => (pe_tupS (pa_cons (pv 1) (pa_cons (pv 2) pa_nil star_Name) star_Name)))) pe_int (fun _ _ => rfl)))), ?_⟩
  simp only [tItems, tRev, tDNewS, tDIn, tDNotIn, sDPut, tDPop1, tDGet2, tDGet, tDc, tCallKX, kwG_one, tEither, tTupS, tLstS, comp_K, capσ, sub_nil, sub_none, sub_some, tYes, List.replicate, Option.join_some, Option.join_none, SL_inj, iStr, tPart, tNoPart, tSl, tLst, tTup, cx_K, slT, CDiv, Int.reduceLT, Int.reduceLE, Int.reduceToNat, Int.reduceNeg, Int.reduceAdd, Int.reduceSub, Int.reduceMul, forall_const, tSeq, tNext, tIfS, tRet, tRetN, tDrop, tAsg, gName, gCons, gNil, tVar, tC, tOp, rI, rI0, tUn, rU, tTest, tB, tAnd, tOr, tNot, tAndV, tOrV, tNotV, tIf, tCons, tNil, tCallX, tCallL, tCB, sRaise, rEq, rNe, scal_ii, scal_bb, scal_ss, scal_ni, scal_in, tChain, tAug, ipI, L2.start, List.map_cons, List.map_nil, List.length_cons, List.length_nil, List.cons_append, List.nil_append, List.append_nil, List.replicate_succ, List.replicate_zero, Nat.reduceAdd, Nat.reduceSub, List.getElem?_cons_zero, List.getElem?_cons_succ, List.set_cons_zero, List.set_cons_succ, Option.some.injEq, V.int.injEq, V.bl.injEq, V.ref.injEq, V.str.injEq, exists_eq_left', exists_eq_left, exists_eq', exists_and_left, List.cons.injEq, and_true, true_and, and_self, and_assoc, decide_eq_true_eq, if_true, if_false, Bool.true_eq_false, Bool.false_eq_true, Bool.not_eq_true', Bool.not_true, Bool.not_false, decide_eq_false_iff_not, ite_true, ite_false, reduceCtorEq, false_and, exists_false, false_or, or_false, and_false, tComp, iList, Nat.reduceLeDiff]
  refine ixT (SqT.of ep) (at_0 _ _) ⟨l, rfl, ⟨_, SqL.of el⟩, fun l2 hl2 aa => ?_⟩
  refine comp_by (fun j xs H5 => ∃ as : List Addr, xs = as.map V.ref ∧ as.length = ((zs.take j).filter fun z => decide (z.2.1 = nm)).length ∧ ∀ (i : Nat) (a : Addr) (z : V × Pl), as[i]? = some a → ((zs.take j).filter fun z => decide (z.2.1 = nm))[i]? = some z → H5 a = some (.tup [.int z.2.2.1, .int z.2.2.2])) (lists_lst (SqL.of el)) hl2 (by rw [List.length_map]; exact small_len (by omega)) (fun _ _ => ⟨[], rfl, rfl, fun i a t h => by rw [List.getElem?_nil] at h; cases h⟩) (fun j x xs H8 K1 K0 hx sm pv hl k1 k0 => ?_) (fun xs H2 s2 pv _ w2 => ?_)
  · obtain ⟨z, hz, rfl⟩ : ∃ z, zs[j]? = some z ∧ x = z.1 := by
      rw [List.getElem?_map] at hx
      obtain ⟨u, e, rfl⟩ := Option.map_eq_some_iff.mp hx
      exact ⟨u, e, rfl⟩
    obtain ⟨pz, ez, hT⟩ := za z (List.mem_of_getElem? hz)
    obtain ⟨as, rfl, al, pa'⟩ := pv
    have fe : (zs.take (j + 1)).filter (fun z => decide (z.2.1 = nm)) = (zs.take j).filter (fun z => decide (z.2.1 = nm)) ++ [z].filter (fun z => decide (z.2.1 = nm)) := by rw [List.take_add_one, hz, Option.toList_some, List.filter_append]
    rw [ez]
    lge_open0
    refine ⟨pz, _, rfl, sm.sqT hT, rfl, ?_⟩
    lge_open0
    have nl : ∀ (Ha : Hp) a xs, Same H8 Ha → Ha a = some (.tup xs) → a ≠ l2 := fun Ha a xs sa h z => by rw [z, sa _ _ hl] at h; cases h
    by_cases en : z.2.1 = nm
    · have f1 : [z].filter (fun z => decide (z.2.1 = nm)) = [z] := by rw [List.filter_cons_of_pos (by rw [decide_eq_true_eq]; exact en)]; rfl
      rw [f1] at fe
      refine ite_t en ⟨le_line (by decide), fun p H9 hp s9 e9 => k1 _ _ s9 fun H5 h5 => ⟨as ++ [p], by rw [List.map_append]; rfl, by rw [fe, List.length_append, List.length_append, al]; rfl, fun i a t h1 h2 => ?_⟩⟩
      rw [fe, List.getElem?_append, ← al] at h2
      rw [List.getElem?_append] at h1
      by_cases hi : i < as.length
      · rw [if_pos hi] at h1 h2
        have := s9 _ _ (pa' i a t h1 h2)
        exact h5 _ _ (nl _ _ _ s9 this) this
      · rw [if_neg hi] at h1 h2
        have i0 : i - as.length = 0 := by
          rcases Nat.lt_or_ge (i - as.length) 1 with z | z
          · omega
          · rw [List.getElem?_eq_none (by simpa using z)] at h1; cases h1
        rw [i0] at h1 h2
        cases h1
        cases h2
        exact h5 _ _ (nl _ _ _ s9 e9) e9
    · have f1 : [z].filter (fun z => decide (z.2.1 = nm)) = [] := List.filter_cons_of_neg (by rw [decide_eq_true_eq]; exact en)
      rw [f1, List.append_nil] at fe
      exact ite_f en (k0 _ (Same.refl _) ⟨as, rfl, by rw [fe]; exact al, by rw [fe]; exact pa'⟩)
  rw [List.length_map, List.take_length] at pv
  obtain ⟨as, rfl, al, pa'⟩ := pv
  obtain ⟨h0, _⟩ := List.getElem?_eq_some_iff.mp hz0
  have ea : as[0]? = some (as[0]'(by omega)) := List.getElem?_eq_getElem _
  have e0 := pa' 0 _ z0 ea hz0
  rw [ez0] at e0
  refine ixL (v := .ref (as[0]'(by omega))) (SqL.of w2) (atI_nat (j := 0) (by rw [List.getElem?_map, ea]; rfl)) (q _ H2 s2 e0)
/-- [7]: what the days from begin to end have of a price -/
def spShare : Sp := fun vs H Q _ => ∃ p n b e : Int, vs = [.int p, .int n, .int b, .int e] ∧ 0 ≤ p ∧ p < 10 ^ 60 ∧ 0 < n ∧ n < 10 ^ 20 ∧ 0 ≤ b ∧ b ≤ e ∧ e < 10 ^ 20 ∧ ∀ H', Same H H' → Q (.int (p * e / n - p * b / n)) H'
theorem sc_share : FnScope ["price", "count", "begin", "end"] ["price", "count", "begin", "end"] (defScope s_share) := ⟨rfl, rfl, rfl, by decide +kernel, rfl, by decide +kernel, by decide +kernel⟩
theorem ok_share (T : Txt w K mg t) : FnOk P w K mg base (CXE P w) 1 t.a_share t.d_share ["price", "count", "begin", "end"] (spShare) := by
  refine T.fn_share.okX sc_share (fun vs H Q E h => ?_) (fun cdv A outer s H vs Q E L hr h => ?_)
  · obtain ⟨p, n, b, e, rfl, p0, p1, n0, n1, b0, be, e1, q⟩ := h
    rfl
  obtain ⟨p, n, b, e, rfl, p0, p1, n0, n1, b0, be, e1, q⟩ := h
  have nd := sc_share.nd
  refine ⟨_, (pss_one (ps_ret (pe_op op_sub (pe_op op_fdivW (pe_op op_mulW (pv 0) (pv 3)) (pv 1)) (pe_op op_fdivW (pe_op op_mulW (pv 0) (pv 2)) (pv 1))))), ?_⟩
  have mp : Sm p := Sm.pow10 (k := 60) (by decide) (by omega)
  have mn : Sm n := Sm.pow10 (k := 20) (by decide) (by omega)
  have mb : Sm b := Sm.pow10 (k := 20) (by decide) (by omega)
  have me : Sm e := Sm.pow10 (k := 20) (by decide) (by omega)
  open_k0
  refine ⟨.inr ⟨mp, me⟩, n0, mn, .inr ⟨mp, mb⟩, n0, mn, q H (Same.refl _)⟩
/-- what a stretch costs -/
def costF (pr ct st sb se b e : Int) : Int := pr * st * (e - sb) / (if ct = 0 then se - sb else ct) - pr * st * (b - sb) / (if ct = 0 then se - sb else ct)
/-- the plans' bounds -/
def PlsIn (zs : List (V × Pl)) : Prop := 1 ≤ zs.length ∧ zs.length ≤ 8 ∧ ∀ z ∈ zs, (0 ≤ z.2.2.1 ∧ z.2.2.1 < 10 ^ 30) ∧ 0 ≤ z.2.2.2 ∧ z.2.2.2 ≤ 400
/-- the account with its plans -/
def AccZ (K : PySem.W.Frag) (H : Hp) (pa l : Addr) (f : Int) (dy : Bool) (c : Int) (zs : List (V × Pl)) : Prop := AccIs K H pa l f dy c ∧ H l = some (.lst (zs.map (·.1))) ∧ PlsAt K H zs ∧ PlsIn zs
theorem AccZ.same {K : PySem.W.Frag} {H H' : Hp} {pa l : Addr} {f : Int} {dy : Bool} {c : Int} {zs : List (V × Pl)} (h : AccZ K H pa l f dy c zs) (s : Same H H') : AccZ K H' pa l f dy c zs := ⟨h.1.same s, s _ _ h.2.1, h.2.2.1.same s, h.2.2.2⟩
def plF (zs : List (V × Pl)) (nm : List Nat) : Int × Int := (((zs.filter fun z => decide (z.2.1 = nm))[0]?).map fun z => z.2.2).getD (0, 0)
theorem AccZ.p {K : PySem.W.Frag} {H : Hp} {pa l : Addr} {f : Int} {dy : Bool} {c : Int} {zs : List (V × Pl)} (h : AccZ K H pa l f dy c zs) {nm : List Nat} (hn : nm ∈ zs.map fun z => z.2.1) : AccP K H pa f dy c nm (plF zs nm).1 (plF zs nm).2 := by
  obtain ⟨h1, h2, h3, h4, h5, h6⟩ := h
  obtain ⟨z, hz, e⟩ := List.mem_map.mp hn
  have hm : z ∈ zs.filter fun z => decide (z.2.1 = nm) := List.mem_filter.mpr ⟨hz, decide_eq_true e⟩
  have hl := List.length_pos_of_mem hm
  have e0 : (zs.filter fun z => decide (z.2.1 = nm))[0]? = some ((zs.filter fun z => decide (z.2.1 = nm))[0]'hl) := List.getElem?_eq_getElem _
  have ef : plF zs nm = ((zs.filter fun z => decide (z.2.1 = nm))[0]'hl).2.2 := by unfold plF; rw [e0]; rfl
  have b := h6 _ (List.mem_filter.mp (List.getElem_mem hl)).1
  rw [← ef] at b
  exact ⟨l, zs, h1, h2, h3, h5, ⟨_, e0, ef.symm⟩, b.1, b.2⟩
/-- a state: of a plan of these, and seats in bounds -/
def StX (zs : List (V × Pl)) (d : List D) : Prop := ∃ d0 n wd, d = [d0, .int n, .str wd] ∧ (d0 = .non ∨ ∃ nm, d0 = .str nm ∧ nm ∈ zs.map fun z => z.2.1) ∧ 0 ≤ n ∧ n ≤ 1000000
def dayC (zs : List (V × Pl)) (sb se b e : Int) : List D → Int
  | [.str nm, .int st, .str wd] => if wd = [111, 110] then costF (plF zs nm).1 (plF zs nm).2 st sb se b e else 0
  | _ => 0
def spStretch (K : PySem.W.Frag) : Sp := fun vs H Q _ => ∃ (pa l : Addr) (f : Int) (dy : Bool) (c : Int) (zs : List (V × Pl)) (d : List D) (p1 p2 p3 : Addr) (sb se b e : Int), vs = [.ref pa, .ref p1, .ref p2] ∧ AccZ K H pa l f dy c zs ∧ StX zs d ∧ H p1 = some (.tup [.int sb, .int se]) ∧ H p2 = some (.tup [.int b, .int e, .ref p3]) ∧ H p3 = some (.tup (d.map sv)) ∧ sb ≤ b ∧ b ≤ e ∧ e ≤ se ∧ sb < se ∧ se - sb < 10 ^ 10 ∧ ∀ H', Same H H' → Q (.int (dayC zs sb se b e d)) H'
theorem sc_stretch_cost : FnScope ["account", "span", "stretch", "begin", "end", "state", "name", "seats", "word", "span_begin", "span_end", "price", "count"] ["account", "span", "stretch"] (defScope s_stretch_cost) := ⟨rfl, rfl, rfl, by decide +kernel, rfl, by decide +kernel, by decide +kernel⟩
theorem ok_stretch_cost (T : Txt w K mg t) : FnOk P w K mg base (CXE P w) 2 t.a_stretch_cost t.d_stretch_cost ["account", "span", "stretch"] (spStretch K) := by
  refine T.fn_stretch_cost.okX sc_stretch_cost (fun vs H Q E h => ?_) (fun cdv A outer s H vs Q E L hr h => ?_)
  · obtain ⟨pa, l, f, dy, c, zs, d, p1, p2, p3, sb, se, b, e, rfl, hz, ⟨d0, st, wd, rfl, hd, st0, st1⟩, e1, e2, e3, h1, h2, h3, h4, h5, q⟩ := h
    rfl
  obtain ⟨pa, l, f, dy, c, zs, d, p1, p2, p3, sb, se, b, e, rfl, hz, ⟨d0, st, wd, rfl, hd, st0, st1⟩, e1, e2, e3, h1, h2, h3, h4, h5, q⟩ := h
  have nd := sc_stretch_cost.nd
  refine ⟨_, (pss_cons (ps_asg (pv 2) (pg_tup (n := 3) rfl (pgs_cons (pg_name (i := 3) nd rfl (Or.inl rfl)) (pgs_cons (pg_name (i := 4) nd rfl (Or.inl rfl)) (pgs_cons (pg_name (i := 5) nd rfl (Or.inl rfl)) pgs_nil))))) (pss_cons (ps_asg (pv 5) (pg_tup (n := 3) rfl (pgs_cons (pg_name (i := 6) nd rfl (Or.inl rfl)) (pgs_cons (pg_name (i := 7) nd rfl (Or.inl rfl)) (pgs_cons (pg_name (i := 8) nd rfl (Or.inl rfl)) pgs_nil))))) (pss_cons (ps_if (pw_or (pt_cmpR op_isN (pv 6) pe_non (nomark _)) (pw_or1 (pt_cmpR op_ne (pv 8) (pe_strL st_10) (nomark _)))).pt (pss_one (ps_ret pe_int)) pss_nil) (pss_cons (ps_asg (pv 1) (pg_tup (n := 2) rfl (pgs_cons (pg_name (i := 9) nd rfl (Or.inl rfl)) (pgs_cons (pg_name (i := 10) nd rfl (Or.inl rfl)) pgs_nil)))) (pss_cons (ps_asg (pe_callX L.toLv (ok_price_and_count T) (hr.mono (by decide)) (by rfl) T.mg_price_and_count T.fn_price_and_count.kp T.b_price_and_count .nil (pa_cons (pv 0) (pa_cons (pv 6) pa_nil star_Name) star_Name)) (pg_tup (n := 2) rfl (pgs_cons (pg_name (i := 11) nd rfl (Or.inl rfl)) (pgs_cons (pg_name (i := 12) nd rfl (Or.inl rfl)) pgs_nil)))) (pss_cons (ps_if (pt_cmpR op_eq (pv 12) pe_int (nomark _)) (pss_one (ps_set (i := 12) nd rfl (Or.inl rfl) (pe_op op_sub (pv 10) (pv 9)))) pss_nil) (pss_one (ps_ret (pe_callX L.toLv (ok_share T) (hr.mono (by decide)) (by rfl) T.mg_share T.fn_share.kp T.b_share .nil (pa_cons (pe_op op_mulW (pv 11) (pv 7)) (pa_cons (pv 12) (pa_cons (pe_op op_sub (pv 3) (pv 9)) (pa_cons (pe_op op_sub (pv 4) (pv 9)) pa_nil star_BinOp) star_BinOp) star_Name) star_BinOp)))))))))), ?_⟩
  open_k0
  refine ⟨p2, _, rfl, SqT.of e2, rfl, ?_⟩
  open_k0
  rcases hd with rfl | ⟨nm, rfl, hn⟩
  · have e3' : H p3 = some (.tup [.non, .int st, .str (SL wd)]) := e3
    refine ⟨p3, _, rfl, SqT.of e3', rfl, ?_⟩
    open_k0
    exact q H (Same.refl _)
  have e3' : H p3 = some (.tup [.str (SL nm), .int st, .str (SL wd)]) := e3
  have ha := hz.p hn
  have q0 : ∀ H', Same H H' → Q (.int (if wd = [111, 110] then costF (plF zs nm).1 (plF zs nm).2 st sb se b e else 0)) H' := q
  generalize (plF zs nm).1 = pr at ha q0
  generalize (plF zs nm).2 = ct at ha q0
  have ⟨_, _, _, _, _, _, _, ⟨pr0, pr1⟩, ct0, ct1⟩ := ha
  refine ⟨p3, _, rfl, SqT.of e3', rfl, ?_⟩
  open_k0
  by_cases on : wd = [111, 110]
  · subst on
    refine ite_f (fun z => z rfl) ?_
    refine ⟨p1, _, rfl, SqT.of e1, rfl, ?_⟩
    open_k0
    refine ⟨pa, f, dy, c, nm, pr, ct, rfl, ha, fun p4 H4 s4 e4 => ?_⟩
    refine ⟨p4, _, rfl, SqT.of e4, rfl, ?_⟩
    open_k0
    have mp : Sm pr := Sm.pow10 (k := 30) (by decide) (by omega)
    have ms : Sm st := Sm.pow10 (k := 7) (by decide) (by omega)
    have m0 : 0 ≤ pr * st := Int.mul_nonneg pr0 st0
    have m1 : pr * st < 10 ^ 60 := by
      have := Int.mul_le_mul (show pr ≤ 10 ^ 30 by omega) st1 st0 (by decide)
      exact Int.lt_of_le_of_lt this (by decide)
    have q' := q0
    rw [if_pos rfl] at q'
    unfold costF at q'
    refine ite_of (fun z => ⟨.inr ⟨mp, ms⟩, pr * st, se - sb, b - sb, e - sb, rfl, m0, m1, by omega, by omega, by omega, by omega, by omega, fun H5 s5 => ?_⟩) (fun z => ⟨.inr ⟨mp, ms⟩, pr * st, ct, b - sb, e - sb, rfl, m0, m1, by omega, by omega, by omega, by omega, by omega, fun H5 s5 => ?_⟩)
    · rw [if_pos z] at q'
      exact q' H5 (s4.trans s5)
    · rw [if_neg z] at q'
      exact q' H5 (s4.trans s5)
  · rw [if_neg on] at q0
    exact ite_t on (q0 H (Same.refl _))
/-- a term's name is a plan's, its seats are in bounds -/
def TmX (zs : List (V × Pl)) (ch : Ch) : Prop := (∀ d nm, ch = .plan d nm → nm ∈ zs.map fun z => z.2.1) ∧ ∀ d n, ch = .seats d n → 0 ≤ n ∧ n ≤ 1000000
theorem st_x {f : Int} {dy : Bool} {c : Int} {zs : List (V × Pl)} {ts : List Tm} {day : Int} {o0 o1 o2 : Option Rt} (hb : ∀ t ∈ ts, isTm t.2.2.2 = true) (hx : ∀ t ∈ ts, TmX zs t.2.2.2) (h : StOk f dy c ts day o0 o1 o2) : StX zs (stT o0 o1 o2) := by
  obtain ⟨h0, h1, h2⟩ := h
  have of : ∀ (kd : Nat) (t : Rt), Bst (ts.map (rtT f dy c)) day kd (some t) → ∃ u : Tm, u ∈ ts ∧ chK u.2.2.2 = kd ∧ t.2.2.2 = chVal u.2.2.2 := fun kd t hb' => by
    obtain ⟨u, hu, rfl⟩ := List.mem_map.mp hb'.1
    exact ⟨u, hu, hb'.2.1, rfl⟩
  have a0 : stV o0 .non = .non ∨ ∃ nm, stV o0 .non = .str nm ∧ nm ∈ zs.map fun z => z.2.1 := by
    cases o0 with
    | none => exact .inl rfl
    | some t =>
      obtain ⟨u, hu, k, e⟩ := of 0 t h0
      have x := hx u hu
      show t.2.2.2 = .non ∨ ∃ nm, t.2.2.2 = .str nm ∧ _
      rw [e]
      cases hch : u.2.2.2 with
      | plan d nm => exact .inr ⟨nm, rfl, x.1 d nm hch⟩
      | seats d n => rw [hch] at k; cases k
      | word w d => rw [hch] at k; cases k
      | undo k' => rw [hch] at k; cases k
      | grant k' => rw [hch] at k; cases k
      | back => rw [hch] at k; cases k
  have a1 : ∃ n, stV o1 (.int 1) = .int n ∧ 0 ≤ n ∧ n ≤ 1000000 := by
    cases o1 with
    | none => exact ⟨1, rfl, by decide, by decide⟩
    | some t =>
      obtain ⟨u, hu, k, e⟩ := of 1 t h1
      have x := hx u hu
      show ∃ n, t.2.2.2 = .int n ∧ _
      rw [e]
      cases hch : u.2.2.2 with
      | seats d n => exact ⟨n, rfl, x.2 d n hch⟩
      | plan d nm => rw [hch] at k; cases k
      | word w d => rw [hch] at k; cases k
      | undo k' => rw [hch] at k; cases k
      | grant k' => rw [hch] at k; cases k
      | back => rw [hch] at k; cases k
  have a2 : ∃ w, stV o2 on' = .str w := by
    cases o2 with
    | none => exact ⟨_, rfl⟩
    | some t =>
      obtain ⟨u, hu, k, e⟩ := of 2 t h2
      have tm := hb u hu
      show ∃ w, t.2.2.2 = .str w
      rw [e]
      cases hch : u.2.2.2 with
      | word w d => exact ⟨_, rfl⟩
      | plan d nm => rw [hch] at k; cases k
      | seats d n => rw [hch] at k; cases k
      | undo k' => rw [hch] at tm; cases tm
      | grant k' => rw [hch] at tm; cases tm
      | back => rw [hch] at tm; cases tm
  obtain ⟨n, e1, n0, n1⟩ := a1
  obtain ⟨wd, e2⟩ := a2
  exact ⟨_, n, wd, by unfold stT; rw [e1, e2], a0, n0, n1⟩
def spMixed : Sp := fun vs H Q _ => ∃ c k : Int, vs = [.int c, .int k] ∧ 0 ≤ k ∧ k ≤ 1000 ∧ ∀ r, 0 ≤ r → r < 2147483579 → Q (.int r) H
theorem sc_xL_mixed : FnScope ["_law_cell", "_law_k", "_law_number"] ["_law_cell", "_law_k"] (defScope s_xL_mixed) := ⟨rfl, rfl, rfl, by decide +kernel, rfl, by decide +kernel, by decide +kernel⟩
theorem ok_xL_mixed (T : Txt w K mg t) : FnOk P w K mg base (CXE P w) 1 t.a_xL_mixed t.d_xL_mixed ["_law_cell", "_law_k"] (spMixed) := by
  refine T.fn_xL_mixed.okX sc_xL_mixed (fun vs H Q E h => ?_) (fun cdv A outer s H vs Q E L hr h => ?_)
  · obtain ⟨c, k, rfl, k0, k1, q⟩ := h
    rfl
  obtain ⟨c, k, rfl, k0, k1, q⟩ := h
  have nd := sc_xL_mixed.nd
  refine ⟨_, (pss_cons (ps_set (i := 2) nd rfl (Or.inl rfl) (pe_op op_mod (pe_op op_add (pe_op op_add (pe_op op_mul (pe_op op_mod (pv 0) pe_int) pe_int) (pe_op op_mul (pv 1) pe_int)) pe_int) pe_int)) (pss_cons (ps_set (i := 2) nd rfl (Or.inl rfl) (pe_op op_mod (pe_op op_add (pe_op op_mul (pv 2) (pv 2)) pe_int) pe_int)) (pss_one (ps_ret (pe_op op_mod (pe_op op_mul (pv 2) (pv 2)) pe_int))))), ?_⟩
  open_k0
  generalize h1 : (c % 2147483647 * 48271 + k * 69621 + 7919) % 2147483629 = n1
  have b1 : 0 ≤ n1 ∧ n1 < 2147483629 := by omega
  generalize h2 : (n1 * n1 + 69621) % 2147483587 = n2
  have b2 : 0 ≤ n2 ∧ n2 < 2147483587 := by
    rw [← h2]
    exact ⟨Int.emod_nonneg _ (by decide), Int.emod_lt_of_pos _ (by decide)⟩
  refine ⟨.inr ⟨by decide, by decide⟩, .inl ⟨by omega, by omega⟩, .inl ⟨by omega, by omega⟩, .inl ⟨by omega, by omega⟩, q _ (Int.emod_nonneg _ (by decide)) (Int.emod_lt_of_pos _ (by decide))⟩
def spNames (K : PySem.W.Frag) : Sp := fun vs H Q _ => ∃ c m : Int, vs = [.int c, .int m] ∧ 0 ≤ m ∧ m ≤ 8 ∧ ∀ l (ws : List (List Nat)) H', Same H H' → (ws.length : Int) = m → H' l = some (.lst (ws.map fun w => .str (SL w))) → Q (.ref l) H'
theorem sc_xL_plan_names : FnScope ["_law_cell", "_law_many", "_law_letters", "_law_size", "_law_at", "_law_names", "_law_k", "_law_name", "_law_j", "_law_turn"] ["_law_cell", "_law_many"] (defScope s_xL_plan_names) := ⟨rfl, rfl, rfl, by decide +kernel, rfl, by decide +kernel, by decide +kernel⟩
theorem ok_xL_plan_names (T : Txt w K mg t) : FnOk P w K mg base (CXE P w) 1 t.a_xL_plan_names t.d_xL_plan_names ["_law_cell", "_law_many"] (spNames K) := by
  refine T.fn_xL_plan_names.okX sc_xL_plan_names (fun vs H Q E h => ?_) (fun cdv A outer s H vs Q E L hr h => ?_)
  · obtain ⟨c, m, rfl, m0, m1, q⟩ := h
    rfl
  obtain ⟨c, m, rfl, m0, m1, q⟩ := h
  have nd := sc_xL_plan_names.nd
  refine ⟨_, (pss_cons (ps_set (i := 2) nd rfl (Or.inl rfl) (pe_strL st_15)) (pss_cons (ps_set (i := 3) nd rfl (Or.inl rfl) (pe_op op_add pe_int (pe_op op_mod (pv 0) pe_int))) (pss_cons (ps_set (i := 4) nd rfl (Or.inl rfl) (pe_op op_mod (pe_op op_fdiv (pv 0) pe_int) (pv 3))) (pss_cons (ps_set (i := 5) nd rfl (Or.inl rfl) (pe_lstS pa_nil)) (pss_cons (ps_for (by passes_own) rfl (pi_range1 (by rfl) T.no_range (pa_cons (pv 1) pa_nil)) (pg_name (i := 6) nd rfl (Or.inl rfl)) (pss_cons (ps_set (i := 7) nd rfl (Or.inl rfl) (pe_strL st_16)) (pss_cons (ps_for (by passes_own) rfl (pi_range1 (by rfl) T.no_range (pa_cons (pv 3) pa_nil)) (pg_name (i := 8) nd rfl (Or.inl rfl)) (pss_cons (ps_set (i := 9) nd rfl (Or.inl rfl) (pe_op op_add (pe_op op_mul (pv 8) (pv 8)) (pe_op op_mul (pv 6) (pe_callTy call_int1 (by rfl) T.no_int bb_int (pa_cons (pe_cmpR op_eq (pv 8) (pv 4) (nomark _)) pa_nil))))) (pss_one (ps_set (i := 7) nd rfl (Or.inl rfl) (pe_op op_add_s (pv 7) (pe_ix ix_s (pv 2) (pe_op op_mod (pe_op op_add (pe_op op_fdiv (pv 0) (pe_op op_mul pe_int (pe_op op_add (pv 8) pe_int))) (pv 9)) pe_int) (fun _ _ => rfl))))))) (pss_one (ps_expr (pe_bm PySem.F.plainAttrs_list PySem.F.slot_list_append PySem.F.type_list_append mt_append (pv 5) (pa_cons (pv 7) pa_nil))))))) (pss_one (ps_ret (pv 5)))))))), ?_⟩
  open_k0
  have sb : 1 ≤ 1 + c % 8 ∧ 1 + c % 8 ≤ 8 := by omega
  generalize 1 + c % 8 = sz at sb ⊢
  refine ⟨by omega, fun ln H1 hln s1 e1 => ?_⟩
  ((try dsimp only); refine for_by fun R hR => ?_; simp only [tItems, tRev, tDNewS, tDIn, tDNotIn, sDPut, tDPop1, tDGet2, tDGet, tDc, tCallKX, kwG_one, tEither, tTupS, tLstS, comp_K, capσ, sub_nil, sub_none, sub_some, tYes, List.replicate, Option.join_some, Option.join_none, SL_inj, iStr, tPart, tNoPart, tSl, tLst, tTup, cx_K, slT, CDiv, Int.reduceLT, Int.reduceLE, Int.reduceToNat, Int.reduceNeg, Int.reduceAdd, Int.reduceSub, Int.reduceMul, forall_const, tSeq, tNext, tIfS, tRet, tRetN, tDrop, tAsg, gName, gCons, gNil, tVar, tC, tOp, rI, rI0, tUn, rU, tTest, tB, tAnd, tOr, tNot, tAndV, tOrV, tNotV, tIf, tCons, tNil, tCallX, tCallL, tCB, sRaise, rEq, rNe, scal_ii, scal_bb, scal_ss, scal_ni, scal_in, tChain, tAug, ipI, L2.start, List.map_cons, List.map_nil, List.length_cons, List.length_nil, List.cons_append, List.nil_append, List.append_nil, List.replicate_succ, List.replicate_zero, Nat.reduceAdd, Nat.reduceSub, List.getElem?_cons_zero, List.getElem?_cons_succ, List.set_cons_zero, List.set_cons_succ, Option.some.injEq, V.int.injEq, V.bl.injEq, V.ref.injEq, V.str.injEq, exists_eq_left', exists_eq_left, exists_eq', exists_and_left, List.cons.injEq, and_true, true_and, and_self, and_assoc, decide_eq_true_eq, if_true, if_false, Bool.true_eq_false, Bool.false_eq_true, Bool.not_eq_true', Bool.not_true, Bool.not_false, decide_eq_false_iff_not, ite_true, ite_false, reduceCtorEq, false_and, exists_false, false_or, or_false, and_false, iList, iTup, iZip, iEnum, iRng1, iRng2, Nat.reduceLeDiff])
  refine ⟨by omega, by omega, hR _ _ ?_⟩
  clear hR
  generalize c / 8 % sz = at'
  obtain ⟨Pv, hPv⟩ : ∃ Pv : Nat → St → Hp → Prop, Pv = fun i σ1 H5 => Same H H5 ∧ ∃ ws : List (List Nat), ws.length = i ∧ H5 ln = some (.lst (ws.map fun w => V.str (SL w))) ∧ ∃ x6 x7 x8 x9, σ1 = [some (.int c), some (.int m), some (.str (SL azL)), some (.int sz), some (.int at'), some (.ref ln), x6, x7, x8, x9] := ⟨_, rfl⟩
  refine for_range Pv (by rw [hPv]; exact ⟨s1, [], rfl, e1, _, _, _, _, rfl⟩) (fun i σ1 H5 hi h => ?_) (fun σ1 H5 h => ?_)
  · rw [hPv] at h
    obtain ⟨s5, ws, wl, e5, x6, x7, x8, x9, rfl⟩ := h
    open_k0
    ((try dsimp only); refine for_by fun R hR => ?_; simp only [tItems, tRev, tDNewS, tDIn, tDNotIn, sDPut, tDPop1, tDGet2, tDGet, tDc, tCallKX, kwG_one, tEither, tTupS, tLstS, comp_K, capσ, sub_nil, sub_none, sub_some, tYes, List.replicate, Option.join_some, Option.join_none, SL_inj, iStr, tPart, tNoPart, tSl, tLst, tTup, cx_K, slT, CDiv, Int.reduceLT, Int.reduceLE, Int.reduceToNat, Int.reduceNeg, Int.reduceAdd, Int.reduceSub, Int.reduceMul, forall_const, tSeq, tNext, tIfS, tRet, tRetN, tDrop, tAsg, gName, gCons, gNil, tVar, tC, tOp, rI, rI0, tUn, rU, tTest, tB, tAnd, tOr, tNot, tAndV, tOrV, tNotV, tIf, tCons, tNil, tCallX, tCallL, tCB, sRaise, rEq, rNe, scal_ii, scal_bb, scal_ss, scal_ni, scal_in, tChain, tAug, ipI, L2.start, List.map_cons, List.map_nil, List.length_cons, List.length_nil, List.cons_append, List.nil_append, List.append_nil, List.replicate_succ, List.replicate_zero, Nat.reduceAdd, Nat.reduceSub, List.getElem?_cons_zero, List.getElem?_cons_succ, List.set_cons_zero, List.set_cons_succ, Option.some.injEq, V.int.injEq, V.bl.injEq, V.ref.injEq, V.str.injEq, exists_eq_left', exists_eq_left, exists_eq', exists_and_left, List.cons.injEq, and_true, true_and, and_self, and_assoc, decide_eq_true_eq, if_true, if_false, Bool.true_eq_false, Bool.false_eq_true, Bool.not_eq_true', Bool.not_true, Bool.not_false, decide_eq_false_iff_not, ite_true, ite_false, reduceCtorEq, false_and, exists_false, false_or, or_false, and_false, iList, iTup, iZip, iEnum, iRng1, iRng2, Nat.reduceLeDiff])
    refine ⟨by omega, by omega, hR _ _ ?_⟩
    clear hR
    obtain ⟨Pw, hPw⟩ : ∃ Pw : Nat → St → Hp → Prop, Pw = fun j σ2 H6 => H6 = H5 ∧ ∃ (cs : List Nat) (y8 y9 : Option V), cs.length = j ∧ σ2 = [some (.int c), some (.int m), some (.str (SL azL)), some (.int sz), some (.int at'), some (.ref ln), some (.int (0 + (i : Int))), some (.str (SL cs)), y8, y9] := ⟨_, rfl⟩
    refine for_range Pw (by rw [hPw]; exact ⟨rfl, [], _, _, rfl, rfl⟩) (fun j σ2 H6 hj h => ?_) (fun σ2 H6 h => ?_)
    · rw [hPw] at h
      obtain ⟨rfl, cs, y8, y9, cl, rfl⟩ := h
      open_k0
      have rb : 0 ≤ (c / (64 * (0 + (j : Int) + 1)) + ((0 + (j : Int)) * (0 + (j : Int)) + (0 + (i : Int)) * if 0 + (j : Int) = at' then 1 else 0)) % 26 ∧ (c / (64 * (0 + (j : Int) + 1)) + ((0 + (j : Int)) * (0 + (j : Int)) + (0 + (i : Int)) * if 0 + (j : Int) = at' then 1 else 0)) % 26 < 26 := ⟨Int.emod_nonneg _ (by decide), Int.emod_lt_of_pos _ (by decide)⟩
      refine ⟨.inl ⟨by omega, by omega⟩, .inl ⟨by omega, by omega⟩, .inl ⟨by decide, by decide⟩, by omega, by omega, _, at_az rb.1 rb.2, le_line (by omega), ?_⟩
      rw [hPw]
      exact ⟨rfl, _, _, _, by rw [List.length_append, cl]; rfl, rfl⟩
    · rw [hPw] at h
      obtain ⟨rfl, cs, y8, y9, cl, rfl⟩ := h
      lgec_open0
      refine ⟨.inl ⟨rfl, _, SqL.of e5⟩, ln, _, _, rfl, rfl, e5, by rw [List.length_map]; exact small1000 (by omega), ?_⟩
      rw [hPv]
      exact ⟨same_upd s5 hln, ws ++ [cs], by rw [List.length_append, wl]; rfl, by rw [upd_same, List.map_append]; rfl, _, _, _, _, rfl⟩
  · rw [hPv] at h
    obtain ⟨s5, ws, wl, e5, x6, x7, x8, x9, rfl⟩ := h
    open_k0
    exact q ln ws H5 s5 (by omega) e5
def spAccount (K : PySem.W.Frag) : Sp := fun vs H Q _ => ∃ (a : Addr) (ns : List Int), vs = [.ref a] ∧ SqL K H a (ns.map V.int) ∧ ns.length ≤ 63 ∧ ∀ p l (zs : List (V × Pl)) (f : Int) dy cc H', Same H H' → AccIs K H' p l f dy cc → H' l = some (.lst (zs.map (·.1))) → PlsAt K H' zs → PlsIn zs → Q (.ref p) H'
theorem sc_xL_account : FnScope ["_law_script", "_law_cell", "_law_first", "_law_m", "_law_cycle", "_law_names", "_law_plans", "_law_k", "_law_n", "_law_price"] ["_law_script"] (defScope s_xL_account) := ⟨rfl, rfl, rfl, by decide +kernel, rfl, by decide +kernel, by decide +kernel⟩
theorem ok_xL_account (T : Txt w K mg t) : FnOk P w K mg base (CXE P w) 2 t.a_xL_account t.d_xL_account ["_law_script"] (spAccount K) := by
  refine T.fn_xL_account.okX sc_xL_account (fun vs H Q E h => ?_) (fun cdv A outer s H vs Q E L hr h => ?_)
  · obtain ⟨a, ns, rfl, hS, h63, q⟩ := h
    rfl
  obtain ⟨a, ns, rfl, hS, h63, q⟩ := h
  have nd := sc_xL_account.nd
  refine ⟨_, (pss_cons (ps_set (i := 1) nd rfl (Or.inl rfl) (pe_callX L.toLv (ok_xL_cell_at T) (hr.mono (by decide)) (by rfl) T.mg_xL_cell_at T.fn_xL_cell_at.kp T.b_xL_cell_at .nil (pa_cons (pv 0) (pa_cons pe_int pa_nil star_Constant) star_Name))) (pss_cons (ps_set (i := 2) nd rfl (Or.inl rfl) (pe_ix ix_list (pe_lstS (pa_cons pe_int (pa_cons (pe_op op_add pe_int (pe_op op_mod (pe_op op_fdiv (pv 1) pe_int) pe_int)) (pa_cons (pe_op op_mod (pe_op op_fdiv (pv 1) pe_int) pe_int) (pa_cons (pe_op op_sub pe_int (pe_op op_mod (pe_op op_fdiv (pv 1) pe_int) pe_int)) pa_nil star_BinOp) star_BinOp) star_BinOp) star_Constant)) (pe_op op_mod (pv 1) pe_int) (fun _ _ => rfl))) (pss_cons (ps_set (i := 3) nd rfl (Or.inl rfl) (pe_callX L.toLv (ok_xL_mixed T) (hr.mono (by decide)) (by rfl) T.mg_xL_mixed T.fn_xL_mixed.kp T.b_xL_mixed .nil (pa_cons (pe_callX L.toLv (ok_xL_cell_at T) (hr.mono (by decide)) (by rfl) T.mg_xL_cell_at T.fn_xL_cell_at.kp T.b_xL_cell_at .nil (pa_cons (pv 0) (pa_cons pe_int pa_nil star_Constant) star_Name)) (pa_cons pe_int pa_nil star_Constant) star_Call))) (pss_cons (ps_set (i := 4) nd rfl (Or.inl rfl) (pe_tupS (pa_cons (pe_strL st_4) (pa_cons (pe_op op_add pe_int (pe_op op_mod (pe_op op_fdiv (pv 3) pe_int) pe_int)) pa_nil star_BinOp) star_Constant))) (pss_cons (ps_cut (ps_if (pt_cmpR op_lt (pe_op op_mod (pv 3) pe_int) pe_int (nomark _)) (pss_one (ps_set (i := 4) nd rfl (Or.inl rfl) (pe_tupS (pa_cons (pe_strL st_17) (pa_cons (pe_op op_add pe_int (pe_op op_mod (pe_op op_fdiv (pv 3) pe_int) pe_int)) pa_nil star_BinOp) star_Constant)))) pss_nil)) (pss_cons (ps_cut (ps_if (pt_cmpR op_eq (pe_op op_mod (pv 3) pe_int) pe_int (nomark _)) (pss_one (ps_set (i := 4) nd rfl (Or.inl rfl) (pe_tupS (pa_cons (pe_strL st_17) (pa_cons (pe_op op_add pe_int (pe_op op_mod (pe_op op_fdiv (pv 3) pe_int) pe_int)) pa_nil star_BinOp) star_Constant)))) pss_nil)) (pss_cons (ps_cut (ps_if (pt_cmpR op_eq (pe_op op_mod (pv 3) pe_int) pe_int (nomark _)) (pss_one (ps_set (i := 4) nd rfl (Or.inl rfl) (pe_tupS (pa_cons (pe_strL st_4) (pa_cons (pe_op op_add pe_int (pe_op op_mod (pe_op op_fdiv (pv 3) pe_int) pe_int)) pa_nil star_BinOp) star_Constant)))) pss_nil)) (pss_cons (ps_set (i := 5) nd rfl (Or.inl rfl) (pe_callX L.toLv (ok_xL_plan_names T) (hr.mono (by decide)) (by rfl) T.mg_xL_plan_names T.fn_xL_plan_names.kp T.b_xL_plan_names .nil (pa_cons (pe_callX L.toLv (ok_xL_cell_at T) (hr.mono (by decide)) (by rfl) T.mg_xL_cell_at T.fn_xL_cell_at.kp T.b_xL_cell_at .nil (pa_cons (pv 0) (pa_cons pe_int pa_nil star_Constant) star_Name)) (pa_cons pe_int pa_nil star_Constant) star_Call))) (pss_cons (ps_set (i := 6) nd rfl (Or.inl rfl) (pe_lstS pa_nil)) (pss_cons (ps_for (by passes_own) rfl (pi_range1 (by rfl) T.no_range (pa_cons (pe_ix ix_list (pe_lstS (pa_cons (pe_op op_add pe_int (pe_op op_mod (pe_op op_fdiv (pv 3) pe_int) pe_int)) (pa_cons pe_int pa_nil star_Constant) star_BinOp)) (pe_callTy call_int1 (by rfl) T.no_int bb_int (pa_cons (pe_cmpR op_eq (pe_op op_mod (pe_op op_fdiv (pv 3) pe_int) pe_int) pe_int (nomark _)) pa_nil)) (fun _ _ => rfl)) pa_nil)) (pg_name (i := 7) nd rfl (Or.inl rfl)) (pss_cons (ps_set (i := 8) nd rfl (Or.inl rfl) (pe_callX L.toLv (ok_xL_mixed T) (hr.mono (by decide)) (by rfl) T.mg_xL_mixed T.fn_xL_mixed.kp T.b_xL_mixed .nil (pa_cons (pe_callX L.toLv (ok_xL_cell_at T) (hr.mono (by decide)) (by rfl) T.mg_xL_cell_at T.fn_xL_cell_at.kp T.b_xL_cell_at .nil (pa_cons (pv 0) (pa_cons pe_int pa_nil star_Constant) star_Name)) (pa_cons (pv 7) pa_nil star_Name) star_Call))) (pss_cons (ps_set (i := 9) nd rfl (Or.inl rfl) (pe_ix ix_list (pe_lstS (pa_cons (pe_op op_mod (pe_op op_fdiv (pv 8) pe_int) pe_int) (pa_cons (pe_op op_mod (pe_op op_fdiv (pv 8) pe_int) pe_int) (pa_cons (pe_op op_mod (pe_op op_fdiv (pe_callX L.toLv (ok_xL_cell_at T) (hr.mono (by decide)) (by rfl) T.mg_xL_cell_at T.fn_xL_cell_at.kp T.b_xL_cell_at .nil (pa_cons (pv 0) (pa_cons pe_int pa_nil star_Constant) star_Name)) (pe_op op_add (pv 7) pe_int)) (pe_op op_pow pe_int pe_int)) pa_nil star_BinOp) star_BinOp) star_BinOp)) (pe_op op_mod (pe_op op_fdiv (pv 8) pe_int) pe_int) (fun _ _ => rfl))) (pss_one (ps_expr (pe_bm PySem.F.plainAttrs_list PySem.F.slot_list_append PySem.F.type_list_append mt_append (pv 6) (pa_cons (pe_tupS (pa_cons (pe_ix ix_list (pv 5) (pv 7) (fun _ _ => rfl)) (pa_cons (pv 9) (pa_cons (pe_ix ix_list (pe_lstS (pa_cons pe_int (pa_cons pe_int (pa_cons pe_int (pa_cons (pe_op op_add pe_int (pe_op op_mod (pe_op op_fdiv (pv 8) pe_int) pe_int)) (pa_cons (pe_op op_add pe_int (pe_op op_mod (pe_op op_fdiv (pv 8) pe_int) pe_int)) (pa_cons pe_int (pa_cons pe_int pa_nil star_Constant) star_Constant) star_BinOp) star_BinOp) star_Constant) star_Constant) star_Constant)) (pe_op op_mod (pv 8) pe_int) (fun _ _ => rfl)) pa_nil star_Subscript) star_Name) star_Subscript)) pa_nil))))))) (pss_one (ps_ret (pe_tupS (pa_cons (pv 6) (pa_cons (pv 2) (pa_cons (pv 4) pa_nil star_Name) star_Name) star_Name)))))))))))))), ?_⟩
  open_k0
  refine ⟨a, ns, 0, rfl, hS, h63, by decide, ?_⟩
  generalize cellOf ns 0 = cl
  refine ⟨_, rfl, _, rfl, _, rfl, fun p1 H1 _ s1 e1 => ⟨_, rfl, ?_⟩⟩
  have e1' : H1 p1 = some (.lst (([0, 738885 + cl / 4 % 800, cl / 4 % 3500001, 3500000 - cl / 4 % 40] : List Int).map V.int)) := e1
  have i4 : 0 ≤ cl % 4 ∧ cl % 4 < 4 := by omega
  have bf := getD_in (xs := [0, 738885 + cl / 4 % 800, cl / 4 % 3500001, 3500000 - cl / 4 % 40]) (lo := 0) (hi := 3500000) (fun x hx => by
    simp only [List.mem_cons, List.not_mem_nil, or_false] at hx
    rcases hx with rfl | rfl | rfl | rfl <;> omega) i4.1 i4.2
  refine ixL (SqL.of e1') (at_ints i4.1 i4.2) ?_
  clear e1 e1'
  generalize ([0, 738885 + cl / 4 % 800, cl / 4 % 3500001, 3500000 - cl / 4 % 40] : List Int).getD (cl % 4).toNat 0 = f at bf ⊢
  refine ⟨a, ns, 1, rfl, s1.seq hS, h63, by decide, _, 1, rfl, by decide, by decide, fun m m0 m1 => ?_⟩
  refine ⟨_, rfl, fun p2 H2 _ s2 e2 => ?_⟩
  obtain ⟨R, hR⟩ : ∃ R : St → Hp → Prop, R = fun σ' H' => Same H H' ∧ ∃ (pc : Addr) (dy : Bool) (cc : Int), IsCyc K H' pc dy cc ∧ σ' = [some (.ref a), some (.int cl), some (.int f), some (.int m), some (.ref pc), none, none, none, none, none] := ⟨_, rfl⟩
  have s12 := s1.trans s2
  have mk : ∀ (pc : Addr) (dy : Bool) (cc : Int) (H' : Hp), Same H H' → H' pc = some (.tup [.str (SL (if dy then [100, 97, 121, 115] else [109, 111, 110, 116, 104, 115])), .int cc]) → Cal.CycOk dy cc → R [some (.ref a), some (.int cl), some (.int f), some (.int m), some (.ref pc), none, none, none, none, none] H' := fun pc dy cc H' s e h => by
    rw [hR]
    exact ⟨s, pc, dy, cc, ⟨SqT.of e, h⟩, rfl⟩
  refine ⟨R, ?_, fun σ3 H3 h3 => ?_⟩
  · open_k0
    exact ite_of (fun _ p3 H3 _ s3 e3 => mk p3 true _ H3 (s12.trans s3) e3 (Cal.cyc_days (by omega) (by omega))) (fun _ => mk p2 false _ H2 s12 e2 (Cal.cyc_months (by omega) (by omega)))
  have h3' := h3
  rw [hR] at h3
  obtain ⟨s3, pc3, dy3, cc3, c3, rfl⟩ := h3
  open_k0
  refine ⟨R, ?_, fun σ4 H4 h4 => ?_⟩
  · open_k0
    exact ite_of (fun _ p4 H4 _ s4 e4 => mk p4 true _ H4 (s3.trans s4) e4 (Cal.cyc_days (by omega) (by omega))) (fun _ => h3')
  clear h3'
  have h4' := h4
  rw [hR] at h4
  obtain ⟨s4, pc4, dy4, cc4, c4, rfl⟩ := h4
  open_k0
  refine ⟨R, ?_, fun σ5 H5 h5 => ?_⟩
  · open_k0
    exact ite_of (fun _ p5 H5 _ s5 e5 => mk p5 false _ H5 (s4.trans s5) e5 (Cal.cyc_months (by omega) (by omega))) (fun _ => h4')
  clear h4'
  rw [hR] at h5
  obtain ⟨s5, pc, dy, cc, hc, rfl⟩ := h5
  clear mk hR s3 c3 s4 c4 R
  open_k0
  refine ⟨a, ns, 2, rfl, s5.seq hS, h63, by decide, ?_⟩
  refine ⟨_, 8, rfl, by decide, by decide, fun ln ws H6 s6 wl e6 => ?_⟩
  intro lp H7 hlp s7 e7
  ((try dsimp only); refine for_by fun R hR => ?_; simp only [tItems, tRev, tDNewS, tDIn, tDNotIn, sDPut, tDPop1, tDGet2, tDGet, tDc, tCallKX, kwG_one, tEither, tTupS, tLstS, comp_K, capσ, sub_nil, sub_none, sub_some, tYes, List.replicate, Option.join_some, Option.join_none, SL_inj, iStr, tPart, tNoPart, tSl, tLst, tTup, cx_K, slT, CDiv, Int.reduceLT, Int.reduceLE, Int.reduceToNat, Int.reduceNeg, Int.reduceAdd, Int.reduceSub, Int.reduceMul, forall_const, tSeq, tNext, tIfS, tRet, tRetN, tDrop, tAsg, gName, gCons, gNil, tVar, tC, tOp, rI, rI0, tUn, rU, tTest, tB, tAnd, tOr, tNot, tAndV, tOrV, tNotV, tIf, tCons, tNil, tCallX, tCallL, tCB, sRaise, rEq, rNe, scal_ii, scal_bb, scal_ss, scal_ni, scal_in, tChain, tAug, ipI, L2.start, List.map_cons, List.map_nil, List.length_cons, List.length_nil, List.cons_append, List.nil_append, List.append_nil, List.replicate_succ, List.replicate_zero, Nat.reduceAdd, Nat.reduceSub, List.getElem?_cons_zero, List.getElem?_cons_succ, List.set_cons_zero, List.set_cons_succ, Option.some.injEq, V.int.injEq, V.bl.injEq, V.ref.injEq, V.str.injEq, exists_eq_left', exists_eq_left, exists_eq', exists_and_left, List.cons.injEq, and_true, true_and, and_self, and_assoc, decide_eq_true_eq, if_true, if_false, Bool.true_eq_false, Bool.false_eq_true, Bool.not_eq_true', Bool.not_true, Bool.not_false, decide_eq_false_iff_not, ite_true, ite_false, reduceCtorEq, false_and, exists_false, false_or, or_false, and_false, iList, iTup, iZip, iEnum, iRng1, iRng2, Nat.reduceLeDiff])
  intro p8 H8 _ s8 e8
  have e8' : H8 p8 = some (.lst (([1 + m / 640 % 4, 8] : List Int).map V.int)) := e8
  obtain ⟨ix, hix⟩ : ∃ ix : Int, ix = if m / 2560 % 8 = 5 then 1 else 0 := ⟨_, rfl⟩
  rw [← hix]
  have ib : 0 ≤ ix ∧ ix < 2 := by rw [hix]; split <;> decide
  have bn := getD_in (xs := [1 + m / 640 % 4, 8]) (lo := 1) (hi := 8) (fun x hx => by
    simp only [List.mem_cons, List.not_mem_nil, or_false] at hx
    rcases hx with rfl | rfl <;> omega) ib.1 ib.2
  refine ixL (SqL.of e8') (at_ints ib.1 ib.2) ⟨_, rfl, ?_⟩
  clear e8 e8' hix
  generalize ([1 + m / 640 % 4, 8] : List Int).getD ix.toNat 0 = n at bn ⊢
  refine ⟨by omega, by omega, hR _ _ ?_⟩
  clear hR
  have s08 := ((s5.trans s6).trans s7).trans s8
  have s06 := s5.trans s6
  obtain ⟨Pv, hPv⟩ : ∃ Pv : Nat → St → Hp → Prop, Pv = fun i σ1 H9 => Same H6 H9 ∧ ∃ zs : List (V × Pl), zs.length = i ∧ H9 lp = some (.lst (zs.map (·.1))) ∧ PlsAt K H9 zs ∧ (∀ z ∈ zs, (0 ≤ z.2.2.1 ∧ z.2.2.1 < 10 ^ 30) ∧ 0 ≤ z.2.2.2 ∧ z.2.2.2 ≤ 400) ∧ ∃ x7 x8 x9, σ1 = [some (.ref a), some (.int cl), some (.int f), some (.int m), some (.ref pc), some (.ref ln), some (.ref lp), x7, x8, x9] := ⟨_, rfl⟩
  refine for_range Pv (by rw [hPv]; exact ⟨s7.trans s8, [], rfl, s8 _ _ e7, (fun _ h => nomatch h), (fun _ h => nomatch h), _, _, _, rfl⟩) (fun i σ1 H9 hi h => ?_) (fun σ1 H9 h => ?_)
  · rw [hPv] at h
    obtain ⟨s9, zs, zl, e9, za, zb, x7, x8, x9, rfl⟩ := h
    have s09 := s06.trans s9
    lgec_open0
    refine ⟨a, ns, 2, rfl, s09.seq hS, h63, by decide, _, _, rfl, by omega, by omega, fun nn n0 n1 => ?_⟩
    refine ⟨_, rfl, _, rfl, a, ns, 2, rfl, s09.seq hS, h63, by decide, _, rfl, by omega, by omega, ⟨by decide, by decide, by decide⟩, by decide, fun p10 H10 _ s10 e10 => ⟨_, rfl, ?_⟩⟩
    generalize cellOf ns 2 / (0 + (i : Int) + 1) = cd at e10
    have e10' : H10 p10 = some (.lst (([nn / 7 % 1000, nn / 7 % 100, cd % 10 ^ 30] : List Int).map V.int)) := e10
    have i3 : 0 ≤ nn / 7000 % 3 ∧ nn / 7000 % 3 < 3 := by omega
    have bp := getD_in (xs := [nn / 7 % 1000, nn / 7 % 100, cd % 10 ^ 30]) (lo := 0) (hi := 10 ^ 30 - 1) (fun x hx => by
      simp only [List.mem_cons, List.not_mem_nil, or_false] at hx
      rcases hx with rfl | rfl | rfl <;> omega) i3.1 i3.2
    refine ixL (SqL.of e10') (at_ints i3.1 i3.2) ?_
    clear e10 e10'
    generalize ([nn / 7 % 1000, nn / 7 % 100, cd % 10 ^ 30] : List Int).getD (nn / 7000 % 3).toNat 0 = pr at bp ⊢
    have e910 := s10 _ _ e9
    have en10 := s10 _ _ (s9 _ _ e6)
    obtain ⟨y, hy, ey⟩ := at_strs (ys := ws) (i := 0 + (i : Int)) (by omega) (by omega)
    refine ⟨.inl ⟨rfl, _, SqL.of e910⟩, ixL (SqL.of en10) ey ⟨_, rfl, _, rfl, fun p11 H11 _ s11 e11 => ⟨_, rfl, ?_⟩⟩⟩
    have e11' : H11 p11 = some (.lst (([0, 0, 7, 28 + nn / 7 % 4, 1 + nn / 7 % 400, 30, 0] : List Int).map V.int)) := e11
    have i7 : 0 ≤ nn % 7 ∧ nn % 7 < 7 := by omega
    have bc := getD_in (xs := [0, 0, 7, 28 + nn / 7 % 4, 1 + nn / 7 % 400, 30, 0]) (lo := 0) (hi := 400) (fun x hx => by
      simp only [List.mem_cons, List.not_mem_nil, or_false] at hx
      rcases hx with rfl | rfl | rfl | rfl | rfl | rfl | rfl <;> omega) i7.1 i7.2
    refine ixL (SqL.of e11') (at_ints i7.1 i7.2) (fun p12 H12 _ s12 e12 => ?_)
    clear e11 e11'
    generalize ([0, 0, 7, 28 + nn / 7 % 4, 1 + nn / 7 % 400, 30, 0] : List Int).getD (nn % 7).toNat 0 = ct at bc e12
    have t12 := (s10.trans s11).trans s12
    have e912 := t12 _ _ e9
    have ne : ∀ a xs, H12 a = some (.tup xs) → a ≠ lp := fun a xs h z => by rw [z, e912] at h; cases h
    have z12 : PlsAt K H12 zs := za.same t12
    refine ⟨lp, _, _, rfl, rfl, e912, by rw [List.length_map]; exact small1000 (by omega), ?_⟩
    rw [hPv]
    refine ⟨same_upd (s9.trans t12) hlp, zs ++ [(.ref p12, y, pr, ct)], by rw [List.length_append, zl]; rfl, by rw [upd_same, List.map_append]; rfl, ?_, fun z hz => ?_, _, _, _, rfl⟩
    · intro z hz
      rcases List.mem_append.mp hz with h | h
      · obtain ⟨p, e, hq⟩ := z12 z h
        exact ⟨p, e, sqT_upd hq e912⟩
      · rw [List.mem_singleton.mp h]
        exact ⟨p12, rfl, SqT.of (by rw [upd_ne (ne _ _ e12)]; exact e12)⟩
    · rcases List.mem_append.mp hz with h | h
      · exact zb z h
      · rw [List.mem_singleton.mp h]
        exact ⟨⟨bp.1, by show pr < 10 ^ 30; omega⟩, bc⟩
  · rw [hPv] at h
    obtain ⟨s9, zs, zl, e9, za, zb, x7, x8, x9, rfl⟩ := h
    open_k0
    intro pr H10 _ s10 e10
    exact q pr lp zs f dy cc H10 ((s06.trans s9).trans s10) ⟨pc, bf.1, bf.2, ((hc.same s6).same s9).same s10, e10⟩ (s10 _ _ e9) (za.same s10) ⟨by omega, by omega, zb⟩
theorem st_kinds {f : Int} {dy : Bool} {c : Int} {ts : List Tm} {day : Int} {o0 o1 o2 : Option Rt} (hb : ∀ t ∈ ts, isTm t.2.2.2 = true) (h : StOk f dy c ts day o0 o1 o2) : ScD (stV o0 .non) ∧ (∃ n, stV o1 (.int 1) = .int n) ∧ ∃ w, stV o2 on' = .str w := by
  obtain ⟨h0, h1, h2⟩ := h
  have of : ∀ (kd : Nat) (t : Rt), Bst (ts.map (rtT f dy c)) day kd (some t) → ∃ u : Tm, isTm u.2.2.2 = true ∧ chK u.2.2.2 = kd ∧ t.2.2.2 = chVal u.2.2.2 := fun kd t hb' => by
    obtain ⟨u, hu, rfl⟩ := List.mem_map.mp hb'.1
    exact ⟨u, hb u hu, hb'.2.1, rfl⟩
  refine ⟨?_, ?_, ?_⟩
  · cases o0 with
    | none => exact .inl rfl
    | some t =>
      obtain ⟨u, tm, k, e⟩ := of 0 t h0
      show ScD t.2.2.2
      rw [e]
      cases hch : u.2.2.2 with
      | plan d nm => exact .inr (.inr ⟨_, rfl⟩)
      | seats d n => exact .inr (.inl ⟨_, rfl⟩)
      | word w d => exact .inr (.inr ⟨_, rfl⟩)
      | undo k => exact .inl rfl
      | grant k => exact .inl rfl
      | back => exact .inl rfl
  · cases o1 with
    | none => exact ⟨1, rfl⟩
    | some t =>
      obtain ⟨u, tm, k, e⟩ := of 1 t h1
      show ∃ n, t.2.2.2 = .int n
      rw [e]
      cases hch : u.2.2.2 with
      | seats d n => exact ⟨n, rfl⟩
      | plan d nm => rw [hch] at k; cases k
      | word w d => rw [hch] at k; cases k
      | undo k' => rw [hch] at tm; cases tm
      | grant k' => rw [hch] at tm; cases tm
      | back => rw [hch] at tm; cases tm
  · cases o2 with
    | none => exact ⟨_, rfl⟩
    | some t =>
      obtain ⟨u, tm, k, e⟩ := of 2 t h2
      show ∃ n, t.2.2.2 = .str n
      rw [e]
      cases hch : u.2.2.2 with
      | word w d => exact ⟨_, rfl⟩
      | plan d nm => rw [hch] at k; cases k
      | seats d nm => rw [hch] at k; cases k
      | undo k' => rw [hch] at tm; cases tm
      | grant k' => rw [hch] at tm; cases tm
      | back => rw [hch] at tm; cases tm
theorem OrdAt.same {K : PySem.W.Frag} {H H' : Hp} {l : Addr} {f : Int} {dy : Bool} {c : Int} {os : List Or'} (h : OrdAt K H l f dy c os) (s : Same H H') : OrdAt K H' l f dy c os := ⟨s _ _ h.1, h.2.1, fun o ho => ⟨s _ _ (h.2.2.1 o ho).1, s.sqT (h.2.2.1 o ho).2.1, (h.2.2.1 o ho).2.2⟩, h.2.2.2⟩
theorem st_std {f : Int} {dy : Bool} {c : Int} {ts : List Tm} {day : Int} {o0 o1 o2 : Option Rt} (hb : ∀ t ∈ ts, isTm t.2.2.2 = true) (h : StOk f dy c ts day o0 o1 o2) : StD (stT o0 o1 o2) := by
  obtain ⟨k0, ⟨n, k1⟩, w, k2⟩ := st_kinds hb h
  exact ⟨_, n, w, k0, by unfold stT; rw [k1, k2]⟩
theorem StOk.on {f : Int} {dy : Bool} {c : Int} {ts : List Tm} {day d2 : Int} {o0 o1 o2 : Option Rt} (h : StOk f dy c ts day o0 o1 o2) (le : day ≤ d2) (n : ∀ t ∈ ts, cntF f dy c t.2.2.2 ≤ day ∨ d2 < cntF f dy c t.2.2.2) : StOk f dy c ts d2 o0 o1 o2 := by
  have n' : ∀ r ∈ ts.map (rtT f dy c), r.2.1 ≤ day ∨ d2 < r.2.1 := fun r hr => by
    obtain ⟨t, ht, rfl⟩ := List.mem_map.mp hr
    exact n t ht
  exact ⟨h.1.on le n', h.2.1.on le n', h.2.2.on le n'⟩
/-- the states by the days -/
def IsG (f : Int) (dy : Bool) (c : Int) (ts : List Tm) (G : Int → List D) : Prop := ∀ d o0 o1 o2, StOk f dy c ts d o0 o1 o2 → stT o0 o1 o2 = G d
def IsSt (f : Int) (dy : Bool) (c : Int) (ts : List Tm) (d : List D) : Prop := ∃ dd o0 o1 o2, StOk f dy c ts dd o0 o1 o2 ∧ d = stT o0 o1 o2
def spStretches (K : PySem.W.Frag) : Sp := fun vs H Q _ => ∃ (l : Addr) (b e : Int) (f : Int) (dy : Bool) (c : Int) (os : List Or') (G : Int → List D), vs = [.ref l, .int b, .int e] ∧ OrdAt K H l f dy c os ∧ b ≤ e ∧ IsG f dy c (os.map (·.2)) G ∧ ∀ r zs H', H r = none → Same H H' → RwsAt H' r zs → Rws G b (zs.map (·.2)) e → (∀ z ∈ zs, IsSt f dy c (os.map (·.2)) z.2.2.2) → zs.length ≤ 64 → Q (.ref r) H'
theorem sc_stretches_by : FnScope ["ordered", "begin", "end", "told", "opened", "state", "term", "day", "behind"] ["ordered", "begin", "end"] (defScope s_stretches_by) := ⟨rfl, rfl, rfl, by decide +kernel, rfl, by decide +kernel, by decide +kernel⟩
theorem ok_stretches_by (T : Txt w K mg t) : FnOk P w K mg base (CXE P w) 2 t.a_stretches_by t.d_stretches_by ["ordered", "begin", "end"] (spStretches K) := by
  refine T.fn_stretches_by.okX sc_stretches_by (fun vs H Q E h => ?_) (fun cdv A outer s H vs Q E L hr h => ?_)
  · obtain ⟨l, b, e, f, dy, c, os, G, rfl, ho, be, hG, q⟩ := h
    rfl
  obtain ⟨l, b, e, f, dy, c, os, G, rfl, ho, be, hG, q⟩ := h
  have nd := sc_stretches_by.nd
  refine ⟨_, (pss_cons (ps_if (pt_cmpR op_eq (pv 1) (pv 2) (nomark _)) (pss_one (ps_ret (pe_lstS pa_nil))) pss_nil) (pss_cons (ps_set (i := 3) nd rfl (Or.inl rfl) (pe_lstS pa_nil)) (pss_cons (ps_set (i := 4) nd rfl (Or.inl rfl) (pv 1)) (pss_cons (ps_set (i := 5) nd rfl (Or.inl rfl) (pe_callX L.toLv (ok_state_by T) (hr.mono (by decide)) (by rfl) T.mg_state_by T.fn_state_by.kp T.b_state_by .nil (pa_cons (pv 0) (pa_cons (pv 1) pa_nil star_Name) star_Name))) (pss_cons (ps_for (by passes_own) rfl (pi_list (pv 0)) (pg_name (i := 6) nd rfl (Or.inl rfl)) (pss_cons (ps_set (i := 7) nd rfl (Or.inl rfl) (pe_ix ix_tup (pv 6) pe_int (fun _ _ => rfl))) (pss_one (ps_if (pw_and (pt_cmpR op_lt (pv 1) (pv 7) (nomark _)) (pw_and1 (pt_cmpR op_lt (pv 7) (pv 2) (nomark _)))).pt (pss_cons (ps_set (i := 8) nd rfl (Or.inl rfl) (pe_callX L.toLv (ok_state_by T) (hr.mono (by decide)) (by rfl) T.mg_state_by T.fn_state_by.kp T.b_state_by .nil (pa_cons (pv 0) (pa_cons (pv 7) pa_nil star_Name) star_Name))) (pss_one (ps_if (pt_cmpR (op_neD hr) (pv 8) (pv 5) (nomark _)) (pss_cons (ps_expr (pe_bm PySem.F.plainAttrs_list PySem.F.slot_list_append PySem.F.type_list_append mt_append (pv 3) (pa_cons (pe_tupS (pa_cons (pv 4) (pa_cons (pv 7) (pa_cons (pv 5) pa_nil star_Name) star_Name) star_Name)) pa_nil))) (pss_cons (ps_set (i := 4) nd rfl (Or.inl rfl) (pv 7)) (pss_one (ps_set (i := 5) nd rfl (Or.inl rfl) (pv 8))))) pss_nil))) pss_nil)))) (pss_cons (ps_expr (pe_bm PySem.F.plainAttrs_list PySem.F.slot_list_append PySem.F.type_list_append mt_append (pv 3) (pa_cons (pe_tupS (pa_cons (pv 4) (pa_cons (pv 2) (pa_cons (pv 5) pa_nil star_Name) star_Name) star_Name)) pa_nil))) (pss_one (ps_ret (pv 3))))))))), ?_⟩
  obtain ⟨el, n64, h3, so⟩ := id ho
  have tm : ∀ t ∈ os.map (·.2), isTm t.2.2.2 = true := fun t ht => by
    obtain ⟨o, ho', rfl⟩ := List.mem_map.mp ht
    exact (h3 o ho').2.2.1
  open_k0
  refine ite_of (fun z => ?_) (fun z => ?_)
  · exact fun r H1 hr s1 e1 => q r [] H1 hr s1 ⟨e1, (fun _ h => nomatch h)⟩ z (fun _ h => nomatch h) (by decide)
  intro lt H1 hlt s1 e1
  refine ⟨l, b, f, dy, c, os, rfl, ho.same s1, fun ps o0 o1 o2 H2 s2 so2 e2 => ?_⟩
  have s12 := s1.trans s2
  ((try dsimp only); refine for_by fun R hR => ?_; simp only [tItems, tRev, tDNewS, tDIn, tDNotIn, sDPut, tDPop1, tDGet2, tDGet, tDc, tCallKX, kwG_one, tEither, tTupS, tLstS, comp_K, capσ, sub_nil, sub_none, sub_some, tYes, List.replicate, Option.join_some, Option.join_none, SL_inj, iStr, tPart, tNoPart, tSl, tLst, tTup, cx_K, slT, CDiv, Int.reduceLT, Int.reduceLE, Int.reduceToNat, Int.reduceNeg, Int.reduceAdd, Int.reduceSub, Int.reduceMul, forall_const, tSeq, tNext, tIfS, tRet, tRetN, tDrop, tAsg, gName, gCons, gNil, tVar, tC, tOp, rI, rI0, tUn, rU, tTest, tB, tAnd, tOr, tNot, tAndV, tOrV, tNotV, tIf, tCons, tNil, tCallX, tCallL, tCB, sRaise, rEq, rNe, scal_ii, scal_bb, scal_ss, scal_ni, scal_in, tChain, tAug, ipI, L2.start, List.map_cons, List.map_nil, List.length_cons, List.length_nil, List.cons_append, List.nil_append, List.append_nil, List.replicate_succ, List.replicate_zero, Nat.reduceAdd, Nat.reduceSub, List.getElem?_cons_zero, List.getElem?_cons_succ, List.set_cons_zero, List.set_cons_succ, Option.some.injEq, V.int.injEq, V.bl.injEq, V.ref.injEq, V.str.injEq, exists_eq_left', exists_eq_left, exists_eq', exists_and_left, List.cons.injEq, and_true, true_and, and_self, and_assoc, decide_eq_true_eq, if_true, if_false, Bool.true_eq_false, Bool.false_eq_true, Bool.not_eq_true', Bool.not_true, Bool.not_false, decide_eq_false_iff_not, ite_true, ite_false, reduceCtorEq, false_and, exists_false, false_or, or_false, and_false, iList, iTup, iZip, iEnum, iRng1, iRng2, Nat.reduceLeDiff])
  refine ⟨⟨_, SqL.of (s12 _ _ el)⟩, hR _ _ ?_⟩
  clear hR
  obtain ⟨Pv, hPv⟩ : ∃ Pv : Nat → St → Hp → Prop, Pv = fun i σ1 H7 => Same H H7 ∧ ∃ (zs : List (Addr × Rw)) (op : Int) (ps : Addr) (d : List D) (x6 x7 x8 : Option V), RwsAt H7 lt zs ∧ zs.length ≤ i ∧ Rws G b (zs.map (·.2)) op ∧ (∀ x, (zs.map (·.2)).getLast? = some x → x.2.2 ≠ d) ∧ (H7 ps = some (.tup (d.map sv)) ∧ StD d) ∧ ((∀ z ∈ zs, IsSt f dy c (os.map (·.2)) z.2.2.2) ∧ IsSt f dy c (os.map (·.2)) d) ∧ op < e ∧ (∀ (j : Nat) o, os[j]? = some o → i ≤ j → b < cntF f dy c o.2.2.2.2 → op ≤ cntF f dy c o.2.2.2.2) ∧ (∀ day, op ≤ day → day < e → (∀ (j : Nat) o, os[j]? = some o → i ≤ j → cntF f dy c o.2.2.2.2 ≤ op ∨ day < cntF f dy c o.2.2.2.2) → G day = d) ∧ σ1 = [some (.ref l), some (.int b), some (.int e), some (.ref lt), some (.int op), some (.ref ps), x6, x7, x8] := ⟨_, rfl⟩
  have go : ∀ (k i : Nat) (x o : Or'), os[k]? = some x → os[i]? = some o → k ≤ i → cntF f dy c x.2.2.2.2 ≤ cntF f dy c o.2.2.2.2 := fun k i x o hk hi ki => by
    obtain ⟨hk', ek⟩ := List.getElem?_eq_some_iff.mp hk
    obtain ⟨hi', ei⟩ := List.getElem?_eq_some_iff.mp hi
    rcases Nat.lt_or_ge k i with z | z
    · have := (List.pairwise_iff_getElem.mp so k i hk' hi' z).1
      rw [ek, ei] at this
      exact this
    · obtain rfl : k = i := by omega
      rw [hk] at hi
      cases hi
      exact Int.le_refl _
  refine for_list (xs := os.map fun o => V.ref o.1) Pv ?_ (fun _ _ _ _ h => by rw [hPv] at h; exact SqL.of (h.1 _ _ el)) (fun i x σ1 H7 hx h => ?_) (fun σ1 H7 h => ?_)
  · rw [hPv]
    refine ⟨s12, [], b, ps, _, _, _, _, ⟨s2 _ _ e1, (fun _ h => nomatch h)⟩, Nat.le_refl _, rfl, (fun _ h => nomatch h), ⟨e2, st_std tm so2⟩, ⟨(fun _ h => nomatch h), _, _, _, _, so2, rfl⟩, by omega, fun _ _ _ _ h => by omega, fun day h1 _ h2 => ?_, rfl⟩
    refine (hG _ _ _ _ (so2.on h1 fun t ht => ?_)).symm
    obtain ⟨o, ho', rfl⟩ := List.mem_map.mp ht
    obtain ⟨j, hj⟩ := List.getElem?_of_mem ho'
    exact h2 j o hj (Nat.zero_le _)
  · rw [hPv] at h
    obtain ⟨s7, zs, op, ps, d, x6, x7, x8, zA, zl, hr, la, ⟨e7, sd⟩, ⟨zS, dS⟩, oe, oc, ok, rfl⟩ := h
    obtain ⟨o, hz, rfl⟩ : ∃ o, os[i]? = some o ∧ x = .ref o.1 := by
      rw [List.getElem?_map] at hx
      obtain ⟨u, e, rfl⟩ := Option.map_eq_some_iff.mp hx
      exact ⟨u, e, rfl⟩
    obtain ⟨a1, a2, tb⟩ := h3 o (List.mem_of_getElem? hz)
    have bo := Rws.le hr
    open_k0
    refine ixT (SqT.of (s7 _ _ a1)) (at_0 _ _) ?_
    have nx : ∀ (x8' : Option V) (H8 : Hp), Same H7 H8 → (∀ day, op ≤ day → day < e → (∀ (j : Nat) o, os[j]? = some o → i + 1 ≤ j → cntF f dy c o.2.2.2.2 ≤ op ∨ day < cntF f dy c o.2.2.2.2) → G day = d) → Pv (i + 1) [some (.ref l), some (.int b), some (.int e), some (.ref lt), some (.int op), some (.ref ps), some (.ref o.1), some (.int (cntF f dy c o.2.2.2.2)), x8'] H8 := fun x8' H8 s8 hd => by
      rw [hPv]
      exact ⟨s7.trans s8, zs, op, ps, d, _, _, _, zA.same s8, by omega, hr, la, ⟨s8 _ _ e7, sd⟩, ⟨zS, dS⟩, oe, fun j o hj ij => oc j o hj (by omega), hd, rfl⟩
    have far : (cntF f dy c o.2.2.2.2 ≤ op ∨ e ≤ cntF f dy c o.2.2.2.2) → ∀ day, op ≤ day → day < e → (∀ (j : Nat) o, os[j]? = some o → i + 1 ≤ j → cntF f dy c o.2.2.2.2 ≤ op ∨ day < cntF f dy c o.2.2.2.2) → G day = d := fun hf day h1 h2 h4 => ok day h1 h2 fun j o' hj ij => by
      rcases Nat.lt_or_ge i j with z | z
      · exact h4 j o' hj z
      · obtain rfl : i = j := by omega
        rw [hz] at hj
        cases hj
        rcases hf with z | z
        · exact .inl z
        · exact .inr (by omega)
    refine ⟨_, rfl, ite_of (fun hb => ⟨_, rfl, ite_of (fun he => ?_) fun he => nx _ _ (Same.refl _) (far (.inr (by omega)))⟩) fun hb => nx _ _ (Same.refl _) (far (.inl (by omega)))⟩
    refine ⟨l, cntF f dy c o.2.2.2.2, f, dy, c, os, rfl, ho.same s7, fun pb o0 o1 o2 H8 s8 so8 e8 => ?_⟩
    have oc' := oc i o hz (Nat.le_refl _) hb
    have sd8 := st_std tm so8
    have gb := hG _ _ _ _ so8
    have all : ∀ day, cntF f dy c o.2.2.2.2 ≤ day → (∀ (j : Nat) o', os[j]? = some o' → i + 1 ≤ j → cntF f dy c o'.2.2.2.2 ≤ cntF f dy c o.2.2.2.2 ∨ day < cntF f dy c o'.2.2.2.2) → G day = stT o0 o1 o2 := fun day h1 h2 => by
      refine (hG _ _ _ _ (so8.on h1 fun t ht => ?_)).symm
      obtain ⟨o', ho', rfl⟩ := List.mem_map.mp ht
      obtain ⟨j, hj⟩ := List.getElem?_of_mem ho'
      rcases Nat.lt_or_ge i j with z | z
      · exact h2 j o' hj z
      · exact .inl (go j i o' o hj hz z)
    have go' : ∀ (j : Nat) o', os[j]? = some o' → i + 1 ≤ j → cntF f dy c o.2.2.2.2 ≤ cntF f dy c o'.2.2.2.2 := fun j o' hj ij => go i j o o' hz hj (by omega)
    refine ⟨0, .tup (stT o0 o1 o2), .tup d, sd8.dp e8, sd.dp (s8 _ _ e7), rfl, rfl, by decide, sd8.cmp sd, _, rfl, ?_⟩
    by_cases eq : stT o0 o1 o2 = d
    · rw [(sd8.eqb sd).mpr eq]
      refine ite_f (by decide) (nx _ _ s8 fun day h1 h2 h4 => ?_)
      by_cases dc : day < cntF f dy c o.2.2.2.2
      · exact ok day h1 h2 fun j o' hj ij => by
          rcases Nat.lt_or_ge i j with z | z
          · exact h4 j o' hj z
          · obtain rfl : i = j := by omega
            rw [hz] at hj
            cases hj
            exact .inr dc
      · rw [← eq]
        exact all day (by omega) fun j o' hj ij => by
          rcases h4 j o' hj ij with z | z
          · exact .inl (by omega)
          · exact .inr z
    · rw [show L2.eqb 1 (.tup (stT o0 o1 o2)) (.tup d) = false from Bool.eq_false_iff.mpr fun z => eq ((sd8.eqb sd).mp z)]
      refine ite_t rfl ?_
      have gop := ok op (Int.le_refl _) oe fun j o' _ _ => by omega
      have lo : op < cntF f dy c o.2.2.2.2 := by
        rcases Int.lt_or_eq_of_le oc' with z | z
        · exact z
        · rw [z] at gop; exact absurd (gb.trans gop) eq
      have z8 := zA.same s8
      lgec_open0
      refine ⟨.inl ⟨rfl, _, SqL.of z8.1⟩, fun pt H9 hpt s9 e9 => ?_⟩
      have z9 := z8.same s9
      have off : ∀ p xs ys, H9 p = some (.tup xs) → upd H9 lt (.lst ys) p = some (.tup xs) := fun p xs ys e => by
        rw [upd_ne (fun y => by rw [y, z9.1] at e; cases e)]
        exact e
      refine ⟨lt, _, _, rfl, rfl, z9.1, le_line (show _ + 1 ≤ 1000 by rw [List.length_map]; have := (List.getElem?_eq_some_iff.mp hz).1; omega), ?_⟩
      rw [hPv]
      refine ⟨((s7.trans s8).trans s9).put hlt _, zs ++ [(pt, op, cntF f dy c o.2.2.2.2, d)], cntF f dy c o.2.2.2.2, pb, stT o0 o1 o2, _, _, _, ⟨by rw [upd_same, List.map_append]; rfl, fun z hz' => ?_⟩, by rw [List.length_append]; show _ + 1 ≤ _; omega, ?_, fun x hx => ?_, ⟨off _ _ _ (s9 _ _ e8), sd8⟩, ⟨fun z hz' => ?_, _, _, _, _, so8, rfl⟩, he, fun j o' hj ij _ => go' j o' hj ij, fun day h1 _ h4 => all day h1 h4, rfl⟩
      · rcases List.mem_append.mp hz' with h | h
        · exact (z9.2 z h).put z9.1
        · rw [List.mem_singleton.mp h]
          exact ⟨ps, off _ _ _ e9, off _ _ _ (s9 _ _ (s8 _ _ e7)), sd⟩
      · rw [List.map_append]
        exact Rws.snoc (z := (op, cntF f dy c o.2.2.2.2, d)) hr rfl lo (fun day h1 h2 => by
          have h2' : day < cntF f dy c o.2.2.2.2 := h2
          exact ok day h1 (by omega) fun j o' hj ij => .inr (by
            have := go i j o o' hz hj ij
            omega)) la
      · rw [List.map_append, List.map_cons, List.map_nil, List.getLast?_concat] at hx
        cases hx
        exact fun z => eq z.symm
      · rcases List.mem_append.mp hz' with h | h
        · exact zS z h
        · rw [List.mem_singleton.mp h]
          exact dS
  · rw [hPv] at h
    obtain ⟨s7, zs, op, ps, d, x6, x7, x8, zA, zl, hr, la, ⟨e7, sd⟩, ⟨zS, dS⟩, oe, oc, ok, rfl⟩ := h
    rw [List.length_map] at zl ok
    lgec_open0
    refine ⟨.inl ⟨rfl, _, SqL.of zA.1⟩, fun pt H9 hpt s9 e9 => ?_⟩
    have z9 := zA.same s9
    have off : ∀ p xs ys, H9 p = some (.tup xs) → upd H9 lt (.lst ys) p = some (.tup xs) := fun p xs ys e => by
      rw [upd_ne (fun y => by rw [y, z9.1] at e; cases e)]
      exact e
    refine ⟨lt, _, _, rfl, rfl, z9.1, le_line (show _ + 1 ≤ 1000 by rw [List.length_map]; omega), ?_⟩
    refine q lt (zs ++ [(pt, op, e, d)]) _ hlt ((s7.trans s9).put hlt _) ⟨by rw [upd_same, List.map_append]; rfl, fun z hz' => ?_⟩ ?_ (fun z hz' => ?_) (by rw [List.length_append]; show _ + 1 ≤ _; omega)
    · rcases List.mem_append.mp hz' with h | h
      · exact (z9.2 z h).put z9.1
      · rw [List.mem_singleton.mp h]
        exact ⟨ps, off _ _ _ e9, off _ _ _ (s9 _ _ e7), sd⟩
    · rw [List.map_append]
      exact Rws.snoc (z := (op, e, d)) hr rfl oe (fun day h1 h2 => ok day h1 h2 fun j o' hj ij => by
        have := (List.getElem?_eq_some_iff.mp hj).1
        omega) la
    · rcases List.mem_append.mp hz' with h | h
      · exact zS z h
      · rw [List.mem_singleton.mp h]
        exact dS
/-- a sum of n days from a on -/
def Ss (F : Int → Int) (a : Int) : Nat → Int
  | 0 => 0
  | n + 1 => Ss F a n + F (a + n)
theorem Ss.add (F : Int → Int) (a : Int) (m : Nat) : ∀ n : Nat, Ss F a (m + n) = Ss F a m + Ss F (a + m) n
  | 0 => by show Ss F a m = Ss F a m + 0; omega
  | n + 1 => by
    show Ss F a (m + n) + F (a + (m + n : Nat)) = Ss F a m + (Ss F (a + m) n + F (a + m + n))
    rw [Ss.add F a m n, show a + ((m + n : Nat) : Int) = a + m + n by omega]
    omega
theorem Ss.congr {F G : Int → Int} {a : Int} : ∀ {n : Nat}, (∀ i : Nat, i < n → F (a + i) = G (a + i)) → Ss F a n = Ss G a n
  | 0, _ => rfl
  | n + 1, h => by
    show Ss F a n + F (a + n) = Ss G a n + G (a + n)
    rw [Ss.congr fun i hi => h i (by omega), h n (by omega)]
/-- from a up to b -/
def Sb (F : Int → Int) (a b : Int) : Int := Ss F a (b - a).toNat
theorem Sb.add {F : Int → Int} {a b c : Int} (h : a ≤ b) (g : b ≤ c) : Sb F a b + Sb F b c = Sb F a c := by
  unfold Sb
  have := Ss.add F a (b - a).toNat (c - b).toNat
  rw [show (b - a).toNat + (c - b).toNat = (c - a).toNat by omega, show a + ((b - a).toNat : Int) = b by omega] at this
  omega
theorem Sb.self (F : Int → Int) (a : Int) : Sb F a a = 0 := by unfold Sb; rw [Int.sub_self]; rfl
theorem Sb.one (F : Int → Int) (a : Int) : Sb F a (a + 1) = F a := by
  unfold Sb
  rw [show (a + 1 - a).toNat = 1 by omega]
  show 0 + F (a + (0 : Nat)) = F a
  rw [show a + ((0 : Nat) : Int) = a by omega]
  omega
theorem Sb.congr {F G : Int → Int} {a b : Int} (h : ∀ o, a ≤ o → o < b → F o = G o) : Sb F a b = Sb G a b := Ss.congr fun i hi => h _ (by omega) (by omega)
theorem dayC_add (zs : List (V × Pl)) (sb se b m e : Int) (d : List D) : dayC zs sb se b m d + dayC zs sb se m e d = dayC zs sb se b e d := by
  unfold dayC
  split
  · split
    · unfold costF
      omega
    · rfl
  · rfl
theorem dayC_self (zs : List (V × Pl)) (sb se b : Int) (d : List D) : dayC zs sb se b b d = 0 := by
  have := dayC_add zs sb se b b b d
  omega
theorem day_sum {zs : List (V × Pl)} {sb se b : Int} {G : Int → List D} {d : List D} : ∀ {n : Nat}, (∀ i : Nat, i < n → G (b + i) = d) → Ss (fun o => dayC zs sb se o (o + 1) (G o)) b n = dayC zs sb se b (b + n) d
  | 0, _ => by
    show 0 = dayC zs sb se b (b + (0 : Nat)) d
    rw [show b + ((0 : Nat) : Int) = b by omega, dayC_self]
  | n + 1, h => by
    show Ss _ b n + dayC zs sb se (b + n) (b + n + 1) (G (b + n)) = _
    rw [day_sum fun i hi => h i (by omega), h n (by omega), dayC_add, show b + (n : Int) + 1 = b + ((n + 1 : Nat) : Int) by omega]
theorem rows_sum {zs : List (V × Pl)} {sb se : Int} {G : Int → List D} : ∀ {xs : List Rw} {b e : Int}, Rws G b xs e → (xs.map fun x => dayC zs sb se x.1 x.2.1 x.2.2).sum = Sb (fun o => dayC zs sb se o (o + 1) (G o)) b e
  | [], b, e, h => by
    obtain rfl : b = e := h
    rw [Sb.self]
    rfl
  | x :: r, b, e, h => by
    obtain ⟨h1, h2, h3, _, h5⟩ := h
    rw [List.map_cons, List.sum_cons, rows_sum h5, ← Sb.add (show b ≤ x.2.1 by omega) (Rws.le h5)]
    have : Sb (fun o => dayC zs sb se o (o + 1) (G o)) b x.2.1 = dayC zs sb se b x.2.1 x.2.2 := by
      unfold Sb
      rw [day_sum (d := x.2.2) fun i hi => h3 _ (by omega) (by omega), show b + ((x.2.1 - b).toNat : Int) = x.2.1 by omega]
    rw [this, h1]
/-- lines: rows, each with its cost -/
def LwAt (zs : List (V × Pl)) (sb se : Int) (H : Hp) (z : Addr × Rw) : Prop := ∃ s, H z.1 = some (.tup [.int z.2.1, .int z.2.2.1, .ref s, .int (dayC zs sb se z.2.1 z.2.2.1 z.2.2.2)]) ∧ H s = some (.tup (z.2.2.2.map sv)) ∧ StD z.2.2.2
def LnR (zs : List (V × Pl)) (sb se : Int) (H : Hp) (r : Addr) (ws : List (Addr × Rw)) : Prop := H r = some (.lst (ws.map fun w => V.ref w.1)) ∧ ∀ w ∈ ws, LwAt zs sb se H w
theorem LwAt.same {zs : List (V × Pl)} {sb se : Int} {H H' : Hp} {z : Addr × Rw} (h : LwAt zs sb se H z) (s : Same H H') : LwAt zs sb se H' z := let ⟨a, h1, h2, h3⟩ := h; ⟨a, s _ _ h1, s _ _ h2, h3⟩
theorem LwAt.put {zs : List (V × Pl)} {sb se : Int} {H : Hp} {z : Addr × Rw} {l : Addr} {xs ys : List V} (h : LwAt zs sb se H z) (e : H l = some (.lst xs)) : LwAt zs sb se (upd H l (.lst ys)) z := by
  obtain ⟨a, h1, h2, h3⟩ := h
  refine ⟨a, ?_, ?_, h3⟩
  · rw [upd_ne (fun y => by rw [y, e] at h1; cases h1)]; exact h1
  · rw [upd_ne (fun y => by rw [y, e] at h2; cases h2)]; exact h2
theorem LnR.same {zs : List (V × Pl)} {sb se : Int} {H H' : Hp} {r : Addr} {ws : List (Addr × Rw)} (h : LnR zs sb se H r ws) (s : Same H H') : LnR zs sb se H' r ws := ⟨s _ _ h.1, fun z hz => (h.2 z hz).same s⟩
def spLinesAhead (K : PySem.W.Frag) : Sp := fun vs H Q _ => ∃ (pa l p1 la : Addr) (f : Int) (dy : Bool) (c : Int) (zs : List (V × Pl)) (sb se e : Int) (os : List Or') (G : Int → List D), vs = [.ref pa, .ref l, .ref p1, .int e] ∧ AccZ K H pa la f dy c zs ∧ OrdAt K H l f dy c os ∧ H p1 = some (.tup [.int sb, .int se]) ∧ sb ≤ e ∧ e ≤ se ∧ sb < se ∧ se - sb < 10 ^ 10 ∧ IsG f dy c (os.map (·.2)) G ∧ (∀ o ∈ os, TmX zs o.2.2.2.2) ∧ ∀ r ws H', H r = none → Same H H' → LnR zs sb se H' r ws → ws.length ≤ 64 → Rws G sb (ws.map (·.2)) e → Q (.ref r) H'
theorem sc_lines_ahead : FnScope ["account", "ordered", "span", "day", "lines", "stretch", "begin", "end", "state"] ["account", "ordered", "span", "day"] (defScope s_lines_ahead) := ⟨rfl, rfl, rfl, by decide +kernel, rfl, by decide +kernel, by decide +kernel⟩
theorem ok_lines_ahead (T : Txt w K mg t) : FnOk P w K mg base (CXE P w) 3 t.a_lines_ahead t.d_lines_ahead ["account", "ordered", "span", "day"] (spLinesAhead K) := by
  refine T.fn_lines_ahead.okX sc_lines_ahead (fun vs H Q E h => ?_) (fun cdv A outer s H vs Q E L hr h => ?_)
  · obtain ⟨pa, l, p1, la, f, dy, c, zs, sb, se, e, os, G, rfl, hz, ho, e1, h1, h2, h3, h4, hG, hx, q⟩ := h
    rfl
  obtain ⟨pa, l, p1, la, f, dy, c, zs, sb, se, e, os, G, rfl, hz, ho, e1, h1, h2, h3, h4, hG, hx, q⟩ := h
  have nd := sc_lines_ahead.nd
  refine ⟨_, (pss_cons (ps_set (i := 4) nd rfl (Or.inl rfl) (pe_lstS pa_nil)) (pss_cons (ps_for (by passes_own) rfl (pi_list (pe_callX L.toLv (ok_stretches_by T) (hr.mono (by decide)) (by rfl) T.mg_stretches_by T.fn_stretches_by.kp T.b_stretches_by .nil (pa_cons (pv 1) (pa_cons (pe_ix ix_tup (pv 2) pe_int (fun _ _ => rfl)) (pa_cons (pv 3) pa_nil star_Name) star_Subscript) star_Name))) (pg_name (i := 5) nd rfl (Or.inl rfl)) (pss_cons (ps_asg (pv 5) (pg_tup (n := 3) rfl (pgs_cons (pg_name (i := 6) nd rfl (Or.inl rfl)) (pgs_cons (pg_name (i := 7) nd rfl (Or.inl rfl)) (pgs_cons (pg_name (i := 8) nd rfl (Or.inl rfl)) pgs_nil))))) (pss_one (ps_expr (pe_bm PySem.F.plainAttrs_list PySem.F.slot_list_append PySem.F.type_list_append mt_append (pv 4) (pa_cons (pe_tupS (pa_cons (pv 6) (pa_cons (pv 7) (pa_cons (pv 8) (pa_cons (pe_callX L.toLv (ok_stretch_cost T) (hr.mono (by decide)) (by rfl) T.mg_stretch_cost T.fn_stretch_cost.kp T.b_stretch_cost .nil (pa_cons (pv 0) (pa_cons (pv 2) (pa_cons (pv 5) pa_nil star_Name) star_Name) star_Name)) pa_nil star_Call) star_Name) star_Name) star_Name)) pa_nil)))))) (pss_one (ps_ret (pv 4))))), ?_⟩
  open_k0
  intro lt H1 hlt s1 e2
  ((try dsimp only); refine for_by fun R hR => ?_; simp only [tItems, tRev, tDNewS, tDIn, tDNotIn, sDPut, tDPop1, tDGet2, tDGet, tDc, tCallKX, kwG_one, tEither, tTupS, tLstS, comp_K, capσ, sub_nil, sub_none, sub_some, tYes, List.replicate, Option.join_some, Option.join_none, SL_inj, iStr, tPart, tNoPart, tSl, tLst, tTup, cx_K, slT, CDiv, Int.reduceLT, Int.reduceLE, Int.reduceToNat, Int.reduceNeg, Int.reduceAdd, Int.reduceSub, Int.reduceMul, forall_const, tSeq, tNext, tIfS, tRet, tRetN, tDrop, tAsg, gName, gCons, gNil, tVar, tC, tOp, rI, rI0, tUn, rU, tTest, tB, tAnd, tOr, tNot, tAndV, tOrV, tNotV, tIf, tCons, tNil, tCallX, tCallL, tCB, sRaise, rEq, rNe, scal_ii, scal_bb, scal_ss, scal_ni, scal_in, tChain, tAug, ipI, L2.start, List.map_cons, List.map_nil, List.length_cons, List.length_nil, List.cons_append, List.nil_append, List.append_nil, List.replicate_succ, List.replicate_zero, Nat.reduceAdd, Nat.reduceSub, List.getElem?_cons_zero, List.getElem?_cons_succ, List.set_cons_zero, List.set_cons_succ, Option.some.injEq, V.int.injEq, V.bl.injEq, V.ref.injEq, V.str.injEq, exists_eq_left', exists_eq_left, exists_eq', exists_and_left, List.cons.injEq, and_true, true_and, and_self, and_assoc, decide_eq_true_eq, if_true, if_false, Bool.true_eq_false, Bool.false_eq_true, Bool.not_eq_true', Bool.not_true, Bool.not_false, decide_eq_false_iff_not, ite_true, ite_false, reduceCtorEq, false_and, exists_false, false_or, or_false, and_false, iList, iTup, iZip, iEnum, iRng1, iRng2, Nat.reduceLeDiff])
  refine ixT (SqT.of (s1 _ _ e1)) (at_0 _ _) ⟨l, sb, e, f, dy, c, os, G, rfl, ho.same s1, h1, hG, fun r ys H2 nr s2 yA yW yS yl => ?_⟩
  refine ⟨r, rfl, ⟨_, SqL.of yA.1⟩, hR _ _ ?_⟩
  clear hR
  have s12 := s1.trans s2
  have e22 := s2 _ _ e2
  have rl : r ≠ lt := fun z => by rw [z, e2] at nr; cases nr
  obtain ⟨Pv, hPv⟩ : ∃ Pv : Nat → St → Hp → Prop, Pv = fun i σ1 H7 => Same H H7 ∧ RwsAt H7 r ys ∧ ∃ (ws : List (Addr × Rw)) (x5 x6 x7 x8 : Option V), LnR zs sb se H7 lt ws ∧ ws.length = i ∧ ws.map (·.2) = (ys.take i).map (·.2) ∧ σ1 = [some (.ref pa), some (.ref l), some (.ref p1), some (.int e), some (.ref lt), x5, x6, x7, x8] := ⟨_, rfl⟩
  refine for_list (xs := ys.map fun y => V.ref y.1) Pv (by rw [hPv]; exact ⟨s12, yA, [], _, _, _, _, ⟨e22, (fun _ h => nomatch h)⟩, rfl, rfl, rfl⟩) (fun _ _ _ _ h => by rw [hPv] at h; exact SqL.of h.2.1.1) (fun i x σ1 H7 hxx h => ?_) (fun σ1 H7 h => ?_)
  · rw [hPv] at h
    obtain ⟨s7, yA7, ws, x5, x6, x7, x8, wA, wl, wm, rfl⟩ := h
    obtain ⟨y, hy, rfl⟩ : ∃ y, ys[i]? = some y ∧ x = .ref y.1 := by
      rw [List.getElem?_map] at hxx
      obtain ⟨u, e, rfl⟩ := Option.map_eq_some_iff.mp hxx
      exact ⟨u, e, rfl⟩
    have hm := List.mem_of_getElem? hy
    obtain ⟨s, g1, g2, g3⟩ := yA7.2 y hm
    obtain ⟨dd, o0, o1, o2, so, ey⟩ := yS y hm
    have sx := st_x (zs := zs) (fun t h => by obtain ⟨o, ho', rfl⟩ := List.mem_map.mp h; exact (ho.2.2.1 o ho').2.2.1) (fun t h => by obtain ⟨o, ho', rfl⟩ := List.mem_map.mp h; exact hx o ho') so
    rw [← ey] at sx
    obtain ⟨r1, r2, r3⟩ := Rws.in hy yW
    lgec_open0
    refine ⟨y.1, _, rfl, SqT.of g1, rfl, ?_⟩
    lgec_open0
    refine ⟨.inl ⟨rfl, _, SqL.of wA.1⟩, pa, la, f, dy, c, zs, _, p1, y.1, s, sb, se, _, _, rfl, hz.same s7, sx, s7 _ _ e1, g1, g2, r1, by omega, by omega, h3, h4, fun H3 s3 => ?_⟩
    intro p4 H4 _ s4 e4
    have s74 := s3.trans s4
    have w4 := s74 _ _ wA.1
    have off : ∀ p xs zs', H4 p = some (.tup xs) → upd H4 lt (.lst zs') p = some (.tup xs) := fun p xs zs' h => by
      rw [upd_ne (fun z => by rw [z, w4] at h; cases h)]
      exact h
    refine ⟨lt, _, _, rfl, rfl, w4, small1000 (show (ws.map fun w => V.ref w.1).length ≤ 1000 by rw [List.length_map]; have := (List.getElem?_eq_some_iff.mp hy).1; omega), ?_⟩
    rw [hPv]
    refine ⟨(s7.trans s74).put hlt _, ⟨by rw [upd_ne rl]; exact s74 _ _ yA7.1, fun z hz' => ((yA7.2 z hz').same s74).put w4⟩, ws ++ [(p4, y.2)], _, _, _, _, ⟨by rw [upd_same, List.map_append]; rfl, fun w hw => ?_⟩, by rw [List.length_append, wl]; rfl, ?_, rfl⟩
    · rcases List.mem_append.mp hw with h | h
      · exact ((wA.2 w h).same s74).put w4
      · rw [List.mem_singleton.mp h]
        exact ⟨s, off _ _ _ e4, off _ _ _ (s74 _ _ g2), g3⟩
    · rw [List.map_append, wm, List.take_add_one, hy, Option.toList_some, List.map_append]
      rfl
  · rw [hPv] at h
    obtain ⟨s7, yA7, ws, x5, x6, x7, x8, wA, wl, wm, rfl⟩ := h
    rw [List.length_map, List.take_length] at wm
    rw [List.length_map] at wl
    open_k0
    refine q lt ws H7 hlt s7 wA (by omega) ?_
    rw [wm]
    exact yW
def spCostOf (K : PySem.W.Frag) : Sp := fun vs H Q _ => ∃ (l : Addr) (zs : List (V × Pl)) (sb se : Int) (ws : List (Addr × Rw)), vs = [.ref l] ∧ LnR zs sb se H l ws ∧ ws.length ≤ 64 ∧ ∀ H', Same H H' → Q (.int ((ws.map (·.2)).map fun x => dayC zs sb se x.1 x.2.1 x.2.2).sum) H'
theorem sc_cost_of : FnScope ["lines"] ["lines"] (defScope s_cost_of) := ⟨rfl, rfl, rfl, by decide +kernel, rfl, by decide +kernel, by decide +kernel⟩
theorem ok_cost_of (T : Txt w K mg t) : FnOk P w K mg base (CXE P w) 1 t.a_cost_of t.d_cost_of ["lines"] (spCostOf K) := by
  refine T.fn_cost_of.okX sc_cost_of (fun vs H Q E h => ?_) (fun cdv A outer s H vs Q E L hr h => ?_)
  · obtain ⟨l, zs, sb, se, ws, rfl, wA, wl, q⟩ := h
    rfl
  obtain ⟨l, zs, sb, se, ws, rfl, wA, wl, q⟩ := h
  have nd := sc_cost_of.nd
  refine ⟨_, (pss_one (ps_ret (pe_callB (call_sum (by rfl)) (by rfl) T.no_sum bb_sum (pa_cons (pe_comp (n := 1) (N := ["line"]) (js := []) (by rfl) rfl rfl (pi_list (pv 0)) (fun a => (pg_name (i := 0) (show List.Nodup (["line"] : List Str) from by decide +kernel) rfl (Or.inl rfl))) (fun a => pif_nil) (fun a => (pe_ix ix_tup (pv 0) pe_int (fun _ _ => rfl)))) pa_nil)))), ?_⟩
  simp only [tItems, tRev, tDNewS, tDIn, tDNotIn, sDPut, tDPop1, tDGet2, tDGet, tDc, tCallKX, kwG_one, tEither, tTupS, tLstS, comp_K, capσ, sub_nil, sub_none, sub_some, tYes, List.replicate, Option.join_some, Option.join_none, SL_inj, iStr, tPart, tNoPart, tSl, tLst, tTup, cx_K, slT, CDiv, Int.reduceLT, Int.reduceLE, Int.reduceToNat, Int.reduceNeg, Int.reduceAdd, Int.reduceSub, Int.reduceMul, forall_const, tSeq, tNext, tIfS, tRet, tRetN, tDrop, tAsg, gName, gCons, gNil, tVar, tC, tOp, rI, rI0, tUn, rU, tTest, tB, tAnd, tOr, tNot, tAndV, tOrV, tNotV, tIf, tCons, tNil, tCallX, tCallL, tCB, sRaise, rEq, rNe, scal_ii, scal_bb, scal_ss, scal_ni, scal_in, tChain, tAug, ipI, L2.start, List.map_cons, List.map_nil, List.length_cons, List.length_nil, List.cons_append, List.nil_append, List.append_nil, List.replicate_succ, List.replicate_zero, Nat.reduceAdd, Nat.reduceSub, List.getElem?_cons_zero, List.getElem?_cons_succ, List.set_cons_zero, List.set_cons_succ, Option.some.injEq, V.int.injEq, V.bl.injEq, V.ref.injEq, V.str.injEq, exists_eq_left', exists_eq_left, exists_eq', exists_and_left, List.cons.injEq, and_true, true_and, and_self, and_assoc, decide_eq_true_eq, if_true, if_false, Bool.true_eq_false, Bool.false_eq_true, Bool.not_eq_true', Bool.not_true, Bool.not_false, decide_eq_false_iff_not, ite_true, ite_false, reduceCtorEq, false_and, exists_false, false_or, or_false, and_false, tComp, iList, Nat.reduceLeDiff]
  refine ⟨⟨_, SqL.of wA.1⟩, fun l2 hl2 aa => ?_⟩
  refine comp_by (fun j xs _ => xs = (((ws.take j).map (·.2)).map fun x => dayC zs sb se x.1 x.2.1 x.2.2).map V.int) (lists_lst (SqL.of wA.1)) hl2 (by rw [List.length_map]; exact small_len (by omega)) (fun _ _ => rfl) (fun j y xs H8 K1 K0 hx sm pv hl k1 k0 => ?_) (fun xs H2 s2 pv _ w2 => ?_)
  · obtain ⟨w', hw, rfl⟩ : ∃ w', ws[j]? = some w' ∧ y = .ref w'.1 := by
      rw [List.getElem?_map] at hx
      obtain ⟨u, e, rfl⟩ := Option.map_eq_some_iff.mp hx
      exact ⟨u, e, rfl⟩
    obtain ⟨s, a4, _, _⟩ := wA.2 w' (List.mem_of_getElem? hw)
    lge_open0
    refine ixT (SqT.of (sm _ _ a4)) (at_3 _ _ _ _ _) (k1 _ _ (Same.refl _) fun H5 _ => ?_)
    rw [pv, List.take_add_one, hw, Option.toList_some, List.map_append, List.map_append, List.map_append]
    rfl
  · rw [List.length_map, List.take_length] at pv
    subst pv
    exact ⟨l2, rfl, _, SqL.of w2, q H2 s2⟩
def GAll (f : Int) (dy : Bool) (c : Int) (ts : List Tm) (G : Int → List D) : Prop := ∀ ts', (∀ t, t ∈ ts' ↔ t ∈ ts) → IsG f dy c ts' G
theorem om_tmx {zs : List (V × Pl)} {os : List Or'} {ts : List Tm} (om : ∀ t, t ∈ os.map (·.2) ↔ t ∈ ts) (hx : ∀ t ∈ ts, TmX zs t.2.2.2) : ∀ o ∈ os, TmX zs o.2.2.2.2 := fun o h => hx o.2 ((om o.2).mp (List.mem_map.mpr ⟨o, h, rfl⟩))
def spSpanLines (K : PySem.W.Frag) (t : Adr) : Sp := fun vs H Q E => ∃ (pa l la : Addr) (f : Int) (dy : Bool) (c : Int) (zs : List (V × Pl)) (ts : List Tm) (G : Int → List D) (k : Int), vs = [.ref pa, .ref l, .int k] ∧ AccZ K H pa la f dy c zs ∧ TmsAt K H l f (Cal.beg f dy c 60) ts ∧ (∀ t ∈ ts, TmX zs t.2.2.2) ∧ GAll f dy c ts G ∧ (0 ≤ k → k < 60 → ∀ r ws H', H r = none → Same H H' → LnR zs (Cal.beg f dy c k) (Cal.beg f dy c (k + 1)) H' r ws → ws.length ≤ 64 → Rws G (Cal.beg f dy c k) (ws.map (·.2)) (Cal.beg f dy c (k + 1)) → Q (.ref r) H') ∧ (k < 0 → ∀ H', Same H H' → E (.ref t.c_NoSpan) none H') ∧ (60 ≤ k → ∀ H', Same H H' → E (.ref t.c_TooLong) none H')
theorem sc_span_lines : FnScope ["account", "terms", "k", "span"] ["account", "terms", "k"] (defScope s_span_lines) := ⟨rfl, rfl, rfl, by decide +kernel, rfl, by decide +kernel, by decide +kernel⟩
theorem ok_span_lines (T : Txt w K mg t) : FnOk P w K mg base (CXE P w) 10 t.a_span_lines t.d_span_lines ["account", "terms", "k"] (spSpanLines K t) := by
  refine T.fn_span_lines.okX sc_span_lines (fun vs H Q E h => ?_) (fun cdv A outer s H vs Q E L hr h => ?_)
  · obtain ⟨pa, l, la, f, dy, c, zs, ts, G, k, rfl, hz, ht, hx, hG, q, q2, q3⟩ := h
    rfl
  obtain ⟨pa, l, la, f, dy, c, zs, ts, G, k, rfl, hz, ht, hx, hG, q, q2, q3⟩ := h
  have nd := sc_span_lines.nd
  refine ⟨_, (pss_cons (ps_set (i := 3) nd rfl (Or.inl rfl) (pe_callX L.toLv (ok_span_days T) (hr.mono (by decide)) (by rfl) T.mg_span_days T.fn_span_days.kp T.b_span_days .nil (pa_cons (pv 0) (pa_cons (pv 2) pa_nil star_Name) star_Name))) (pss_one (ps_ret (pe_callX L.toLv (ok_lines_ahead T) (hr.mono (by decide)) (by rfl) T.mg_lines_ahead T.fn_lines_ahead.kp T.b_lines_ahead .nil (pa_cons (pv 0) (pa_cons (pe_callX L.toLv (ok_in_order T) (hr.mono (by decide)) (by rfl) T.mg_in_order T.fn_in_order.kp T.b_in_order .nil (pa_cons (pv 0) (pa_cons (pv 1) pa_nil star_Name) star_Name)) (pa_cons (pv 3) (pa_cons (pe_ix ix_tup (pv 3) pe_int (fun _ _ => rfl)) pa_nil star_Subscript) star_Name) star_Call) star_Name))))), ?_⟩
  obtain ⟨f0, f1, hc⟩ := hz.1.cyc
  open_k0
  refine ⟨pa, la, f, dy, c, k, rfl, hz.1, fun k0 k1 p1 H1 s1 e1 => ?_, q2, q3⟩
  have bw := beg_wide f0 f1 hc k0 k1
  refine ⟨pa, l, la, f, dy, c, ts, rfl, hz.1.same s1, ht.same s1, fun l2 os H2 s2 ho om => ?_⟩
  refine ixT (SqT.of (s2 _ _ e1)) (at_1 _ _ _) ?_
  exact ⟨pa, l2, p1, la, f, dy, c, zs, _, _, _, os, G, rfl, hz.same (s1.trans s2), ho, s2 _ _ e1, by omega, Int.le_refl _, bw.2.1, by omega, hG _ om, om_tmx om hx, fun r ws H3 nr s3 wA wl ws' => q k0 k1 r ws H3 ((s1.trans s2).none nr) ((s1.trans s2).trans s3) wA wl ws'⟩
def spSpanCost (K : PySem.W.Frag) (t : Adr) : Sp := fun vs H Q E => ∃ (pa l la : Addr) (f : Int) (dy : Bool) (c : Int) (zs : List (V × Pl)) (ts : List Tm) (G : Int → List D) (k : Int), vs = [.ref pa, .ref l, .int k] ∧ AccZ K H pa la f dy c zs ∧ TmsAt K H l f (Cal.beg f dy c 60) ts ∧ (∀ t ∈ ts, TmX zs t.2.2.2) ∧ GAll f dy c ts G ∧ (0 ≤ k → k < 60 → ∀ H', Same H H' → Q (.int (Sb (fun o => dayC zs (Cal.beg f dy c k) (Cal.beg f dy c (k + 1)) o (o + 1) (G o)) (Cal.beg f dy c k) (Cal.beg f dy c (k + 1)))) H') ∧ (k < 0 → ∀ H', Same H H' → E (.ref t.c_NoSpan) none H') ∧ (60 ≤ k → ∀ H', Same H H' → E (.ref t.c_TooLong) none H')
theorem sc_span_cost : FnScope ["account", "terms", "k"] ["account", "terms", "k"] (defScope s_span_cost) := ⟨rfl, rfl, rfl, by decide +kernel, rfl, by decide +kernel, by decide +kernel⟩
theorem ok_span_cost (T : Txt w K mg t) : FnOk P w K mg base (CXE P w) 11 t.a_span_cost t.d_span_cost ["account", "terms", "k"] (spSpanCost K t) := by
  refine T.fn_span_cost.okX sc_span_cost (fun vs H Q E h => ?_) (fun cdv A outer s H vs Q E L hr h => ?_)
  · obtain ⟨pa, l, la, f, dy, c, zs, ts, G, k, rfl, hz, ht, hx, hG, q, q2, q3⟩ := h
    rfl
  obtain ⟨pa, l, la, f, dy, c, zs, ts, G, k, rfl, hz, ht, hx, hG, q, q2, q3⟩ := h
  have nd := sc_span_cost.nd
  refine ⟨_, (pss_one (ps_ret (pe_callX L.toLv (ok_cost_of T) (hr.mono (by decide)) (by rfl) T.mg_cost_of T.fn_cost_of.kp T.b_cost_of .nil (pa_cons (pe_callX L.toLv (ok_span_lines T) (hr.mono (by decide)) (by rfl) T.mg_span_lines T.fn_span_lines.kp T.b_span_lines .nil (pa_cons (pv 0) (pa_cons (pv 1) (pa_cons (pv 2) pa_nil star_Name) star_Name) star_Name)) pa_nil)))), ?_⟩
  open_k0
  refine ⟨pa, l, la, f, dy, c, zs, ts, G, k, rfl, hz, ht, hx, hG, fun k0 k1 r ws H1 _ s1 wA wl ws' => ⟨r, zs, _, _, ws, rfl, wA, wl, fun H2 s2 => ?_⟩, q2, q3⟩
  rw [rows_sum ws']
  exact q k0 k1 H2 (s1.trans s2)
/-- what the law draws: from the day d, of these names and terms that stand -/
def ChOk (nms : List (List Nat)) (live : List Int) (d : Int) : Ch → Prop
  | .plan d' nm => d' = d ∧ nm ∈ nms
  | .seats d' n => d' = d ∧ 0 ≤ n ∧ n ≤ 1000000
  | .word w d' => w < 4 ∧ d' = d
  | .undo k => k ∈ live
  | .grant a => 1 ≤ a ∧ a < 10 ^ 30
  | .back => True
theorem words_at {i : Int} (h0 : 0 ≤ i) (h1 : i < 4) : ∃ k, k < 4 ∧ atI [V.str (SL [104, 111, 108, 100]), V.str (SL [103, 111]), V.str (SL [115, 116, 111, 112]), V.str (SL [108, 97, 115, 116])] i = some (.str (SL (wordS k))) := by
  have h : i = 0 ∨ i = 1 ∨ i = 2 ∨ i = 3 := by omega
  rcases h with rfl | rfl | rfl | rfl
  · exact ⟨0, by decide, rfl⟩
  · exact ⟨1, by decide, rfl⟩
  · exact ⟨2, by decide, rfl⟩
  · exact ⟨3, by decide, rfl⟩
theorem chIn_of {nms : List (List Nat)} {f e : Int} {Ls : List Int} {d : Int} {ch : Ch} (h : ChOk nms Ls d ch) (d0 : f ≤ d) (d1 : d < e) : ChIn nms f e Ls ch := by
  cases ch with
  | plan d' nm => exact ⟨by have := h.1; omega, by have := h.1; omega, h.2⟩
  | seats d' n => exact ⟨by have := h.1; omega, by have := h.1; omega, h.2.1, h.2.2⟩
  | word w d' => exact ⟨h.1, by have := h.2; omega, by have := h.2; omega⟩
  | undo k => exact h
  | grant a => exact h
  | back => trivial
def spChange (K : PySem.W.Frag) : Sp := fun vs H Q _ => ∃ (pa l la : Addr) (f : Int) (dy : Bool) (c : Int) (zs : List (V × Pl)) (x d : Int) (live : List Int), vs = [.ref pa, .int x, .int d, .ref l] ∧ AccZ K H pa la f dy c zs ∧ SqL K H l (live.map V.int) ∧ ∀ p ch H', Same H H' → ChOk (zs.map fun z => z.2.1) live d ch → H' p = some (.tup ((chD ch).map sv)) → Q (.ref p) H'
theorem sc_xL_change : FnScope ["_law_account_here", "_law_n", "_law_own", "_law_free", "_law_way"] ["_law_account_here", "_law_n", "_law_own", "_law_free"] (defScope s_xL_change) := ⟨rfl, rfl, rfl, by decide +kernel, rfl, by decide +kernel, by decide +kernel⟩
theorem ok_xL_change (T : Txt w K mg t) : FnOk P w K mg base (CXE P w) 1 t.a_xL_change t.d_xL_change ["_law_account_here", "_law_n", "_law_own", "_law_free"] (spChange K) := by
  refine T.fn_xL_change.okX sc_xL_change (fun vs H Q E h => ?_) (fun cdv A outer s H vs Q E L hr h => ?_)
  · obtain ⟨pa, l, la, f, dy, c, zs, x, d, live, rfl, ⟨⟨pc, _, _, _, ep⟩, el, za, zi⟩, hL, q⟩ := h
    rfl
  obtain ⟨pa, l, la, f, dy, c, zs, x, d, live, rfl, ⟨⟨pc, _, _, _, ep⟩, el, za, zi⟩, hL, q⟩ := h
  have nd := sc_xL_change.nd
  refine ⟨_, (pss_cons (ps_set (i := 4) nd rfl (Or.inl rfl) (pe_op op_mod (pv 1) pe_int)) (pss_cons (ps_if (pt_cmpR op_lt (pv 4) pe_int (nomark _)) (pss_one (ps_ret (pe_tupS (pa_cons (pe_strL st_11) (pa_cons (pv 2) (pa_cons (pe_ix ix_tup (pe_ix ix_list (pe_ix ix_tup (pv 0) pe_int (fun _ _ => rfl)) (pe_op op_mod (pe_op op_fdiv (pv 1) pe_int) (pe_callB call_len_seq (by rfl) T.no_len bb_len (pa_cons (pe_ix ix_tup (pv 0) pe_int (fun _ _ => rfl)) pa_nil))) (fun _ _ => rfl)) pe_int (fun _ _ => rfl)) pa_nil star_Subscript) star_Name) star_Constant)))) pss_nil) (pss_cons (ps_if (pt_cmpR op_lt (pv 4) pe_int (nomark _)) (pss_one (ps_ret (pe_tupS (pa_cons (pe_strL st_12) (pa_cons (pv 2) (pa_cons (pe_ix ix_list (pe_lstS (pa_cons (pe_op op_mod (pe_op op_fdiv (pv 1) pe_int) pe_int) (pa_cons (pe_op op_mod (pe_op op_fdiv (pv 1) pe_int) pe_int) pa_nil star_BinOp) star_BinOp)) (pe_op op_mod (pe_op op_fdiv (pv 1) pe_int) pe_int) (fun _ _ => rfl)) pa_nil star_Subscript) star_Name) star_Constant)))) pss_nil) (pss_cons (ps_if (pt_cmpR op_lt (pv 4) pe_int (nomark _)) (pss_one (ps_ret (pe_tupS (pa_cons (pe_ix ix_list (pe_lstS (pa_cons (pe_strL st_20) (pa_cons (pe_strL st_21) (pa_cons (pe_strL st_22) (pa_cons (pe_strL st_9) pa_nil star_Constant) star_Constant) star_Constant) star_Constant)) (pe_op op_mod (pe_op op_fdiv (pv 1) pe_int) pe_int) (fun _ _ => rfl)) (pa_cons (pv 2) pa_nil star_Name) star_Subscript)))) pss_nil) (pss_cons (ps_if (pw_and (pt_cmpR op_lt (pv 4) pe_int (nomark _)) (pw_and1 (pt_cmpR (op_neD hr) (pv 3) (pe_lstS pa_nil) (nomark _)))).pt (pss_one (ps_ret (pe_tupS (pa_cons (pe_strL st_13) (pa_cons (pe_ix ix_list (pv 3) (pe_op op_mod (pe_op op_fdiv (pv 1) pe_int) (pe_callB call_len_seq (by rfl) T.no_len bb_len (pa_cons (pv 3) pa_nil))) (fun _ _ => rfl)) pa_nil star_Subscript) star_Constant)))) pss_nil) (pss_one (ps_ret (pe_ix ix_list (pe_lstS (pa_cons (pe_tupS (pa_cons (pe_strL st_18) pa_nil)) (pa_cons (pe_tupS (pa_cons (pe_strL st_19) (pa_cons (pe_op op_add pe_int (pe_op op_mod (pe_op op_fdiv (pv 1) pe_int) pe_int)) pa_nil star_BinOp) star_Constant)) pa_nil star_Tuple) star_Tuple)) (pe_op op_mod (pe_op op_fdiv (pv 1) pe_int) pe_int) (fun _ _ => rfl))))))))), ?_⟩
  open_k0
  have tail : ∀ H0, Same H H0 → New H0 (.tup [.str (SL [98, 97, 99, 107])]) fun x_1 H1 => New H1 (.tup [.str (SL [103, 114, 97, 110, 116]), .int (1 + x / 26 % 100000)]) fun x_2 H2 => New H2 (.lst [x_1, x_2]) fun x_3 H3 => rIxL K x_3 (.int (x / 13 % 2)) H3 Q := fun H0 s0 => by
    intro p1 H1 _ s1 e1 p2 H2 _ s2 e2 p3 H3 _ s3 e3
    rcases (show x / 13 % 2 = 0 ∨ x / 13 % 2 = 1 by omega) with z | z
    · rw [z]
      exact ixL (SqL.of e3) (at_0 _ _) (q p1 .back H3 (((s0.trans s1).trans s2).trans s3) trivial (s3 _ _ (s2 _ _ e1)))
    · rw [z]
      exact ixL (SqL.of e3) (at_1 _ _ _) (q p2 (.grant _) H3 (((s0.trans s1).trans s2).trans s3) ⟨by omega, by omega⟩ (s3 _ _ e2))
  refine ite_of (fun _ => ?_) (fun _ => ite_of (fun _ => ?_) (fun _ => ite_of (fun _ => ?_) (fun _ => ite_of (fun _ => ?_) (fun _ => tail H (Same.refl _)))))
  · have hT := SqT.of (K := K) ep
    have l1 := zi.1
    refine ixT hT (at_0 _ _) (ixT hT (at_0 _ _) ⟨la, rfl, _, .inl (SqL.of el), ?_⟩)
    rw [List.length_map]
    have i1 : 0 ≤ x / 13 % (zs.length : Int) ∧ x / 13 % (zs.length : Int) < zs.length := ⟨Int.emod_nonneg _ (by omega), Int.emod_lt_of_pos _ (by omega)⟩
    obtain ⟨j, hj⟩ := Int.eq_ofNat_of_zero_le i1.1
    rw [hj] at i1 ⊢
    obtain ⟨z, hz⟩ : ∃ z, zs[j]? = some z := ⟨zs[j]'(by omega), List.getElem?_eq_getElem _⟩
    obtain ⟨p, ez, hq⟩ := za z (List.mem_of_getElem? hz)
    refine ⟨by omega, ixL (v := z.1) (SqL.of el) (atI_nat (by rw [List.getElem?_map, hz]; rfl)) ?_⟩
    rw [ez]
    exact ixT hq (v := .str (SL z.2.1)) rfl fun p1 H1 _ s1 e1 => q p1 (.plan d z.2.1) H1 s1 ⟨rfl, List.mem_map.mpr ⟨z, List.mem_of_getElem? hz, rfl⟩⟩ e1
  · intro p1 H1 _ s1 e1
    have e1' : H1 p1 = some (.lst (([x / 13 % 5, x / 13 % 1000001] : List Int).map V.int)) := e1
    have i6 : 0 ≤ x / 65 % 2 ∧ x / 65 % 2 < 2 := by omega
    have b := getD_in (xs := [x / 13 % 5, x / 13 % 1000001]) (lo := 0) (hi := 1000000) (fun y hy => by
      simp only [List.mem_cons, List.not_mem_nil, or_false] at hy
      rcases hy with rfl | rfl <;> omega) i6.1 i6.2
    exact ixL (SqL.of e1') (at_ints i6.1 i6.2) fun p2 H2 _ s2 e2 => q p2 (.seats d _) H2 (s1.trans s2) ⟨rfl, b.1, b.2⟩ e2
  · intro p1 H1 _ s1 e1
    obtain ⟨k, hk, ek⟩ := words_at (i := x / 13 % 4) (by omega) (by omega)
    exact ixL (SqL.of e1) ek fun p2 H2 _ s2 e2 => q p2 (.word k d) H2 (s1.trans s2) ⟨hk, rfl⟩ e2
  · intro p1 H1 _ s1 e1
    refine ⟨0, .lst (live.map D.int), .lst [], Dp_lst (s1.seq hL) (all2_ints _), Dp_lst (SqL.of e1) trivial, rfl, rfl, by decide, fun j a b _ h => by simp at h, _, rfl, ?_⟩
    cases live with
    | nil => exact tail H1 s1
    | cons u r =>
      refine ⟨_, .inl (s1.seq hL), ?_⟩
      rw [List.length_map]
      have i1 : 0 ≤ x / 13 % ((u :: r).length : Int) ∧ x / 13 % ((u :: r).length : Int) < (u :: r).length := ⟨Int.emod_nonneg _ (by simp only [List.length_cons]; omega), Int.emod_lt_of_pos _ (by simp only [List.length_cons]; omega)⟩
      exact ⟨by simp only [List.length_cons]; omega, ixL (s1.seq hL) (at_ints i1.1 i1.2) fun p2 H2 _ s2 e2 => q p2 (.undo _) H2 (s1.trans s2) (getD_mem i1.1 i1.2) e2⟩
/-- an entry is put behind the others, and what stands is kept up: the law's other way to say it -/
theorem en_tail2 {K : PySem.W.Frag} {H0 J : Hp} {le ll p : Addr} {nms : List (List Nat)} {f e en : Int} {zs : List En} {ch : Ch} {G : Hp → Prop} (I : EnInv K H0 J le ll nms f e zs) (hz : zs.length ≤ 63) (ec : J p = some (.tup ((chD ch).map sv)))
    (h1 : f ≤ en) (h2 : en < e) (h3 : ∀ y ∈ zs, y.2.2.1 ≤ en) (h4 : ChIn nms f e (standF (chs zs)) ch) (fin : ∀ pe H', EnInv K H0 H' le ll nms f e (zs ++ [(.ref pe, p, en, ch)]) → G H') :
    New J (HO.tup [V.int en, V.ref p]) fun x_1 H1 => rAppend (V.ref le) [x_1] H1 fun _ H1 => rIxT K (V.ref p) (V.int 0) H1 fun x_3 H1 =>
      scal x_3 (V.str (SL [117, 110, 100, 111])) = true ∧
        if x_3 = V.str (SL [117, 110, 100, 111]) then tyV K "list" (V.ref ll) H1 ∧ rIxT K (V.ref p) (V.int 1) H1 fun x H1 => rRemove (V.ref ll) [x] H1 fun _ H1 => G H1
        else rIxT K (V.ref p) (V.int 0) H1 fun x_9 H1 => scal x_9 (V.str (SL [103, 114, 97, 110, 116])) = true ∧
          if ¬x_9 = V.str (SL [103, 114, 97, 110, 116]) then rIxT K (V.ref p) (V.int 0) H1 fun x_10 H1 => scal x_10 (V.str (SL [98, 97, 99, 107])) = true ∧
            if ¬x_10 = V.str (SL [98, 97, 99, 107]) then tyV K "list" (V.ref ll) H1 ∧ rAppend (V.ref ll) [V.int (0 + (zs.length : Int))] H1 fun _ H1 => G H1 else G H1
          else G H1 := by
  have sl := stand_len (chs zs)
  rw [chs_len] at sl
  refine fun pe J1 _ s1 e1 => ⟨le, _, _, rfl, rfl, s1 _ _ I.e1, le_line (show (zs.map (·.1)).length + 1 ≤ 1000 by rw [List.length_map]; omega), ?_⟩
  have I1 := I.same' s1
  have c1 := s1 _ _ ec
  have pl : p ≠ le := fun z => by rw [z, I1.e1] at c1; cases c1
  have pl2 : p ≠ ll := fun z => by rw [z, I1.e2] at c1; cases c1
  have kp : ∀ b o, b ≠ le → J1 b = some o → upd J1 le (.lst (zs.map (·.1) ++ [.ref pe])) b = some o := fun b o hb eb => by rw [upd_ne hb]; exact eb
  have f1 : upd J1 le (.lst (zs.map (·.1) ++ [.ref pe])) le = some (.lst (zs.map (·.1) ++ [.ref pe])) := upd_same
  generalize upd J1 le (.lst (zs.map (·.1) ++ [.ref pe])) = J2 at kp f1
  have f2 := kp _ _ I1.ne.symm I1.e2
  have c2 := kp _ _ pl c1
  obtain ⟨r, er⟩ := chD_cons ch
  have c2' : SqT K J2 p (.str (SL (chW ch)) :: r) := SqT.of (by rw [c2, er])
  refine ixT c2' (atV_0 _ _) ⟨rfl, ?_⟩
  by_cases hu : chW ch = [117, 110, 100, 111]
  · obtain ⟨k, rfl⟩ := chW_undo hu
    have c3 : SqT K J2 p [.str (SL [117, 110, 100, 111]), .int k] := SqT.of c2
    refine ite_t rfl ⟨.inl ⟨rfl, _, SqL.of f2⟩, ixT c3 (atV_1 _ _ _) ⟨ll, _, k, rfl, rfl, f2, h4, le_line (by omega), fin pe _ (I1.step (H' := upd J2 ll (.lst (((standF (chs zs)).erase k).map V.int))) e1 c1 (fun b o b1 b2 eb => ?_) ?_ upd_same h1 h2 h3 h4)⟩⟩
    · rw [upd_ne b2]
      exact kp b o b1 eb
    · rw [upd_ne I1.ne]
      exact f1
  · obtain ⟨d1, d2⟩ := chW_none ch hu zs.length (standF (chs zs))
    refine ite_f (str_ne hu) (ixT c2' (atV_0 _ _) ⟨rfl, ?_⟩)
    by_cases tm : isTm ch = true
    · rw [if_pos tm] at d2
      rw [tm] at d1
      have nm := of_decide_eq_false d1
      refine ite_t (str_ne fun z => nm (by rw [z]; decide)) (ixT c2' (atV_0 _ _) ⟨rfl, ite_t (str_ne fun z => nm (by rw [z]; decide)) ⟨.inl ⟨rfl, _, SqL.of f2⟩, ll, _, _, rfl, rfl, f2, le_line (show ((standF (chs zs)).map V.int).length + 1 ≤ 1000 by rw [List.length_map]; omega), fin pe _ (I1.step (H' := upd J2 ll (.lst ((standF (chs zs)).map V.int ++ [.int (0 + (zs.length : Int))]))) e1 c1 (fun b o b1 b2 eb => ?_) ?_ ?_ h1 h2 h3 h4)⟩⟩)
      · rw [upd_ne b2]
        exact kp b o b1 eb
      · rw [upd_ne I1.ne]
        exact f1
      · rw [upd_same, d2, List.map_append, Int.zero_add]
        rfl
    · rw [if_neg tm] at d2
      have fn : G J2 := fin pe _ (I1.step e1 c1 (fun b o b1 b2 eb => kp b o b1 eb) f1 (by rw [d2]; exact f2) h1 h2 h3 h4)
      have mm : chW ch ∈ [[103, 114, 97, 110, 116], [98, 97, 99, 107]] := of_decide_eq_true (by rw [d1]; rw [Bool.not_eq_true] at tm; rw [tm]; rfl)
      simp only [List.mem_cons, List.not_mem_nil, or_false] at mm
      rcases mm with e | e
      · exact ite_f (fun z => z (by rw [e])) fn
      · exact ite_t (str_ne (by rw [e]; decide)) (ixT c2' (atV_0 _ _) ⟨rfl, ite_f (fun z => z (by rw [e])) fn⟩)
def spEntries (K : PySem.W.Frag) : Sp := fun vs H Q _ => ∃ (a : Addr) (ns : List Int) (pa la : Addr) (f : Int) (dy : Bool) (c : Int) (zs : List (V × Pl)) (st : Int), vs = [.ref a, .ref pa, .int st] ∧ SqL K H a (ns.map V.int) ∧ ns.length ≤ 63 ∧ 0 ≤ st ∧ st ≤ 10 ∧ AccZ K H pa la f dy c zs ∧ ∀ le ys H', Same H H' → EnsAt K H' ys → EnsOk (zs.map fun z => z.2.1) f (Cal.beg f dy c 60) ys → ys.length ≤ 40 → H' le = some (.lst (ys.map (·.1))) → Q (.ref le) H'
theorem sc_xL_entries : FnScope ["_law_script", "_law_account_here", "_law_start", "_law_m", "_law_first", "_law_far", "_law_wide", "_law_numbers", "_law_k", "_law_entered", "_law_entries_here", "_law_free", "_law_n", "_law_own", "_law_change_here"] ["_law_script", "_law_account_here", "_law_start"] (defScope s_xL_entries) := ⟨rfl, rfl, rfl, by decide +kernel, rfl, by decide +kernel, by decide +kernel⟩
theorem ok_xL_entries (T : Txt w K mg t) : FnOk P w K mg base (CXE P w) 6 t.a_xL_entries t.d_xL_entries ["_law_script", "_law_account_here", "_law_start"] (spEntries K) := by
  refine T.fn_xL_entries.okX sc_xL_entries (fun vs H Q E h => ?_) (fun cdv A outer s H vs Q E L hr h => ?_)
  · obtain ⟨a, ns, pa, la, f, dy, c, zs, st, rfl, hS, h63, st0, st1, hz, q⟩ := h
    rfl
  obtain ⟨a, ns, pa, la, f, dy, c, zs, st, rfl, hS, h63, st0, st1, hz, q⟩ := h
  have nd := sc_xL_entries.nd
  refine ⟨_, (pss_cons (ps_set (i := 3) nd rfl (Or.inl rfl) (pe_callX L.toLv (ok_xL_mixed T) (hr.mono (by decide)) (by rfl) T.mg_xL_mixed T.fn_xL_mixed.kp T.b_xL_mixed .nil (pa_cons (pe_callX L.toLv (ok_xL_cell_at T) (hr.mono (by decide)) (by rfl) T.mg_xL_cell_at T.fn_xL_cell_at.kp T.b_xL_cell_at .nil (pa_cons (pv 0) (pa_cons (pv 2) pa_nil star_Name) star_Name)) (pa_cons pe_int pa_nil star_Constant) star_Call))) (pss_cons (ps_set (i := 4) nd rfl (Or.inr rfl) (pe_ix ix_tup (pv 1) pe_int (fun _ _ => rfl))) (pss_cons (ps_set (i := 5) nd rfl (Or.inl rfl) (pe_op op_sub (pe_callX L.toLv (ok_begin_of T) (hr.mono (by decide)) (by rfl) T.mg_begin_of T.fn_begin_of.kp T.b_begin_of .nil (pa_cons (pv 4) (pa_cons (pe_ix ix_tup (pv 1) pe_int (fun _ _ => rfl)) (pa_cons pe_int pa_nil star_Constant) star_Subscript) star_Name)) (pv 4))) (pss_cons (ps_set (i := 6) nd rfl (Or.inr rfl) (pe_op op_sub (pe_callX L.toLv (ok_begin_of T) (hr.mono (by decide)) (by rfl) T.mg_begin_of T.fn_begin_of.kp T.b_begin_of .nil (pa_cons (pv 4) (pa_cons (pe_ix ix_tup (pv 1) pe_int (fun _ _ => rfl)) (pa_cons (pe_ix ix_list (pe_lstS (pa_cons pe_int (pa_cons pe_int (pa_cons pe_int (pa_cons pe_int (pa_cons pe_int (pa_cons pe_int (pa_cons pe_int (pa_cons pe_int pa_nil star_Constant) star_Constant) star_Constant) star_Constant) star_Constant) star_Constant) star_Constant) star_Constant)) (pe_op op_mod (pe_op op_fdiv (pv 3) pe_int) pe_int) (fun _ _ => rfl)) pa_nil star_Subscript) star_Subscript) star_Name)) (pv 4))) (pss_cons (ps_set (i := 7) nd rfl (Or.inl rfl) (pe_lstS pa_nil)) (pss_cons (ps_for (by passes_own) rfl (pi_range1 (by rfl) T.no_range (pa_cons (pe_ix ix_list (pe_lstS (pa_cons (pe_op op_mod (pv 3) pe_int) (pa_cons pe_int pa_nil star_Constant) star_BinOp)) (pe_callTy call_int1 (by rfl) T.no_int bb_int (pa_cons (pe_cmpR op_eq (pe_op op_mod (pe_op op_fdiv (pv 3) pe_int) pe_int) pe_int (nomark _)) pa_nil)) (fun _ _ => rfl)) pa_nil)) (pg_name (i := 8) nd rfl (Or.inl rfl)) (pss_one (ps_expr (pe_bm PySem.F.plainAttrs_list PySem.F.slot_list_append PySem.F.type_list_append mt_append (pv 7) (pa_cons (pe_callX L.toLv (ok_xL_mixed T) (hr.mono (by decide)) (by rfl) T.mg_xL_mixed T.fn_xL_mixed.kp T.b_xL_mixed .nil (pa_cons (pe_op op_add (pe_callX L.toLv (ok_xL_cell_at T) (hr.mono (by decide)) (by rfl) T.mg_xL_cell_at T.fn_xL_cell_at.kp T.b_xL_cell_at .nil (pa_cons (pv 0) (pa_cons (pe_op op_add (pe_op op_add (pv 2) pe_int) (pv 8)) pa_nil star_BinOp) star_Name)) (pe_op op_mul (pv 3) (pe_op op_add (pv 8) pe_int))) (pa_cons (pv 8) pa_nil star_Name) star_BinOp)) pa_nil))))) (pss_cons (ps_set (i := 9) nd rfl (Or.inl rfl) (pe_callB call_sortedI (by rfl) T.no_sorted bb_sorted (pa_cons (pe_comp (n := 1) (N := ["_law_number", "_law_first", "_law_wide"]) (js := [4, 6]) (by rfl) rfl rfl (pi_list (pv 7)) (fun a => (pg_name (i := 0) (show List.Nodup (["_law_number", "_law_first", "_law_wide"] : List Str) from by decide +kernel) rfl (Or.inl rfl))) (fun a => pif_nil) (fun a => (pe_op op_add (pv 1) (pe_op op_mod (pv 0) (pv 2))))) pa_nil))) (pss_cons (ps_set (i := 10) nd rfl (Or.inl rfl) (pe_lstS pa_nil)) (pss_cons (ps_set (i := 11) nd rfl (Or.inl rfl) (pe_lstS pa_nil)) (pss_cons (ps_for (by passes_own) rfl (pi_range1 (by rfl) T.no_range (pa_cons (pe_callB call_len_seq (by rfl) T.no_len bb_len (pa_cons (pv 7) pa_nil)) pa_nil)) (pg_name (i := 8) nd rfl (Or.inl rfl)) (pss_cons (ps_set (i := 12) nd rfl (Or.inl rfl) (pe_op op_fdiv (pe_ix ix_list (pv 7) (pv 8) (fun _ _ => rfl)) pe_int)) (pss_cons (ps_set (i := 13) nd rfl (Or.inl rfl) (pe_ix ix_list (pe_lstS (pa_cons (pe_ix ix_list (pv 9) (pv 8) (fun _ _ => rfl)) (pa_cons (pe_op op_add (pv 4) (pe_op op_mod (pv 12) (pv 5))) (pa_cons (pe_ix ix_list (pv 9) (pe_op op_mod (pv 12) (pe_callB call_len_seq (by rfl) T.no_len bb_len (pa_cons (pv 7) pa_nil))) (fun _ _ => rfl)) pa_nil star_Subscript) star_BinOp) star_Subscript)) (pe_op op_mod (pe_ix ix_list (pv 7) (pv 8) (fun _ _ => rfl)) pe_int) (fun _ _ => rfl))) (pss_cons (ps_set (i := 14) nd rfl (Or.inl rfl) (pe_callX L.toLv (ok_xL_change T) (hr.mono (by decide)) (by rfl) T.mg_xL_change T.fn_xL_change.kp T.b_xL_change .nil (pa_cons (pv 1) (pa_cons (pe_callX L.toLv (ok_xL_mixed T) (hr.mono (by decide)) (by rfl) T.mg_xL_mixed T.fn_xL_mixed.kp T.b_xL_mixed .nil (pa_cons (pe_ix ix_list (pv 7) (pv 8) (fun _ _ => rfl)) (pa_cons pe_int pa_nil star_Constant) star_Subscript)) (pa_cons (pv 13) (pa_cons (pv 11) pa_nil star_Name) star_Name) star_Call) star_Name))) (pss_cons (ps_expr (pe_bm PySem.F.plainAttrs_list PySem.F.slot_list_append PySem.F.type_list_append mt_append (pv 10) (pa_cons (pe_tupS (pa_cons (pe_ix ix_list (pv 9) (pv 8) (fun _ _ => rfl)) (pa_cons (pv 14) pa_nil star_Name) star_Subscript)) pa_nil))) (pss_one (ps_if (pt_cmpR op_eq (pe_ix ix_tup (pv 14) pe_int (fun _ _ => rfl)) (pe_strL st_13) (nomark _)) (pss_one (ps_expr (pe_bm PySem.F.plainAttrs_list PySem.F.slot_list_remove PySem.F.type_list_remove mt_remove (pv 11) (pa_cons (pe_ix ix_tup (pv 14) pe_int (fun _ _ => rfl)) pa_nil)))) (pss_one (ps_if (pw_and (pt_cmpR op_ne (pe_ix ix_tup (pv 14) pe_int (fun _ _ => rfl)) (pe_strL st_19) (nomark _)) (pw_and1 (pt_cmpR op_ne (pe_ix ix_tup (pv 14) pe_int (fun _ _ => rfl)) (pe_strL st_18) (nomark _)))).pt (pss_one (ps_expr (pe_bm PySem.F.plainAttrs_list PySem.F.slot_list_append PySem.F.type_list_append mt_append (pv 11) (pa_cons (pv 8) pa_nil)))) pss_nil))))))))) (pss_one (ps_ret (pv 10))))))))))))), ?_⟩
  obtain ⟨pc, f0, f1, hc, ep⟩ := id hz.1
  have b0 : Cal.beg f dy c 0 = f := Cal.beg_zero f0 f1
  have bl : f < Cal.beg f dy c 60 := by have := Cal.beg_lt (k := 0) (j := 60) f0 f1 hc.2 (by decide) (by decide) (by decide); omega
  open_k0
  refine ⟨a, ns, st, rfl, hS, h63, by omega, _, 9, rfl, by decide, by decide, fun m m0 m1 => ?_⟩
  have hT := SqT.of (K := K) ep
  refine ixT hT (at_1 _ _ _) (ixT hT (at_2 _ _ _ _) ⟨f, pc, dy, c, 10, rfl, f0, f1, hc, fun _ _ H1 s1 => ?_, fun z => absurd z (by decide), fun z => absurd z (by decide)⟩)
  refine ⟨_, rfl, _, rfl, ixT (s1.sqT hT) (at_2 _ _ _ _) (fun p1 H2 _ s2 e2 => ⟨_, rfl, ?_⟩)⟩
  have e2' : H2 p1 = some (.lst (([8, 8, 8, 8, 8, 8, 2, 59] : List Int).map V.int)) := e2
  have i8 : 0 ≤ m / 120 % 8 ∧ m / 120 % 8 < 8 := by omega
  have bw := getD_in (xs := [8, 8, 8, 8, 8, 8, 2, 59]) (lo := 2) (hi := 59) (fun x hx => by
    simp only [List.mem_cons, List.not_mem_nil, or_false] at hx
    rcases hx with rfl | rfl | rfl | rfl | rfl | rfl | rfl | rfl <;> decide) i8.1 i8.2
  refine ixL (SqL.of e2') (at_ints i8.1 i8.2) ?_
  clear e2 e2'
  generalize ([8, 8, 8, 8, 8, 8, 2, 59] : List Int).getD (m / 120 % 8).toNat 0 = wk at bw ⊢
  refine ⟨f, pc, dy, c, wk, rfl, f0, f1, hc.same (s1.trans s2), fun _ _ H3 s3 => ?_, fun z => absurd z (by omega), fun z => absurd z (by omega)⟩
  refine ⟨_, rfl, _, rfl, fun ln H4 hln s4 e4 => ?_⟩
  have g1 := Cal.beg_lt (k := 0) (j := 10) f0 f1 hc.2 (by decide) (by decide) (by decide)
  have g2 := Cal.beg_le (k := 10) (j := 60) f0 f1 hc.2 (by decide) (by decide) (by decide)
  have g3 := Cal.beg_lt (k := 0) (j := wk) f0 f1 hc.2 (by decide) (by omega) (by omega)
  have g4 := Cal.beg_le (k := wk) (j := 60) f0 f1 hc.2 (by omega) (by omega) (by decide)
  rw [b0] at g1 g3
  have fa : 0 < Cal.beg f dy c 10 - f ∧ f + (Cal.beg f dy c 10 - f) ≤ Cal.beg f dy c 60 := by omega
  have wa : 0 < Cal.beg f dy c wk - f ∧ f + (Cal.beg f dy c wk - f) ≤ Cal.beg f dy c 60 := by omega
  generalize Cal.beg f dy c 10 - f = far at fa ⊢
  generalize Cal.beg f dy c wk - f = wide at wa ⊢
  clear g1 g2 g3 g4
  have s04 := ((s1.trans s2).trans s3).trans s4
  have nln : H ln = none := ((s1.trans s2).trans s3).none hln
  ((try dsimp only); refine for_by fun R hR => ?_; simp only [tItems, tRev, tDNewS, tDIn, tDNotIn, sDPut, tDPop1, tDGet2, tDGet, tDc, tCallKX, kwG_one, tEither, tTupS, tLstS, comp_K, capσ, sub_nil, sub_none, sub_some, tYes, List.replicate, Option.join_some, Option.join_none, SL_inj, iStr, tPart, tNoPart, tSl, tLst, tTup, cx_K, slT, CDiv, Int.reduceLT, Int.reduceLE, Int.reduceToNat, Int.reduceNeg, Int.reduceAdd, Int.reduceSub, Int.reduceMul, forall_const, tSeq, tNext, tIfS, tRet, tRetN, tDrop, tAsg, gName, gCons, gNil, tVar, tC, tOp, rI, rI0, tUn, rU, tTest, tB, tAnd, tOr, tNot, tAndV, tOrV, tNotV, tIf, tCons, tNil, tCallX, tCallL, tCB, sRaise, rEq, rNe, scal_ii, scal_bb, scal_ss, scal_ni, scal_in, tChain, tAug, ipI, L2.start, List.map_cons, List.map_nil, List.length_cons, List.length_nil, List.cons_append, List.nil_append, List.append_nil, List.replicate_succ, List.replicate_zero, Nat.reduceAdd, Nat.reduceSub, List.getElem?_cons_zero, List.getElem?_cons_succ, List.set_cons_zero, List.set_cons_succ, Option.some.injEq, V.int.injEq, V.bl.injEq, V.ref.injEq, V.str.injEq, exists_eq_left', exists_eq_left, exists_eq', exists_and_left, List.cons.injEq, and_true, true_and, and_self, and_assoc, decide_eq_true_eq, if_true, if_false, Bool.true_eq_false, Bool.false_eq_true, Bool.not_eq_true', Bool.not_true, Bool.not_false, decide_eq_false_iff_not, ite_true, ite_false, reduceCtorEq, false_and, exists_false, false_or, or_false, and_false, iList, iTup, iZip, iEnum, iRng1, iRng2, Nat.reduceLeDiff])
  intro p5 H5 _ s5 e5
  obtain ⟨mn, emn, mn1⟩ : ∃ mn : Nat, atI [V.int (m % 15), V.int 40] (if m / 15 % 8 = 5 then 1 else 0) = some (.int mn) ∧ mn ≤ 40 := by
    by_cases z : m / 15 % 8 = 5
    · rw [if_pos z]
      exact ⟨40, rfl, by decide⟩
    · rw [if_neg z]
      exact ⟨(m % 15).toNat, by rw [Int.toNat_of_nonneg (by omega)]; rfl, by omega⟩
  refine ixL (SqL.of e5) emn ⟨_, rfl, by omega, by omega, hR _ _ ?_⟩
  clear hR
  rw [Int.toNat_natCast]
  obtain ⟨Pv, hPv⟩ : ∃ Pv : Nat → St → Hp → Prop, Pv = fun i σ1 H6 => Same H H6 ∧ ∃ (xs : List Int) (x8 : Option V), xs.length = i ∧ (∀ x ∈ xs, 0 ≤ x) ∧ H6 ln = some (.lst (xs.map V.int)) ∧ σ1 = [some (.ref a), some (.ref pa), some (.int st), some (.int m), some (.int f), some (.int far), some (.int wide), some (.ref ln), x8, none, none, none, none, none, none] := ⟨_, rfl⟩
  refine for_range (n := mn) Pv (by rw [hPv]; exact ⟨s04.trans s5, [], _, rfl, (fun _ h => nomatch h), s5 _ _ e4, rfl⟩) (fun i σ1 H6 hi h => ?_) (fun σ1 H6 h => ?_)
  · rw [hPv] at h
    obtain ⟨s6, xs, x8, xl, x0, e6, rfl⟩ := h
    lgec_open0
    refine ⟨.inl ⟨rfl, _, SqL.of e6⟩, a, ns, _, rfl, s6.seq hS, h63, by omega, .inl ⟨by omega, by omega⟩, _, rfl, _, _, rfl, by omega, by omega, fun r r0 _ => ⟨ln, _, _, rfl, rfl, e6, small1000 (show (xs.map V.int).length ≤ 1000 by rw [List.length_map]; omega), ?_⟩⟩
    rw [hPv]
    exact ⟨s6.put nln _, xs ++ [r], _, by rw [List.length_append, xl]; rfl, fun x hx => by
      rcases List.mem_append.mp hx with z | z
      · exact x0 x z
      · rw [List.mem_singleton.mp z]; exact r0, by rw [upd_same, List.map_append]; rfl, rfl⟩
  · rw [hPv] at h
    obtain ⟨s6, xs, x8, xl, x0, e6, rfl⟩ := h
    simp only [tItems, tRev, tDNewS, tDIn, tDNotIn, sDPut, tDPop1, tDGet2, tDGet, tDc, tCallKX, kwG_one, tEither, tTupS, tLstS, comp_K, capσ, sub_nil, sub_none, sub_some, tYes, List.replicate, Option.join_some, Option.join_none, SL_inj, iStr, tPart, tNoPart, tSl, tLst, tTup, cx_K, slT, CDiv, Int.reduceLT, Int.reduceLE, Int.reduceToNat, Int.reduceNeg, Int.reduceAdd, Int.reduceSub, Int.reduceMul, forall_const, tSeq, tNext, tIfS, tRet, tRetN, tDrop, tAsg, gName, gCons, gNil, tVar, tC, tOp, rI, rI0, tUn, rU, tTest, tB, tAnd, tOr, tNot, tAndV, tOrV, tNotV, tIf, tCons, tNil, tCallX, tCallL, tCB, sRaise, rEq, rNe, scal_ii, scal_bb, scal_ss, scal_ni, scal_in, tChain, tAug, ipI, L2.start, List.map_cons, List.map_nil, List.length_cons, List.length_nil, List.cons_append, List.nil_append, List.append_nil, List.replicate_succ, List.replicate_zero, Nat.reduceAdd, Nat.reduceSub, List.getElem?_cons_zero, List.getElem?_cons_succ, List.set_cons_zero, List.set_cons_succ, Option.some.injEq, V.int.injEq, V.bl.injEq, V.ref.injEq, V.str.injEq, exists_eq_left', exists_eq_left, exists_eq', exists_and_left, List.cons.injEq, and_true, true_and, and_self, and_assoc, decide_eq_true_eq, if_true, if_false, Bool.true_eq_false, Bool.false_eq_true, Bool.not_eq_true', Bool.not_true, Bool.not_false, decide_eq_false_iff_not, ite_true, ite_false, reduceCtorEq, false_and, exists_false, false_or, or_false, and_false, tComp, iList, Nat.reduceLeDiff]
    refine ⟨⟨_, SqL.of e6⟩, fun lc hlc aa => ?_⟩
    refine comp_by (fun j ys _ => ∃ ds : List Int, ys = ds.map V.int ∧ ds.length = j ∧ ∀ d ∈ ds, f ≤ d ∧ d < f + wide) (lists_lst (SqL.of e6)) hlc (by rw [List.length_map]; exact small_len (by omega)) (fun _ _ => ⟨[], rfl, rfl, (fun _ h => nomatch h)⟩) (fun j y ys H8 K1 K0 hx sm pv hl k1 k0 => ?_) (fun ys H7 s7 pv _ w7 => ?_)
    · rw [List.getElem?_map] at hx
      obtain ⟨u, hu, rfl⟩ := Option.map_eq_some_iff.mp hx
      obtain ⟨ds, rfl, dl, db⟩ := pv
      lge_open0
      have r0 := Int.emod_nonneg u (show wide ≠ 0 by omega)
      have r1 := Int.emod_lt_of_pos u wa.1
      refine ⟨wa.1, k1 _ _ (Same.refl _) fun H5 _ => ⟨ds ++ [f + u % wide], by rw [List.map_append]; rfl, by rw [List.length_append, dl]; rfl, fun d hd => ?_⟩⟩
      rcases List.mem_append.mp hd with z | z
      · exact db d z
      · rw [List.mem_singleton.mp z]
        omega
    obtain ⟨ds, rfl, dl, db⟩ := pv
    rw [List.length_map] at dl
    refine ⟨lc, rfl, ds, w7, by omega, fun ws wp wo lw H8 hlw s8 e8 le H9 hle s9 e9 ll H10 hll s10 e10 => ?_⟩
    have wl : ws.length = xs.length := wp.length_eq.trans dl
    have wb : ∀ d ∈ ws, f ≤ d ∧ d < f + wide := fun d hd => db d (wp.mem_iff.mp hd)
    have s08 := (s6.trans s7).trans s8
    have e68 := s8 _ _ (s7 _ _ e6)
    have I0 : EnInv K H8 H10 le ll (zs.map fun z => z.2.1) f (Cal.beg f dy c 60) [] := by
      refine ⟨s9.trans s10, hle, s9.none hll, fun z => ?_, s10 _ _ e9, e10, fun z hz => (nomatch hz), EnsOk.nil⟩
      rw [← z, e9] at hll
      cases hll
    have hz8 := hz.same s08
    ((try dsimp only); refine for_by fun R hR => ?_; simp only [tItems, tRev, tDNewS, tDIn, tDNotIn, sDPut, tDPop1, tDGet2, tDGet, tDc, tCallKX, kwG_one, tEither, tTupS, tLstS, comp_K, capσ, sub_nil, sub_none, sub_some, tYes, List.replicate, Option.join_some, Option.join_none, SL_inj, iStr, tPart, tNoPart, tSl, tLst, tTup, cx_K, slT, CDiv, Int.reduceLT, Int.reduceLE, Int.reduceToNat, Int.reduceNeg, Int.reduceAdd, Int.reduceSub, Int.reduceMul, forall_const, tSeq, tNext, tIfS, tRet, tRetN, tDrop, tAsg, gName, gCons, gNil, tVar, tC, tOp, rI, rI0, tUn, rU, tTest, tB, tAnd, tOr, tNot, tAndV, tOrV, tNotV, tIf, tCons, tNil, tCallX, tCallL, tCB, sRaise, rEq, rNe, scal_ii, scal_bb, scal_ss, scal_ni, scal_in, tChain, tAug, ipI, L2.start, List.map_cons, List.map_nil, List.length_cons, List.length_nil, List.cons_append, List.nil_append, List.append_nil, List.replicate_succ, List.replicate_zero, Nat.reduceAdd, Nat.reduceSub, List.getElem?_cons_zero, List.getElem?_cons_succ, List.set_cons_zero, List.set_cons_succ, Option.some.injEq, V.int.injEq, V.bl.injEq, V.ref.injEq, V.str.injEq, exists_eq_left', exists_eq_left, exists_eq', exists_and_left, List.cons.injEq, and_true, true_and, and_self, and_assoc, decide_eq_true_eq, if_true, if_false, Bool.true_eq_false, Bool.false_eq_true, Bool.not_eq_true', Bool.not_true, Bool.not_false, decide_eq_false_iff_not, ite_true, ite_false, reduceCtorEq, false_and, exists_false, false_or, or_false, and_false, iList, iTup, iZip, iEnum, iRng1, iRng2, Nat.reduceLeDiff])
    refine ⟨_, .inl (SqL.of (s10 _ _ (s9 _ _ e68))), ?_⟩
    rw [List.length_map]
    refine ⟨by omega, by omega, hR _ _ ?_⟩
    clear hR
    rw [Int.toNat_natCast]
    obtain ⟨Pw, hPw⟩ : ∃ Pw : Nat → St → Hp → Prop, Pw = fun i σ1 H5 => ∃ (ys : List En) (x8 x12 x13 x14 : Option V), EnInv K H8 H5 le ll (zs.map fun z => z.2.1) f (Cal.beg f dy c 60) ys ∧ ys.length = i ∧ (∀ (j : Nat) y, ys[j]? = some y → ws[j]? = some y.2.2.1) ∧ σ1 = [some (.ref a), some (.ref pa), some (.int st), some (.int m), some (.int f), some (.int far), some (.int wide), some (.ref ln), x8, some (.ref lw), some (.ref le), some (.ref ll), x12, x13, x14] := ⟨_, rfl⟩
    refine for_range (n := xs.length) Pw (by rw [hPw]; exact ⟨[], _, _, _, _, I0, rfl, (fun j y h => by rw [List.getElem?_nil] at h; cases h), rfl⟩) (fun i σ1 H5 hi hv => ?_) (fun σ1 H5 hv => ?_)
    · rw [hPw] at hv
      obtain ⟨ys, x8, x12, x13, x14, I5, rfl, yw, rfl⟩ := hv
      obtain ⟨u, hu⟩ : ∃ u, xs[ys.length]? = some u := ⟨xs[ys.length], List.getElem?_eq_getElem hi⟩
      obtain ⟨en, hen⟩ : ∃ en, ws[ys.length]? = some en := ⟨ws[ys.length]'(by omega), List.getElem?_eq_getElem _⟩
      have eb := wb en (List.mem_of_getElem? hen)
      have yle : ∀ y ∈ ys, y.2.2.1 ≤ en := fun y hy => by
        obtain ⟨j, hj, ej⟩ := List.mem_iff_getElem.mp hy
        have h1 := yw j y (by rw [List.getElem?_eq_getElem hj, ej])
        obtain ⟨j1, e1⟩ := List.getElem?_eq_some_iff.mp h1
        obtain ⟨j2, e2⟩ := List.getElem?_eq_some_iff.mp hen
        have := List.pairwise_iff_getElem.mp wo j ys.length j1 j2 hj
        rw [e1, e2] at this
        exact this
      have ax : atI (xs.map V.int) (0 + (ys.length : Int)) = some (.int u) := by rw [Int.zero_add]; exact atI_nat (by rw [List.getElem?_map, hu]; rfl)
      have aw : atI (ws.map V.int) (0 + (ys.length : Int)) = some (.int en) := by rw [Int.zero_add]; exact atI_nat (by rw [List.getElem?_map, hen]; rfl)
      have x5 := SqL.of (K := K) (I5.same _ _ e68)
      have w5 := SqL.of (K := K) (I5.same _ _ e8)
      lgec_open0
      refine ixL x5 ax ⟨_, rfl, ixL w5 aw ⟨fa.1, _, .inl x5, ?_⟩⟩
      rw [List.length_map]
      have i1 : 0 ≤ u / 3 % (xs.length : Int) ∧ u / 3 % (xs.length : Int) < xs.length := ⟨Int.emod_nonneg _ (by omega), Int.emod_lt_of_pos _ (by omega)⟩
      obtain ⟨j, hj⟩ := Int.eq_ofNat_of_zero_le i1.1
      rw [hj] at i1 ⊢
      obtain ⟨en2, hen2⟩ : ∃ en2, ws[j]? = some en2 := ⟨ws[j]'(by omega), List.getElem?_eq_getElem _⟩
      have eb2 := wb en2 (List.mem_of_getElem? hen2)
      refine ⟨by omega, ixL w5 (v := .int en2) (atI_nat (by rw [List.getElem?_map, hen2]; rfl)) (fun p6 J1 _ u1 g1 => ?_)⟩
      have fb : 0 ≤ u / 3 % far ∧ u / 3 % far < far := ⟨Int.emod_nonneg _ (by omega), Int.emod_lt_of_pos _ fa.1⟩
      generalize u / 3 % far = fr at fb g1
      have g1' : J1 p6 = some (.lst (([en, f + fr, en2] : List Int).map V.int)) := g1
      have i3 : 0 ≤ u % 3 ∧ u % 3 < 3 := by omega
      have ob := getD_in (xs := [en, f + fr, en2]) (lo := f) (hi := Cal.beg f dy c 60 - 1) (fun x hx => by
        simp only [List.mem_cons, List.not_mem_nil, or_false] at hx
        rcases hx with rfl | rfl | rfl <;> omega) i3.1 i3.2
      refine ixL (u1.seq x5) ax ⟨_, rfl, ixL (SqL.of g1') (at_ints i3.1 i3.2) (ixL (u1.seq x5) ax ⟨_, 7, rfl, by decide, by decide, fun r _ _ => ?_⟩)⟩
      clear g1 g1'
      generalize ([en, f + fr, en2] : List Int).getD (u % 3).toNat 0 = own at ob ⊢
      have I14 := I5.same' u1
      refine ⟨pa, ll, la, f, dy, c, zs, r, own, _, rfl, hz8.same I14.same, SqL.of I14.e2, fun p ch J5 u5 ok5 e5 => ⟨.inl ⟨rfl, _, SqL.of (u5 _ _ I14.e1)⟩, ixL ((u1.trans u5).seq w5) aw ?_⟩⟩
      have I15 := I14.same' u5
      refine en_tail2 I15 (by omega) e5 (by omega) (by omega) yle (chIn_of ok5 (by omega) (by omega)) fun pe H' I' => ?_
      rw [hPw]
      refine ⟨_, _, _, _, _, I', by rw [List.length_append]; rfl, fun j y h => ?_, rfl⟩
      rw [List.getElem?_append] at h
      by_cases jl : j < ys.length
      · rw [if_pos jl] at h
        exact yw j y h
      · rw [if_neg jl] at h
        have j0 : j - ys.length = 0 := by
          rcases Nat.lt_or_ge (j - ys.length) 1 with z | z
          · omega
          · rw [List.getElem?_eq_none (by simpa using z)] at h; cases h
        rw [j0] at h
        cases h
        obtain rfl : j = ys.length := by omega
        exact hen
    · rw [hPw] at hv
      obtain ⟨ys, x8, x12, x13, x14, I5, yl, yw, rfl⟩ := hv
      open_k0
      exact q le ys H5 (s08.trans I5.same) I5.at' I5.ok (by omega) I5.e1
/-- the terms among the entries are the account's -/
def EnB (f e : Int) (zs : List En) : Prop := ∀ z ∈ zs, isTm z.2.2.2 = true → TmB f e z.2.2.2
theorem EnB.of {nms : List (List Nat)} {f e : Int} {zs : List En} (h : EnsOk nms f e zs) : EnB f e zs := fun z hz tm => by
  obtain ⟨i, hi, ez⟩ := List.mem_iff_getElem.mp hz
  have ci := (h i z (by rw [List.getElem?_eq_getElem hi, ez])).2.2.2
  cases hch : z.2.2.2 with
  | plan d nm => rw [hch] at ci; exact ⟨rfl, ci.1, ci.2.1, fun w d h => by cases h⟩
  | seats d n => rw [hch] at ci; exact ⟨rfl, ci.1, ci.2.1, fun w d h => by cases h⟩
  | word w d => rw [hch] at ci; exact ⟨rfl, ci.2.1, ci.2.2, fun w d h => by cases h; exact ci.1⟩
  | undo k => rw [hch] at tm; cases tm
  | grant k => rw [hch] at tm; cases tm
  | back => rw [hch] at tm; cases tm
def termL : List (List Nat) := [[112, 108, 97, 110], [115, 101, 97, 116, 115], [104, 111, 108, 100], [103, 111], [115, 116, 111, 112], [108, 97, 115, 116]]
theorem wordS_in (w : Nat) : wordS w ∈ termL ∧ wordS w ≠ [112, 108, 97, 110] ∧ wordS w ≠ [115, 101, 97, 116, 115] := by
  match w with
  | 0 => exact ⟨by decide, by decide, by decide⟩
  | 1 => exact ⟨by decide, by decide, by decide⟩
  | 2 => exact ⟨by decide, by decide, by decide⟩
  | n + 3 => exact ⟨(by decide : [108, 97, 115, 116] ∈ termL), (by decide : [108, 97, 115, 116] ≠ [112, 108, 97, 110]), (by decide : [108, 97, 115, 116] ≠ [115, 101, 97, 116, 115])⟩
theorem chW_term (c : Ch) : decide (chW c ∈ termL) = isTm c := by
  cases c with
  | plan => rfl
  | seats => rfl
  | word w _ => exact decide_eq_true (wordS_in w).1
  | undo => rfl
  | grant => rfl
  | back => rfl
def spIsTerm (K : PySem.W.Frag) : Sp := fun vs H Q _ => ∃ (p : Addr) (c : Ch), vs = [.ref p] ∧ SqT K H p ((chD c).map sv) ∧ Q (.bl (isTm c)) H
theorem sc_is_term : FnScope ["change"] ["change"] (defScope s_is_term) := ⟨rfl, rfl, rfl, by decide +kernel, rfl, by decide +kernel, by decide +kernel⟩
theorem ok_is_term (T : Txt w K mg t) : FnOk P w K mg base (CXE P w) 1 t.a_is_term t.d_is_term ["change"] (spIsTerm K) := by
  refine T.fn_is_term.okX sc_is_term (fun vs H Q E h => ?_) (fun cdv A outer s H vs Q E L hr h => ?_)
  · obtain ⟨p, c, rfl, hp, q⟩ := h
    rfl
  obtain ⟨p, c, rfl, hp, q⟩ := h
  have nd := sc_is_term.nd
  obtain ⟨a_TERMS, h_TERMS, q_TERMS⟩ := T.k_TERMS
  have r_TERMS : RelV (.ref a_TERMS) (.ref a_TERMS) := rfl
  refine ⟨_, (pss_one (ps_ret (pe_cmpR op_in_seq (pe_ix ix_tup (pv 0) pe_int (fun _ _ => rfl)) (pe_glob (by rfl) h_TERMS r_TERMS) rfl))), ?_⟩
  obtain ⟨r, er⟩ := chD_cons c
  rw [er] at hp
  open_k0
  refine ixT hp (at_0 _ _) ⟨a_TERMS, _, rfl, .inr (q_TERMS _), rfl, rfl, ?_⟩
  have e : inV (.str (SL (chW c))) (termL.map fun x => V.str (SL x)) = isTm c := by rw [inV_strs, chW_term]
  exact e ▸ q
/-- where the change of an entry lies -/
def pcAt (zs : List En) (k : Int) : V := ((zs[k.toNat]?).map fun z => V.ref z.2.1).getD .non
def spStanding (K : PySem.W.Frag) : Sp := fun vs H Q _ => ∃ (a : Addr) (zs : List En), vs = [.ref a] ∧ SqL K H a (zs.map (·.1)) ∧ EnsAt K H zs ∧ zs.length ≤ 63 ∧ (∀ i z k, zs[i]? = some z → z.2.2.2 = .undo k → k ∈ standF (chs (zs.take i))) ∧ ∀ r H', Same H H' → H' r = some (.dK (kvG (pcAt zs) (standF (chs zs)))) → Q (.ref r) H'
theorem sc_standing_terms : FnScope ["entries", "standing", "number", "entry", "change"] ["entries"] (defScope s_standing_terms) := ⟨rfl, rfl, rfl, by decide +kernel, rfl, by decide +kernel, by decide +kernel⟩
theorem ok_standing_terms (T : Txt w K mg t) : FnOk P w K mg base (CXE P w) 2 t.a_standing_terms t.d_standing_terms ["entries"] (spStanding K) := by
  refine T.fn_standing_terms.okX sc_standing_terms (fun vs H Q E h => ?_) (fun cdv A outer s H vs Q E L hr h => ?_)
  · obtain ⟨a, zs, rfl, hS, hE, z63, hu, q⟩ := h
    rfl
  obtain ⟨a, zs, rfl, hS, hE, z63, hu, q⟩ := h
  have nd := sc_standing_terms.nd
  refine ⟨_, (pss_cons (ps_set (i := 1) nd rfl (Or.inl rfl) pe_dnewS) (pss_cons (ps_for (by passes_own) rfl (pi_enum (by rfl) T.no_enumerate (pa_cons (pv 0) pa_nil)) (pg_tup (n := 2) rfl (pgs_cons (pg_name (i := 2) nd rfl (Or.inl rfl)) (pgs_cons (pg_name (i := 3) nd rfl (Or.inl rfl)) pgs_nil))) (pss_cons (ps_set (i := 4) nd rfl (Or.inl rfl) (pe_ix ix_tup (pv 3) pe_int (fun _ _ => rfl))) (pss_cons (ps_cut (ps_if (pt_val (pe_callX L.toLv (ok_is_term T) (hr.mono (by decide)) (by rfl) T.mg_is_term T.fn_is_term.kp T.b_is_term .nil (pa_cons (pv 4) pa_nil))) (pss_one (ps_dput (hu_of hr) (pv 1) (pv 2) (pv 4) rfl)) pss_nil)) (pss_one (ps_if (pt_cmpR op_eq (pe_ix ix_tup (pv 4) pe_int (fun _ _ => rfl)) (pe_strL st_13) (nomark _)) (pss_one (ps_expr (pe_dpop1 (pv 1) (pe_ix ix_tup (pv 4) pe_int (fun _ _ => rfl)) ⟨by rfl, by rfl, by rfl, by rfl⟩))) pss_nil))))) (pss_one (ps_ret (pv 1))))), ?_⟩
  open_k0
  intro dd H1 hdd s1 e1
  ((try dsimp only); refine for_by fun R hR => ?_; simp only [tItems, tRev, tDNewS, tDIn, tDNotIn, sDPut, tDPop1, tDGet2, tDGet, tDc, tCallKX, kwG_one, tEither, tTupS, tLstS, comp_K, capσ, sub_nil, sub_none, sub_some, tYes, List.replicate, Option.join_some, Option.join_none, SL_inj, iStr, tPart, tNoPart, tSl, tLst, tTup, cx_K, slT, CDiv, Int.reduceLT, Int.reduceLE, Int.reduceToNat, Int.reduceNeg, Int.reduceAdd, Int.reduceSub, Int.reduceMul, forall_const, tSeq, tNext, tIfS, tRet, tRetN, tDrop, tAsg, gName, gCons, gNil, tVar, tC, tOp, rI, rI0, tUn, rU, tTest, tB, tAnd, tOr, tNot, tAndV, tOrV, tNotV, tIf, tCons, tNil, tCallX, tCallL, tCB, sRaise, rEq, rNe, scal_ii, scal_bb, scal_ss, scal_ni, scal_in, tChain, tAug, ipI, L2.start, List.map_cons, List.map_nil, List.length_cons, List.length_nil, List.cons_append, List.nil_append, List.append_nil, List.replicate_succ, List.replicate_zero, Nat.reduceAdd, Nat.reduceSub, List.getElem?_cons_zero, List.getElem?_cons_succ, List.set_cons_zero, List.set_cons_succ, Option.some.injEq, V.int.injEq, V.bl.injEq, V.ref.injEq, V.str.injEq, exists_eq_left', exists_eq_left, exists_eq', exists_and_left, List.cons.injEq, and_true, true_and, and_self, and_assoc, decide_eq_true_eq, if_true, if_false, Bool.true_eq_false, Bool.false_eq_true, Bool.not_eq_true', Bool.not_true, Bool.not_false, decide_eq_false_iff_not, ite_true, ite_false, reduceCtorEq, false_and, exists_false, false_or, or_false, and_false, iList, iTup, iZip, iEnum, iRng1, iRng2, Nat.reduceLeDiff])
  refine ⟨⟨_, s1.seq hS⟩, hR _ _ ?_⟩
  clear hR
  refine for_enum (xs := zs.map (·.1)) (fun i σ1 H2 => Same H H2 ∧ H2 dd = some (.dK (kvG (pcAt zs) (standF (chs (zs.take i))))) ∧ ∃ (x2 x3 x4 : Option V), σ1 = [some (.ref a), some (.ref dd), x2, x3, x4]) ⟨s1, e1, _, _, _, rfl⟩ (fun i σ1 H1 _ h => h.1.seq hS) (fun i σ1 H1 H2 h s => ⟨h.1.trans s, s _ _ h.2.1, h.2.2⟩) (fun i x σ1 H2 hx h => ?_) (fun σ1 H2 h => ?_)
  · obtain ⟨s2, e2, x2, x3, x4, rfl⟩ := h
    obtain ⟨z, hz, rfl⟩ : ∃ z, zs[i]? = some z ∧ x = z.1 := by
      rw [List.getElem?_map] at hx
      obtain ⟨u, e, rfl⟩ := Option.map_eq_some_iff.mp hx
      exact ⟨u, e, rfl⟩
    obtain ⟨pe, ee, q1, q2⟩ := (hE.same s2) z (List.mem_of_getElem? hz)
    have hi := (List.getElem?_eq_some_iff.mp hz).1
    have li : (standF (chs (zs.take i))).length < 100 := by have := stand_len (chs (zs.take i)); rw [chs_len, List.length_take] at this; omega
    have pz : pcAt zs (i : Int) = .ref z.2.1 := by unfold pcAt; rw [Int.toNat_natCast, hz]; rfl
    have nx := stand_next hz
    have ni := (stand_in (chs (zs.take i))).2
    rw [chs_len, List.length_take, Nat.min_eq_left (by omega)] at ni
    have nd := (stand_in (chs (zs.take i))).1
    have hui := hu i z
    rw [ee]
    open_k0
    refine ixT q1 (at_1 _ _ _) ?_
    generalize hc : z.2.2.2 = c at q2 nx hui
    generalize standF (chs (zs.take i)) = S at e2 li nx ni nd hui
    obtain ⟨R, hR⟩ : ∃ R : St → Hp → Prop, R = fun σ' H' => Same H H' ∧ H' dd = some (.dK (kvG (pcAt zs) (if isTm c = true then S ++ [(i : Int)] else S))) ∧ σ' = [some (.ref a), some (.ref dd), some (.int i), some (.ref pe), some (.ref z.2.1)] := ⟨_, rfl⟩
    refine ⟨R, ?_, fun σ3 H3 h3 => ?_⟩
    · open_k0
      refine ⟨z.2.1, c, rfl, q2, _, rfl, ite_of (fun tm => ?_) (fun tm => ?_)⟩
      · refine ⟨_, DPut.k (k := Sum.inl (i : Int)) e2 (le_line (show (kvG (pcAt zs) S).length + 1 ≤ 1000 by unfold kvG; rw [List.length_map]; omega)), ?_⟩
        rw [hR]
        refine ⟨s2.put hdd _, ?_, rfl⟩
        rw [upd_same, if_pos tm, ← pz, kv_put _ (fun y => by have := (ni _ y).2; omega)]
      · rw [hR]
        exact ⟨s2, by rw [if_neg tm]; exact e2, rfl⟩
    rw [hR] at h3
    obtain ⟨s3, e3, rfl⟩ := h3
    clear hR
    open_k0
    obtain ⟨_, _, _, q3⟩ := (hE.same s3) z (List.mem_of_getElem? hz)
    rw [hc] at q3
    rw [nx]
    obtain ⟨r, er⟩ := chD_cons c
    have q3' := q3
    rw [er] at q3'
    refine ixT q3' (at_0 _ _) ⟨rfl, ?_⟩
    cases c with
    | plan => exact ite_f (str_ne (show [112, 108, 97, 110] ≠ [117, 110, 100, 111] by decide)) ⟨s3, e3⟩
    | seats => exact ite_f (str_ne (show [115, 101, 97, 116, 115] ≠ [117, 110, 100, 111] by decide)) ⟨s3, e3⟩
    | word w d => exact ite_f (str_ne (fun z => absurd ((wordS_in w).1) (by rw [show wordS w = _ from z]; decide))) ⟨s3, e3⟩
    | grant => exact ite_f (str_ne (show [103, 114, 97, 110, 116] ≠ [117, 110, 100, 111] by decide)) ⟨s3, e3⟩
    | back => exact ite_f (str_ne (show [98, 97, 99, 107] ≠ [117, 110, 100, 111] by decide)) ⟨s3, e3⟩
    | undo k =>
      have q3 : SqT K H3 z.2.1 [.str (SL [117, 110, 100, 111]), .int k] := q3
      have hk := hui k hz rfl
      refine ite_t rfl ⟨.inl ⟨_, Rd.of e3⟩, ixT q3 (at_1 _ _ _) ⟨_, e3, Sum.inl k, rfl, _, (by show valV (kvG (pcAt zs) S) (Sum.inl k) = _; rw [kv_val, if_pos hk]), s3.put hdd _, ?_⟩⟩
      rw [upd_same]
      show some (HO.dK (dropK (kvG (pcAt zs) S) (Sum.inl k))) = _
      rw [kv_drop _ _ nd]
      rfl
  · obtain ⟨s2, e2, x2, x3, x4, rfl⟩ := h
    rw [List.length_map, List.take_length] at e2
    open_k0
    exact q dd H2 s2 e2

/-- terms told as pairs of the number and the change -/
def Told (H : Hp) (zs : List En) (Ls : List Int) (as : List Addr) : Prop := as.length = Ls.length ∧ ∀ (i : Nat) (p : Addr) (k : Int), as[i]? = some p → Ls[i]? = some k → ∃ z, zs[k.toNat]? = some z ∧ H p = some (.tup [.int k, .ref z.2.1])
theorem Told.same {H H' : Hp} {zs : List En} {Ls : List Int} {as : List Addr} (h : Told H zs Ls as) (s : Same H H') : Told H' zs Ls as := ⟨h.1, fun i p k h1 h2 => let ⟨z, h3, h4⟩ := h.2 i p k h1 h2; ⟨z, h3, s _ _ h4⟩⟩
def knownL (zs : List En) (mo : Int) : List Int := standF (chs (zs.take (mOf zs mo)))
def spTermsAt (K : PySem.W.Frag) : Sp := fun vs H Q _ => ∃ (a : Addr) (zs : List En) (mo : Int), vs = [.ref a, .int mo] ∧ SqL K H a (zs.map (·.1)) ∧ EnsAt K H zs ∧ zs.length ≤ 40 ∧ zs.Pairwise (fun a b => a.2.2.1 ≤ b.2.2.1) ∧ UndoOk (chs zs) ∧ ∀ r as H', H r = none → Same H H' → H' r = some (.lst (as.map V.ref)) → Told H' zs (knownL zs mo) as → Q (.ref r) H'
theorem sc_terms_at : FnScope ["entries", "moment", "known"] ["entries", "moment"] (defScope s_terms_at) := ⟨rfl, rfl, rfl, by decide +kernel, rfl, by decide +kernel, by decide +kernel⟩
theorem ok_terms_at (T : Txt w K mg t) : FnOk P w K mg base (CXE P w) 3 t.a_terms_at t.d_terms_at ["entries", "moment"] (spTermsAt K) := by
  refine T.fn_terms_at.okX sc_terms_at (fun vs H Q E h => ?_) (fun cdv A outer s H vs Q E L hr h => ?_)
  · obtain ⟨a, zs, mo, rfl, hS, hE, z40, hp, ho, q⟩ := h
    rfl
  obtain ⟨a, zs, mo, rfl, hS, hE, z40, hp, ho, q⟩ := h
  have nd := sc_terms_at.nd
  refine ⟨_, (pss_cons (ps_setC (i := 2) nd rfl rfl (n := 1) (N := ["entry", "moment"]) (js := [1]) (by rfl) rfl rfl (pi_list (pv 0)) (fun a => (pg_name (i := 0) (show List.Nodup (["entry", "moment"] : List Str) from by decide +kernel) rfl (Or.inl rfl))) (fun a => (pif_one (pt_cmpR op_le (pe_ix ix_tup (pv 0) pe_int (fun _ _ => rfl)) (pv 1) (nomark _)))) (fun a => (pv 0))) (pss_one (ps_ret (pe_listitems (by rfl) (by rfl) T.no_list (pe_callX L.toLv (ok_standing_terms T) (hr.mono (by decide)) (by rfl) T.mg_standing_terms T.fn_standing_terms.kp T.b_standing_terms .nil (pa_cons (pv 2) pa_nil)) (by rfl) (by rfl))))), ?_⟩
  open_k0
  obtain ⟨kt, kb⟩ := known_take mo hp
  have ml : mOf zs mo ≤ zs.length := List.length_filter_le _ _
  refine ⟨_, rfl, a, rfl, ⟨_, hS⟩, fun l2 hl2 aa => ?_⟩
  refine comp_by (fun j xs _ => xs = ((zs.take j).filter (enL mo)).map (·.1)) (lists_lst hS) hl2 (by rw [List.length_map]; exact small_len (by omega)) (fun _ _ => rfl) (fun j x xs H8 K1 K0 hx sm pv hl k1 k0 => ?_) (fun xs H2 s2 pv _ w2 => ?_)
  · obtain ⟨z, hz, rfl⟩ : ∃ z, zs[j]? = some z ∧ x = z.1 := by
      rw [List.getElem?_map] at hx
      obtain ⟨u, e, rfl⟩ := Option.map_eq_some_iff.mp hx
      exact ⟨u, e, rfl⟩
    obtain ⟨pe, ee, q1, q2⟩ := (hE.same sm) z (List.mem_of_getElem? hz)
    have ez : (zs.take (j + 1)).filter (enL mo) = (zs.take j).filter (enL mo) ++ [z].filter (enL mo) := by rw [List.take_add_one, hz, Option.toList_some, List.filter_append]
    rw [ee]
    lge_open0
    refine ixT q1 (at_0 _ _) ⟨_, rfl, ite_of (fun h => k1 _ _ (Same.refl _) fun H' _ => ?_) (fun h => k0 _ (Same.refl _) ?_)⟩
    · rw [ez, List.filter_cons_of_pos (show enL mo z = true from decide_eq_true h), List.map_append, pv, ← ee]
      rfl
    · rw [ez, List.filter_cons_of_neg (show ¬ enL mo z = true from by unfold enL; simpa using h), List.map_append, pv]
      exact (List.append_nil _).symm
  rw [List.length_map, List.take_length, kt] at pv
  subst pv
  have uo : UndoOk (chs (zs.take (mOf zs mo))) := by rw [chs_take]; exact ho.take _
  refine ⟨l2, zs.take (mOf zs mo), rfl, SqL.of w2, (hE.same s2).take _, by rw [List.length_take]; omega, fun i z k hz hk => ?_, fun r H3 s3 e3 => ⟨r, rfl, _, e3, fun l H4 as nl s4 al ak e4 => q l as H4 (by
    rcases hh : H l with _ | o
    · rfl
    · rw [(s2.trans s3) _ _ hh] at nl; cases nl) ((s2.trans s3).trans s4) e4 ⟨?_, fun i p k hp' hk' => ?_⟩⟩⟩
  · rw [chs_take]
    refine uo i k ?_
    unfold chs
    rw [List.getElem?_map, hz]
    exact congrArg some hk
  · rw [al]
    exact List.length_map ..
  · have kin := (stand_in (chs (zs.take (mOf zs mo)))).2 k (List.mem_of_getElem? hk')
    rw [chs_len, List.length_take] at kin
    have kl : k.toNat < zs.length := by omega
    refine ⟨zs[k.toNat], List.getElem?_eq_getElem kl, ?_⟩
    have := ak i (Sum.inl k, pcAt (zs.take (mOf zs mo)) k) p (by
      unfold kvG
      rw [List.getElem?_map]
      show Option.map _ (knownL zs mo)[i]? = _
      rw [hk']
      rfl) hp'
    rw [this]
    show some (HO.tup [V.int k, pcAt (zs.take (mOf zs mo)) k]) = _
    unfold pcAt
    rw [List.getElem?_take, if_pos (by omega), List.getElem?_eq_getElem kl]
    rfl
def spKnown (K : PySem.W.Frag) : Sp := fun vs H Q _ => ∃ (a : Addr) (zs : List En) (mo : Int), vs = [.ref a, .int mo] ∧ SqL K H a (zs.map (·.1)) ∧ EnsAt K H zs ∧ zs.length ≤ 40 ∧ zs.Pairwise (fun a b => a.2.2.1 ≤ b.2.2.1) ∧ UndoOk (chs zs) ∧ ∀ r as H', Same H H' → H' r = some (.lst (as.map V.ref)) → Told H' zs (knownL zs mo) as → Q (.ref r) H'
theorem sc_xL_known : FnScope ["_law_entries_here", "_law_moment", "_law_found", "_law_gone", "_law_number", "_law_entered", "_law_change_here"] ["_law_entries_here", "_law_moment"] (defScope s_xL_known) := ⟨rfl, rfl, rfl, by decide +kernel, rfl, by decide +kernel, by decide +kernel⟩
theorem ok_xL_known (T : Txt w K mg t) : FnOk P w K mg base (CXE P w) 1 t.a_xL_known t.d_xL_known ["_law_entries_here", "_law_moment"] (spKnown K) := by
  refine T.fn_xL_known.okX sc_xL_known (fun vs H Q E h => ?_) (fun cdv A outer s H vs Q E L hr h => ?_)
  · obtain ⟨a, zs, mo, rfl, hS, hE, z40, hp, ho, q⟩ := h
    rfl
  obtain ⟨a, zs, mo, rfl, hS, hE, z40, hp, ho, q⟩ := h
  have nd := sc_xL_known.nd
  refine ⟨_, (pss_cons (ps_set (i := 2) nd rfl (Or.inl rfl) (pe_lstS pa_nil)) (pss_cons (ps_setC (i := 3) nd rfl rfl (n := 2) (N := ["_law_entered", "_law_change_here", "_law_moment"]) (js := [1]) (by rfl) rfl rfl (pi_list (pv 0)) (fun a => (pg_tup (n := 2) rfl (pgs_cons (pg_name (i := 0) (show List.Nodup (["_law_entered", "_law_change_here", "_law_moment"] : List Str) from by decide +kernel) rfl (Or.inl rfl)) (pgs_cons (pg_name (i := 1) (show List.Nodup (["_law_entered", "_law_change_here", "_law_moment"] : List Str) from by decide +kernel) rfl (Or.inl rfl)) pgs_nil)))) (fun a => (pif_one (pw_and (pt_cmpR op_eq (pe_ix ix_tup (pv 1) pe_int (fun _ _ => rfl)) (pe_strL st_13) (nomark _)) (pw_and1 (pt_cmpR op_le (pv 0) (pv 2) (nomark _)))).pt)) (fun a => (pe_ix ix_tup (pv 1) pe_int (fun _ _ => rfl)))) (pss_cons (ps_for (by passes_own) rfl (pi_range1 (by rfl) T.no_range (pa_cons (pe_callB call_len_seq (by rfl) T.no_len bb_len (pa_cons (pv 0) pa_nil)) pa_nil)) (pg_name (i := 4) nd rfl (Or.inl rfl)) (pss_cons (ps_asg (pe_ix ix_list (pv 0) (pv 4) (fun _ _ => rfl)) (pg_tup (n := 2) rfl (pgs_cons (pg_name (i := 5) nd rfl (Or.inl rfl)) (pgs_cons (pg_name (i := 6) nd rfl (Or.inl rfl)) pgs_nil)))) (pss_one (ps_if (pw_and (pt_cmpR op_le (pv 5) (pv 1) (nomark _)) (pw_and (pt_cmpR op_notIn_seq (pv 4) (pv 3) rfl) (pw_and1 (pt_cmpR op_notIn_seq (pe_ix ix_tup (pv 6) pe_int (fun _ _ => rfl)) (pe_tupS (pa_cons (pe_strL st_13) (pa_cons (pe_strL st_19) (pa_cons (pe_strL st_18) pa_nil star_Constant) star_Constant) star_Constant)) rfl)))).pt (pss_one (ps_expr (pe_bm PySem.F.plainAttrs_list PySem.F.slot_list_append PySem.F.type_list_append mt_append (pv 2) (pa_cons (pe_tupS (pa_cons (pv 4) (pa_cons (pv 6) pa_nil star_Name) star_Name)) pa_nil)))) pss_nil)))) (pss_one (ps_ret (pv 2)))))), ?_⟩
  open_k0
  obtain ⟨kt, kb⟩ := known_take mo hp
  have ml : mOf zs mo ≤ zs.length := List.length_filter_le _ _
  intro lf H0 hlf s0 e0
  simp only [tItems, tRev, tDNewS, tDIn, tDNotIn, sDPut, tDPop1, tDGet2, tDGet, tDc, tCallKX, kwG_one, tEither, tTupS, tLstS, comp_K, capσ, sub_nil, sub_none, sub_some, tYes, List.replicate, Option.join_some, Option.join_none, SL_inj, iStr, tPart, tNoPart, tSl, tLst, tTup, cx_K, slT, CDiv, Int.reduceLT, Int.reduceLE, Int.reduceToNat, Int.reduceNeg, Int.reduceAdd, Int.reduceSub, Int.reduceMul, forall_const, tSeq, tNext, tIfS, tRet, tRetN, tDrop, tAsg, gName, gCons, gNil, tVar, tC, tOp, rI, rI0, tUn, rU, tTest, tB, tAnd, tOr, tNot, tAndV, tOrV, tNotV, tIf, tCons, tNil, tCallX, tCallL, tCB, sRaise, rEq, rNe, scal_ii, scal_bb, scal_ss, scal_ni, scal_in, tChain, tAug, ipI, L2.start, List.map_cons, List.map_nil, List.length_cons, List.length_nil, List.cons_append, List.nil_append, List.append_nil, List.replicate_succ, List.replicate_zero, Nat.reduceAdd, Nat.reduceSub, List.getElem?_cons_zero, List.getElem?_cons_succ, List.set_cons_zero, List.set_cons_succ, Option.some.injEq, V.int.injEq, V.bl.injEq, V.ref.injEq, V.str.injEq, exists_eq_left', exists_eq_left, exists_eq', exists_and_left, List.cons.injEq, and_true, true_and, and_self, and_assoc, decide_eq_true_eq, if_true, if_false, Bool.true_eq_false, Bool.false_eq_true, Bool.not_eq_true', Bool.not_true, Bool.not_false, decide_eq_false_iff_not, ite_true, ite_false, reduceCtorEq, false_and, exists_false, false_or, or_false, and_false, tComp, iList, Nat.reduceLeDiff]
  refine ⟨⟨_, s0.seq hS⟩, fun l2 hl2 aa => ?_⟩
  refine comp_by (fun j xs _ => xs = (goneF (chs ((zs.take j).filter (enL mo)))).map V.int) (lists_lst (s0.seq hS)) hl2 (by rw [List.length_map]; exact small_len (by omega)) (fun _ _ => rfl) (fun j x xs H8 K1 K0 hx sm pv hl k1 k0 => ?_) (fun xs H2 s2 pv _ w2 => ?_)
  · obtain ⟨z, hz, rfl⟩ : ∃ z, zs[j]? = some z ∧ x = z.1 := by
      rw [List.getElem?_map] at hx
      obtain ⟨u, e, rfl⟩ := Option.map_eq_some_iff.mp hx
      exact ⟨u, e, rfl⟩
    obtain ⟨pe, ee, q1, q2⟩ := (hE.same (s0.trans sm)) z (List.mem_of_getElem? hz)
    rw [ee]
    lge_open0
    refine ⟨pe, _, rfl, q1, rfl, ?_⟩
    lge_open0
    obtain ⟨r, er⟩ := chD_cons z.2.2.2
    have q2' := q2
    rw [er] at q2'
    refine ixT q2' (at_0 _ _) ⟨rfl, ?_⟩
    have gs := gone_step (mo := mo) hz
    by_cases hu : chW z.2.2.2 = [117, 110, 100, 111]
    · obtain ⟨k, hk⟩ := chW_undo hu
      rw [hk] at q2 gs
      have q3 : SqT K H8 z.2.1 [.str (SL [117, 110, 100, 111]), .int k] := q2
      refine ite_t (by rw [hu]) (ite_of (fun h => ixT q3 (at_1 _ _ _) (k1 _ _ (Same.refl _) fun H' _ => ?_)) (fun h => k0 _ (Same.refl _) ?_))
      · rw [gs, if_pos h, List.map_append, pv]
        rfl
      · rw [gs, if_neg h, List.append_nil]
        exact pv
    · refine ite_f (str_ne hu) (k0 _ (Same.refl _) ?_)
      rw [gs, gone_one hu, ite_self, List.append_nil]
      exact pv
  rw [List.length_map, List.take_length, kt] at pv
  subst pv
  obtain ⟨cs, hcs⟩ : ∃ cs, cs = chs (zs.take (mOf zs mo)) := ⟨_, rfl⟩
  rw [← hcs] at w2
  have csl : cs.length = mOf zs mo := by rw [hcs, chs_len, List.length_take]; omega
  have nlf : H lf = none := hlf
  have s03 := s0.trans s2
  have e3 := s2 _ _ e0
  ((try dsimp only); refine for_by fun R hR => ?_; simp only [tItems, tRev, tDNewS, tDIn, tDNotIn, sDPut, tDPop1, tDGet2, tDGet, tDc, tCallKX, kwG_one, tEither, tTupS, tLstS, comp_K, capσ, sub_nil, sub_none, sub_some, tYes, List.replicate, Option.join_some, Option.join_none, SL_inj, iStr, tPart, tNoPart, tSl, tLst, tTup, cx_K, slT, CDiv, Int.reduceLT, Int.reduceLE, Int.reduceToNat, Int.reduceNeg, Int.reduceAdd, Int.reduceSub, Int.reduceMul, forall_const, tSeq, tNext, tIfS, tRet, tRetN, tDrop, tAsg, gName, gCons, gNil, tVar, tC, tOp, rI, rI0, tUn, rU, tTest, tB, tAnd, tOr, tNot, tAndV, tOrV, tNotV, tIf, tCons, tNil, tCallX, tCallL, tCB, sRaise, rEq, rNe, scal_ii, scal_bb, scal_ss, scal_ni, scal_in, tChain, tAug, ipI, L2.start, List.map_cons, List.map_nil, List.length_cons, List.length_nil, List.cons_append, List.nil_append, List.append_nil, List.replicate_succ, List.replicate_zero, Nat.reduceAdd, Nat.reduceSub, List.getElem?_cons_zero, List.getElem?_cons_succ, List.set_cons_zero, List.set_cons_succ, Option.some.injEq, V.int.injEq, V.bl.injEq, V.ref.injEq, V.str.injEq, exists_eq_left', exists_eq_left, exists_eq', exists_and_left, List.cons.injEq, and_true, true_and, and_self, and_assoc, decide_eq_true_eq, if_true, if_false, Bool.true_eq_false, Bool.false_eq_true, Bool.not_eq_true', Bool.not_true, Bool.not_false, decide_eq_false_iff_not, ite_true, ite_false, reduceCtorEq, false_and, exists_false, false_or, or_false, and_false, iList, iTup, iZip, iEnum, iRng1, iRng2, Nat.reduceLeDiff])
  refine ⟨_, .inl (s03.seq hS), ?_⟩
  rw [List.length_map]
  refine ⟨by omega, by omega, hR _ _ ?_⟩
  clear hR
  rw [Int.toNat_natCast]
  have l2f : l2 ≠ lf := fun z => absurd hl2 (by rw [z, e0]; exact fun h => nomatch h)
  refine for_range (n := zs.length) (fun i σ1 H4 => Same H H4 ∧ H4 l2 = some (.lst ((goneF cs).map V.int)) ∧ ∃ (as : List Addr) (x4 x5 x6 : Option V), H4 lf = some (.lst (as.map V.ref)) ∧ Told H4 zs (dueF cs (goneF cs) i) as ∧ as.length ≤ i ∧ σ1 = [some (.ref a), some (.int mo), some (.ref lf), some (.ref l2), x4, x5, x6]) ⟨s03, w2, [], _, _, _, e3, ⟨rfl, fun i p k h => by rw [List.getElem?_nil] at h; cases h⟩, Nat.le_refl _, rfl⟩ (fun i σ1 H4 hi hv => ?_) (fun σ1 H4 hv => ?_)
  · obtain ⟨s4, g4, as, x4, x5, x6, f4, t4, al, rfl⟩ := hv
    obtain ⟨z, hz⟩ : ∃ z, zs[i]? = some z := ⟨zs[i], List.getElem?_eq_getElem hi⟩
    obtain ⟨pe, ee, q1, q2⟩ := (hE.same s4) z (List.mem_of_getElem? hz)
    have kbi := kb i z hz
    lgec_open0
    refine ixL (v := z.1) (s4.seq hS) (by rw [Int.zero_add]; exact atI_nat (by rw [List.getElem?_map, hz]; rfl)) ?_
    rw [ee]
    refine ⟨pe, _, rfl, q1, rfl, ?_⟩
    lgec_open0
    have ci : cs[i]? = if z.2.2.1 ≤ mo then some z.2.2.2 else none := by
      rw [hcs, chs_take, List.getElem?_take]
      unfold chs
      by_cases h : z.2.2.1 ≤ mo
      · rw [if_pos (kbi.mp h), if_pos h, List.getElem?_map, hz]; rfl
      · rw [if_neg (fun q => h (kbi.mpr q)), if_neg h]
    have skip : ∀ H', Same H4 H' → (isTmO cs[i]? && !decide ((i : Int) ∈ goneF cs)) = false → Same H H' ∧ H' l2 = some (.lst ((goneF cs).map V.int)) ∧ ∃ as : List Addr, H' lf = some (.lst (as.map V.ref)) ∧ Told H' zs (dueF cs (goneF cs) (i + 1)) as ∧ as.length ≤ i + 1 := fun H' s' e => by
      refine ⟨s4.trans s', s' _ _ g4, as, s' _ _ f4, ?_, by omega⟩
      rw [due_succ, e, if_neg Bool.false_ne_true, List.append_nil]
      exact t4.same s'
    refine ite_of (fun h => ?_) (fun h => skip H4 (Same.refl _) (by rw [ci, if_neg h]; rfl))
    rw [if_pos h] at ci
    refine ⟨l2, _, rfl, .inl (SqL.of g4), rfl, by rw [List.all_map, List.all_eq_true]; intro _ _; rfl, _, rfl, ?_⟩
    rw [Int.zero_add, inV_ints]
    by_cases hg : (i : Int) ∈ goneF cs
    · refine ite_f (by rw [decide_eq_true hg]; decide) (skip H4 (Same.refl _) (by rw [decide_eq_true hg, Bool.not_true, Bool.and_false]))
    refine ite_t (by rw [decide_eq_false hg]; rfl) ?_
    obtain ⟨r, er⟩ := chD_cons z.2.2.2
    rw [er] at q2
    refine ixT q2 (at_0 _ _) fun pg H5 _ s5 e5 => ⟨pg, _, rfl, .inr (SqT.of e5), rfl, rfl, _, rfl, ?_⟩
    have iv : inV (.str (SL (chW z.2.2.2))) [V.str (SL [117, 110, 100, 111]), V.str (SL [103, 114, 97, 110, 116]), V.str (SL [98, 97, 99, 107])] = !isTm z.2.2.2 := by rw [← chW_three, ← inV_strs]; rfl
    rw [iv, Bool.not_not]
    by_cases tm : isTm z.2.2.2 = true
    · refine ite_t tm ⟨.inl ⟨rfl, _, SqL.of (s5 _ _ f4)⟩, fun pn H6 _ s6 e6 => ⟨lf, _, _, rfl, rfl, s6 _ _ (s5 _ _ f4), le_line (show (as.map V.ref).length + 1 ≤ 1000 by rw [List.length_map]; omega), ?_⟩⟩
      have f6 := s6 _ _ (s5 _ _ f4)
      refine ⟨((s4.trans s5).trans s6).put nlf _, by rw [upd_ne l2f]; exact s6 _ _ (s5 _ _ g4), as ++ [pn], by rw [upd_same, List.map_append]; rfl, ?_, by rw [List.length_append, List.length_singleton]; omega⟩
      rw [due_succ, ci]
      rw [if_pos (by show (isTm z.2.2.2 && _) = true; rw [tm, decide_eq_false hg]; rfl)]
      have off : ∀ p xs, H6 p = some (.tup xs) → upd H6 lf (.lst (as.map V.ref ++ [.ref pn])) p = some (.tup xs) := fun p xs e => by
        rw [upd_ne (fun y => by rw [y, f6] at e; cases e)]
        exact e
      refine ⟨by rw [List.length_append, List.length_append, t4.1]; rfl, fun i' p k h1 h2 => ?_⟩
      by_cases lt : i' < as.length
      · rw [List.getElem?_append_left lt] at h1
        rw [List.getElem?_append_left (by rw [← t4.1]; exact lt)] at h2
        obtain ⟨z', e1, e2⟩ := t4.2 i' p k h1 h2
        exact ⟨z', e1, off _ _ (s6 _ _ (s5 _ _ e2))⟩
      · rw [List.getElem?_append_right (by omega)] at h1
        rw [List.getElem?_append_right (by rw [← t4.1]; omega), ← t4.1] at h2
        have e0 : i' - as.length = 0 := by
          have := (List.getElem?_eq_some_iff.mp h1).1
          rw [List.length_singleton] at this
          omega
        rw [e0] at h1 h2
        cases h1
        cases h2
        exact ⟨z, by rw [Int.toNat_natCast]; exact hz, off _ _ e6⟩
    · refine ite_f tm (skip H5 s5 ?_)
      rw [ci]
      show (isTm z.2.2.2 && _) = false
      rw [Bool.not_eq_true] at tm
      rw [tm, Bool.false_and]
  · obtain ⟨s4, g4, as, x4, x5, x6, f4, t4, al, rfl⟩ := hv
    open_k0
    refine q lf as H4 s4 f4 ?_
    have uo : UndoOk cs := by rw [hcs, chs_take]; exact ho.take _
    have sd := (stand_due cs uo cs.length (Nat.le_refl _)).1
    rw [List.take_length] at sd
    have : knownL zs mo = dueF cs (goneF cs) zs.length := by
      unfold knownL
      rw [← hcs, sd, csl, due_more csl zs.length ml]
    rw [this]
    exact t4
/-- the term of this number -/
noncomputable def rtK (f : Int) (dy : Bool) (c : Int) (zs : List En) (k : Int) : Rt := rtF f dy c k (zs.getD k.toNat (.non, 0, 0, .back)).2.2.2
def GL (f : Int) (dy : Bool) (c : Int) (zs : List En) (mo : Int) (G : Int → List D) : Prop := ∀ ts : List Tm, ts.map (rtT f dy c) = (knownL zs mo).map (rtK f dy c zs) → GAll f dy c ts G
theorem known_in {zs : List En} {mo : Int} (hp : zs.Pairwise (fun a b => a.2.2.1 ≤ b.2.2.1)) (ho : UndoOk (chs zs)) : (knownL zs mo).Nodup ∧ ∀ k ∈ knownL zs mo, ∃ z, 0 ≤ k ∧ zs[k.toNat]? = some z ∧ isTm z.2.2.2 = true := by
  have ml : mOf zs mo ≤ zs.length := List.length_filter_le _ _
  obtain ⟨cs, hcs⟩ : ∃ cs, cs = chs (zs.take (mOf zs mo)) := ⟨_, rfl⟩
  have csl : cs.length = mOf zs mo := by rw [hcs, chs_len, List.length_take]; omega
  have uo : UndoOk cs := by rw [hcs, chs_take]; exact ho.take _
  have sd := (stand_due cs uo cs.length (Nat.le_refl _)).1
  rw [List.take_length] at sd
  refine ⟨(stand_in (chs (zs.take (mOf zs mo)))).1, fun k hk => ?_⟩
  unfold knownL at hk
  rw [← hcs, sd] at hk
  unfold dueF at hk
  obtain ⟨j, hj, rfl⟩ := List.mem_map.mp hk
  obtain ⟨h1, h2⟩ := List.mem_filter.mp hj
  have hj := List.mem_range.mp h1
  have tm : isTmO cs[j]? = true := by
    rw [Bool.and_eq_true] at h2
    exact h2.1
  have jl : j < zs.length := by omega
  refine ⟨zs[j], by omega, by rw [Int.toNat_natCast]; exact List.getElem?_eq_getElem jl, ?_⟩
  have e : cs[j]? = some (zs[j]).2.2.2 := by
    rw [hcs, chs_take, List.getElem?_take, if_pos (by omega)]
    unfold chs
    rw [List.getElem?_map, List.getElem?_eq_getElem jl]
    rfl
  rw [e] at tm
  exact tm
theorem told_tms {K : PySem.W.Frag} {H : Hp} {r : Addr} {zs : List En} {mo f e : Int} {as : List Addr} (dy : Bool) (c : Int) (hp : zs.Pairwise (fun a b => a.2.2.1 ≤ b.2.2.1)) (ho : UndoOk (chs zs)) (z40 : zs.length ≤ 40) (hE : EnsAt K H zs) (hB : EnB f e zs) (er : H r = some (.lst (as.map V.ref))) (ht : Told H zs (knownL zs mo) as) : ∃ ts : List Tm, TmsAt K H r f e ts ∧ ts.map (rtT f dy c) = (knownL zs mo).map (rtK f dy c zs) ∧ ∀ t ∈ ts, ∃ z ∈ zs, t.2.2.2 = z.2.2.2 := by
  obtain ⟨kn, ki⟩ := known_in (mo := mo) hp ho
  obtain ⟨al, av⟩ := ht
  have kl : (knownL zs mo).length ≤ 40 := by
    have := stand_len (chs (zs.take (mOf zs mo)))
    rw [chs_len, List.length_take] at this
    unfold knownL
    omega
  obtain ⟨g, hg⟩ : ∃ g : Addr × Int → Tm, g = fun x => (x.1, (zs.getD x.2.toNat (.non, 0, 0, .back)).2.1, x.2, (zs.getD x.2.toNat (.non, 0, 0, .back)).2.2.2) := ⟨_, rfl⟩
  have gd : ∀ k z, zs[Int.toNat k]? = some z → zs.getD k.toNat (.non, 0, 0, .back) = z := fun k z h => by rw [List.getD_eq_getElem?_getD, h]; rfl
  have zm : ∀ x ∈ as.zip (knownL zs mo), ∃ z, 0 ≤ x.2 ∧ zs[x.2.toNat]? = some z ∧ isTm z.2.2.2 = true ∧ H x.1 = some (.tup [.int x.2, .ref z.2.1]) := fun x hx => by
    obtain ⟨i, hi, ei⟩ := List.mem_iff_getElem.mp hx
    rw [List.length_zip] at hi
    rw [List.getElem_zip] at ei
    have h1 : as[i]? = some x.1 := by rw [List.getElem?_eq_getElem (by omega), ← ei]
    have h2 : (knownL zs mo)[i]? = some x.2 := by rw [List.getElem?_eq_getElem (by omega), ← ei]
    obtain ⟨z, e1, e2⟩ := av i x.1 x.2 h1 h2
    obtain ⟨z', k0, e3, tm⟩ := ki x.2 (List.mem_of_getElem? h2)
    rw [e1] at e3
    cases e3
    exact ⟨z, k0, e1, tm, e2⟩
  have zl : (as.zip (knownL zs mo)).length ≤ 40 := by rw [List.length_zip]; omega
  refine ⟨(as.zip (knownL zs mo)).map g, ⟨?_, by rw [List.length_map]; omega, fun t h => ?_, ?_⟩, ?_, fun t h => ?_⟩
  · rw [er, List.map_map]
    have : (as.zip (knownL zs mo)).map ((fun t : Tm => V.ref t.1) ∘ g) = ((as.zip (knownL zs mo)).map (·.1)).map V.ref := by rw [List.map_map, hg]; rfl
    rw [this, List.map_fst_zip (by omega)]
  · obtain ⟨x, hx, rfl⟩ := List.mem_map.mp h
    obtain ⟨z, k0, e1, tm, e2⟩ := zm x hx
    have hz := List.mem_of_getElem? e1
    have kl2 := (List.getElem?_eq_some_iff.mp e1).1
    obtain ⟨pe, _, _, q2⟩ := hE z hz
    rw [hg]
    dsimp only
    rw [gd _ _ e1]
    exact ⟨⟨e2, q2⟩, ⟨k0, by show x.2 < 64; omega⟩, hB z hz tm⟩
  · rw [List.pairwise_map, hg]
    have : ((as.zip (knownL zs mo)).map (·.2)).Pairwise (· ≠ ·) := by rw [List.map_snd_zip (by omega)]; exact kn
    rw [List.pairwise_map] at this
    exact this
  · have : (as.zip (knownL zs mo)).map (rtT f dy c ∘ g) = ((as.zip (knownL zs mo)).map (·.2)).map (rtK f dy c zs) := by rw [List.map_map, hg]; rfl
    rw [List.map_map, this, List.map_snd_zip (by omega)]
  · obtain ⟨x, hx, rfl⟩ := List.mem_map.mp h
    obtain ⟨z, k0, e1, tm, e2⟩ := zm x hx
    exact ⟨z, List.mem_of_getElem? e1, by rw [hg]; dsimp only; rw [gd _ _ e1]⟩
/-- what the span of this number costs -/
noncomputable def cK (f : Int) (dy : Bool) (c : Int) (zs : List (V × Pl)) (G : Int → List D) (k : Int) : Int := Sb (fun o => dayC zs (Cal.beg f dy c k) (Cal.beg f dy c (k + 1)) o (o + 1) (G o)) (Cal.beg f dy c k) (Cal.beg f dy c (k + 1))
/-- the entries that a law draws -/
def EnX (zs : List (V × Pl)) (f e : Int) (K : PySem.W.Frag) (H : Hp) (ys : List En) : Prop := EnsAt K H ys ∧ ys.length ≤ 40 ∧ ys.Pairwise (fun a b => a.2.2.1 ≤ b.2.2.1) ∧ UndoOk (chs ys) ∧ EnB f e ys ∧ ∀ z ∈ ys, isTm z.2.2.2 = true → TmX zs z.2.2.2
theorem EnX.same {zs : List (V × Pl)} {f e : Int} {K : PySem.W.Frag} {H H' : Hp} {ys : List En} (h : EnX zs f e K H ys) (s : Same H H') : EnX zs f e K H' ys := ⟨h.1.same s, h.2⟩
theorem EnX.tmx {zs : List (V × Pl)} {f e : Int} {K : PySem.W.Frag} {H : Hp} {ys : List En} (h : EnX zs f e K H ys) {ts : List Tm} (h3 : ∀ t ∈ ts, isTm t.2.2.2 = true) (hz : ∀ t ∈ ts, ∃ z ∈ ys, t.2.2.2 = z.2.2.2) : ∀ t ∈ ts, TmX zs t.2.2.2 := fun t ht => by
  obtain ⟨z, h1, h2⟩ := hz t ht
  have := h3 t ht
  rw [h2] at this ⊢
  exact h.2.2.2.2.2 z h1 this
def spCostsBy (K : PySem.W.Frag) : Sp := fun vs H Q _ => ∃ (pa le la : Addr) (f : Int) (dy : Bool) (c : Int) (zs : List (V × Pl)) (ys : List En) (G : Int → List D) (n : Nat) (mo : Int), vs = [.ref pa, .ref le, .int n, .int mo] ∧ n ≤ 60 ∧ AccZ K H pa la f dy c zs ∧ SqL K H le (ys.map (·.1)) ∧ EnX zs f (Cal.beg f dy c 60) K H ys ∧ GL f dy c ys mo G ∧ ∀ r H', Same H H' → H' r = some (.lst (((List.range n).map fun i : Nat => cK f dy c zs G i).map V.int)) → Q (.ref r) H'
theorem sc_costs_by : FnScope ["account", "entries", "many", "moment", "ordered", "costs", "k", "span"] ["account", "entries", "many", "moment"] (defScope s_costs_by) := ⟨rfl, rfl, rfl, by decide +kernel, rfl, by decide +kernel, by decide +kernel⟩
theorem ok_costs_by (T : Txt w K mg t) : FnOk P w K mg base (CXE P w) 10 t.a_costs_by t.d_costs_by ["account", "entries", "many", "moment"] (spCostsBy K) := by
  refine T.fn_costs_by.okX sc_costs_by (fun vs H Q E h => ?_) (fun cdv A outer s H vs Q E L hr h => ?_)
  · obtain ⟨pa, le, la, f, dy, c, zs, ys, G, n, mo, rfl, n60, hz, hS, hY, hG, q⟩ := h
    rfl
  obtain ⟨pa, le, la, f, dy, c, zs, ys, G, n, mo, rfl, n60, hz, hS, hY, hG, q⟩ := h
  have nd := sc_costs_by.nd
  refine ⟨_, (pss_cons (ps_set (i := 4) nd rfl (Or.inl rfl) (pe_callX L.toLv (ok_in_order T) (hr.mono (by decide)) (by rfl) T.mg_in_order T.fn_in_order.kp T.b_in_order .nil (pa_cons (pv 0) (pa_cons (pe_callX L.toLv (ok_terms_at T) (hr.mono (by decide)) (by rfl) T.mg_terms_at T.fn_terms_at.kp T.b_terms_at .nil (pa_cons (pv 1) (pa_cons (pv 3) pa_nil star_Name) star_Name)) pa_nil star_Call) star_Name))) (pss_cons (ps_set (i := 5) nd rfl (Or.inl rfl) (pe_lstS pa_nil)) (pss_cons (ps_for (by passes_own) rfl (pi_range1 (by rfl) T.no_range (pa_cons (pv 2) pa_nil)) (pg_name (i := 6) nd rfl (Or.inl rfl)) (pss_cons (ps_set (i := 7) nd rfl (Or.inl rfl) (pe_callX L.toLv (ok_span_days T) (hr.mono (by decide)) (by rfl) T.mg_span_days T.fn_span_days.kp T.b_span_days .nil (pa_cons (pv 0) (pa_cons (pv 6) pa_nil star_Name) star_Name))) (pss_one (ps_expr (pe_bm PySem.F.plainAttrs_list PySem.F.slot_list_append PySem.F.type_list_append mt_append (pv 5) (pa_cons (pe_callX L.toLv (ok_cost_of T) (hr.mono (by decide)) (by rfl) T.mg_cost_of T.fn_cost_of.kp T.b_cost_of .nil (pa_cons (pe_callX L.toLv (ok_lines_ahead T) (hr.mono (by decide)) (by rfl) T.mg_lines_ahead T.fn_lines_ahead.kp T.b_lines_ahead .nil (pa_cons (pv 0) (pa_cons (pv 4) (pa_cons (pv 7) (pa_cons (pe_ix ix_tup (pv 7) pe_int (fun _ _ => rfl)) pa_nil star_Subscript) star_Name) star_Name) star_Name)) pa_nil)) pa_nil)))))) (pss_one (ps_ret (pv 5)))))), ?_⟩
  obtain ⟨f0, f1, hc⟩ := hz.1.cyc
  open_k0
  refine ⟨le, ys, mo, rfl, hS, hY.1, hY.2.1, hY.2.2.1, hY.2.2.2.1, fun r1 as H1 _ s1 e1 t1 => ?_⟩
  have hY1 := hY.same s1
  obtain ⟨ts, ht, er, tz⟩ := told_tms dy c hY.2.2.1 hY.2.2.2.1 hY.2.1 hY1.1 hY.2.2.2.2.1 e1 t1
  have hx := hY.tmx (fun t h => (ht.2.2.1 t h).2.2.1) tz
  have hGt := hG ts er
  refine ⟨pa, r1, la, f, dy, c, ts, rfl, hz.1.same s1, ht, fun l2 os H2 s2 ho om => ?_⟩
  have s12 := s1.trans s2
  have hox := om_tmx om hx
  intro lc H3 hlc s3 e3
  have nlc : H lc = none := s12.none hlc
  ((try dsimp only); refine for_by fun R hR => ?_; simp only [tItems, tRev, tDNewS, tDIn, tDNotIn, sDPut, tDPop1, tDGet2, tDGet, tDc, tCallKX, kwG_one, tEither, tTupS, tLstS, comp_K, capσ, sub_nil, sub_none, sub_some, tYes, List.replicate, Option.join_some, Option.join_none, SL_inj, iStr, tPart, tNoPart, tSl, tLst, tTup, cx_K, slT, CDiv, Int.reduceLT, Int.reduceLE, Int.reduceToNat, Int.reduceNeg, Int.reduceAdd, Int.reduceSub, Int.reduceMul, forall_const, tSeq, tNext, tIfS, tRet, tRetN, tDrop, tAsg, gName, gCons, gNil, tVar, tC, tOp, rI, rI0, tUn, rU, tTest, tB, tAnd, tOr, tNot, tAndV, tOrV, tNotV, tIf, tCons, tNil, tCallX, tCallL, tCB, sRaise, rEq, rNe, scal_ii, scal_bb, scal_ss, scal_ni, scal_in, tChain, tAug, ipI, L2.start, List.map_cons, List.map_nil, List.length_cons, List.length_nil, List.cons_append, List.nil_append, List.append_nil, List.replicate_succ, List.replicate_zero, Nat.reduceAdd, Nat.reduceSub, List.getElem?_cons_zero, List.getElem?_cons_succ, List.set_cons_zero, List.set_cons_succ, Option.some.injEq, V.int.injEq, V.bl.injEq, V.ref.injEq, V.str.injEq, exists_eq_left', exists_eq_left, exists_eq', exists_and_left, List.cons.injEq, and_true, true_and, and_self, and_assoc, decide_eq_true_eq, if_true, if_false, Bool.true_eq_false, Bool.false_eq_true, Bool.not_eq_true', Bool.not_true, Bool.not_false, decide_eq_false_iff_not, ite_true, ite_false, reduceCtorEq, false_and, exists_false, false_or, or_false, and_false, iList, iTup, iZip, iEnum, iRng1, iRng2, Nat.reduceLeDiff])
  refine ⟨by omega, by omega, hR _ _ ?_⟩
  clear hR
  rw [Int.toNat_natCast]
  obtain ⟨Pv, hPv⟩ : ∃ Pv : Nat → St → Hp → Prop, Pv = fun (i : Nat) σ1 H7 => Same H2 H7 ∧ ∃ x6 x7 : Option V, H7 lc = some (.lst (((List.range i).map fun i : Nat => cK f dy c zs G i).map V.int)) ∧ σ1 = [some (.ref pa), some (.ref le), some (.int n), some (.int mo), some (.ref l2), some (.ref lc), x6, x7] := ⟨_, rfl⟩
  refine for_range (n := n) Pv (by rw [hPv]; exact ⟨s3, _, _, e3, rfl⟩) (fun i σ1 H7 hi h => ?_) (fun σ1 H7 h => ?_)
  · rw [hPv] at h
    obtain ⟨s7, x6, x7, e7, rfl⟩ := h
    have s17 := s12.trans s7
    have bw := beg_wide (k := (i : Int)) f0 f1 hc (by omega) (by omega)
    lgec_open0
    refine ⟨pa, la, f, dy, c, (i : Int), by rw [Int.zero_add], hz.1.same s17, fun _ _ p1 H8 s8 e8 => ?_, fun z => absurd z (by omega), fun z => absurd z (by omega)⟩
    have s18 := s17.trans s8
    have e78 := s8 _ _ e7
    refine ⟨.inl ⟨rfl, _, SqL.of e78⟩, ixT (SqT.of e8) (at_1 _ _ _) ⟨pa, l2, p1, la, f, dy, c, zs, _, _, _, os, G, rfl, hz.same s18, ho.same (s7.trans s8), e8, by omega, Int.le_refl _, bw.2.1, by omega, hGt _ om, hox, fun r ws H9 _ s9 wA wl wW => ⟨r, zs, _, _, ws, rfl, wA, wl, fun H10 s10 => ?_⟩⟩⟩
    have e710 := s10 _ _ (s9 _ _ e78)
    refine ⟨lc, _, _, rfl, rfl, e710, small1000 (by rw [List.length_map, List.length_map, List.length_range]; omega), ?_⟩
    rw [hPv, rows_sum wW]
    exact ⟨(s7.trans (s8.trans (s9.trans s10))).put hlc _, _, _, by rw [upd_same, List.range_succ, List.map_append, List.map_append]; rfl, rfl⟩
  · rw [hPv] at h
    obtain ⟨s7, x6, x7, e7, rfl⟩ := h
    open_k0
    exact q lc H7 (s12.trans s7) e7
def mvF (c1 c2 : Int → Int) (n : Nat) : List (Int × Int × Int) := ((List.range n).filter (fun i : Nat => decide (c1 i ≠ c2 i))).map fun i : Nat => ((i : Int), c1 i, c2 i)
theorem mv_succ (c1 c2 : Int → Int) (n : Nat) : mvF c1 c2 (n + 1) = mvF c1 c2 n ++ (if c1 n ≠ c2 n then [((n : Int), c1 n, c2 n)] else []) := by
  unfold mvF
  rw [List.range_succ, List.filter_append, List.map_append]
  by_cases h : c1 n = c2 n
  · rw [if_neg (fun z => z h), List.filter_cons_of_neg (by simpa using h)]
    rfl
  · rw [if_pos h, List.filter_cons_of_pos (by simpa using h)]
    rfl
theorem mv_len (c1 c2 : Int → Int) (n : Nat) : (mvF c1 c2 n).length ≤ n := by
  unfold mvF
  rw [List.length_map]
  exact Nat.le_trans (List.length_filter_le _ _) (by rw [List.length_range]; exact Nat.le_refl _)
def MvAs (H : Hp) (as : List Addr) (rows : List (Int × Int × Int)) : Prop := as.length = rows.length ∧ ∀ (i : Nat) a row, as[i]? = some a → rows[i]? = some row → H a = some (.tup [.int row.1, .int row.2.1, .int row.2.2])
theorem MvAs.tup {H H' : Hp} {as : List Addr} {rows : List (Int × Int × Int)} (h : MvAs H as rows) (k : ∀ a xs, H a = some (.tup xs) → H' a = some (.tup xs)) : MvAs H' as rows := ⟨h.1, fun i a row h1 h2 => k _ _ (h.2 i a row h1 h2)⟩
theorem MvAs.snoc {H : Hp} {as : List Addr} {rows : List (Int × Int × Int)} {p : Addr} {row : Int × Int × Int} (h : MvAs H as rows) (e : H p = some (.tup [.int row.1, .int row.2.1, .int row.2.2])) : MvAs H (as ++ [p]) (rows ++ [row]) := by
  refine ⟨by rw [List.length_append, List.length_append, h.1]; rfl, fun i a r h1 h2 => ?_⟩
  rw [List.getElem?_append] at h1 h2
  rw [h.1] at h1
  by_cases hi : i < rows.length
  · rw [if_pos hi] at h1 h2
    exact h.2 i a r h1 h2
  · rw [if_neg hi] at h1 h2
    have i0 : i - rows.length = 0 := by
      rcases Nat.lt_or_ge (i - rows.length) 1 with z | z
      · omega
      · rw [List.getElem?_eq_none (by simpa using z)] at h1; cases h1
    rw [i0] at h1 h2
    cases h1
    cases h2
    exact e
def mvD (row : Int × Int × Int) : D := .tup [.int row.1, .int row.2.1, .int row.2.2]
theorem MvAs.all2 {K : PySem.W.Frag} {H : Hp} : ∀ {as : List Addr} {rows : List (Int × Int × Int)}, MvAs H as rows → all2 (Dp K H 1) (rows.map mvD) (as.map V.ref)
  | [], [], _ => trivial
  | a :: r, row :: s, h => ⟨Dp_tup (SqT.of (h.2 0 a row rfl rfl)) ⟨Dp_int, Dp_int, Dp_int, trivial⟩, MvAs.all2 ⟨by simpa using h.1, fun i a' row' h1 h2 => h.2 (i + 1) a' row' (by simpa using h1) (by simpa using h2)⟩⟩
  | [], _ :: _, h => by cases h.1
  | _ :: _, [], h => by cases h.1
def spMoved (K : PySem.W.Frag) (t : Adr) : Sp := fun vs H Q E => ∃ (pa le la : Addr) (f : Int) (dy : Bool) (c : Int) (zs : List (V × Pl)) (ys : List En) (G1 G2 : Int → List D) (one other : Int), vs = [.ref pa, .ref le, .int one, .int other] ∧ AccZ K H pa la f dy c zs ∧ SqL K H le (ys.map (·.1)) ∧ EnX zs f (Cal.beg f dy c 60) K H ys ∧ GL f dy c ys one G1 ∧ GL f dy c ys other G2 ∧
  (∀ k : Nat, k < 60 → Cal.beg f dy c k ≤ one → one < Cal.beg f dy c ((k : Int) + 1) → one ≤ other → other < Cal.beg f dy c 60 → ∀ r as H', H r = none → Same H H' → H' r = some (.lst (as.map V.ref)) → MvAs H' as (mvF (cK f dy c zs G1) (cK f dy c zs G2) (k + 1)) → Q (.ref r) H') ∧
  ((one < f ∨ (f ≤ one ∧ one < Cal.beg f dy c 60 ∧ (other < f ∨ (other < one ∧ other < Cal.beg f dy c 60)))) → ∀ H', Same H H' → E (.ref t.c_NoSpan) none H') ∧ ((Cal.beg f dy c 60 ≤ one ∨ (f ≤ one ∧ one < Cal.beg f dy c 60 ∧ Cal.beg f dy c 60 ≤ other)) → ∀ H', Same H H' → E (.ref t.c_TooLong) none H')
theorem sc_moved : FnScope ["account", "entries", "one", "other", "k", "begin", "end", "before", "behind"] ["account", "entries", "one", "other"] (defScope s_moved) := ⟨rfl, rfl, rfl, by decide +kernel, rfl, by decide +kernel, by decide +kernel⟩
theorem ok_moved (T : Txt w K mg t) : FnOk P w K mg base (CXE P w) 11 t.a_moved t.d_moved ["account", "entries", "one", "other"] (spMoved K t) := by
  refine T.fn_moved.okX sc_moved (fun vs H Q E h => ?_) (fun cdv A outer s H vs Q E L hr h => ?_)
  · obtain ⟨pa, le, la, f, dy, c, zs, ys, G1, G2, one, other, rfl, hz, hS, hY, hG1, hG2, q1, q2, q3⟩ := h
    rfl
  obtain ⟨pa, le, la, f, dy, c, zs, ys, G1, G2, one, other, rfl, hz, hS, hY, hG1, hG2, q1, q2, q3⟩ := h
  have nd := sc_moved.nd
  refine ⟨_, (pss_cons (ps_asg (pe_callX L.toLv (ok_span_with T) (hr.mono (by decide)) (by rfl) T.mg_span_with T.fn_span_with.kp T.b_span_with .nil (pa_cons (pv 0) (pa_cons (pv 2) pa_nil star_Name) star_Name)) (pg_tup (n := 3) rfl (pgs_cons (pg_name (i := 4) nd rfl (Or.inl rfl)) (pgs_cons (pg_name (i := 5) nd rfl (Or.inl rfl)) (pgs_cons (pg_name (i := 6) nd rfl (Or.inl rfl)) pgs_nil))))) (pss_cons (ps_expr (pe_callX L.toLv (ok_span_with T) (hr.mono (by decide)) (by rfl) T.mg_span_with T.fn_span_with.kp T.b_span_with .nil (pa_cons (pv 0) (pa_cons (pv 3) pa_nil star_Name) star_Name))) (pss_cons (ps_if (pt_cmpR op_gt (pv 2) (pv 3) (nomark _)) (pss_one (ps_raise L T.ex_NoSpan (by rfl) (by rfl) T.mg_NoSpan (pa_cons pe_str pa_nil))) pss_nil) (pss_cons (ps_set (i := 7) nd rfl (Or.inr rfl) (pe_callX L.toLv (ok_costs_by T) (hr.mono (by decide)) (by rfl) T.mg_costs_by T.fn_costs_by.kp T.b_costs_by .nil (pa_cons (pv 0) (pa_cons (pv 1) (pa_cons (pe_op op_add (pv 4) pe_int) (pa_cons (pv 2) pa_nil star_Name) star_BinOp) star_Name) star_Name))) (pss_cons (ps_set (i := 8) nd rfl (Or.inr rfl) (pe_callX L.toLv (ok_costs_by T) (hr.mono (by decide)) (by rfl) T.mg_costs_by T.fn_costs_by.kp T.b_costs_by .nil (pa_cons (pv 0) (pa_cons (pv 1) (pa_cons (pe_op op_add (pv 4) pe_int) (pa_cons (pv 3) pa_nil star_Name) star_BinOp) star_Name) star_Name))) (pss_one (ps_ret (pe_comp (n := 1) (N := ["number", "before", "behind"]) (js := [7, 8]) (by rfl) rfl rfl (pi_range1 (by rfl) T.no_range (pa_cons (pe_op op_add (pv 4) pe_int) pa_nil)) (fun a => (pg_name (i := 0) (show List.Nodup (["number", "before", "behind"] : List Str) from by decide +kernel) rfl (Or.inl rfl))) (fun a => (pif_one (pt_cmpR op_ne (pe_ix ix_list (pv 1) (pv 0) (fun _ _ => rfl)) (pe_ix ix_list (pv 2) (pv 0) (fun _ _ => rfl)) (nomark _)))) (fun a => (pe_tupS (pa_cons (pv 0) (pa_cons (pe_ix ix_list (pv 1) (pv 0) (fun _ _ => rfl)) (pa_cons (pe_ix ix_list (pv 2) (pv 0) (fun _ _ => rfl)) pa_nil star_Subscript) star_Subscript) star_Name))))))))))), ?_⟩
  obtain ⟨f0, f1, hc⟩ := hz.1.cyc
  have g60 := Cal.beg_ge (k := 60) f0 f1 hc (by decide) (by decide)
  open_k0
  refine ⟨pa, la, f, dy, c, one, rfl, hz.1, fun k k0 k1 a1 a2 p1 H1 s1 e1 => ?_, fun z => q2 (.inl z), fun z => q3 (.inl z)⟩
  have bk := Cal.beg_ge (k := k) f0 f1 hc k0 (by omega)
  have bk1 := Cal.beg_le (k := k + 1) (j := 60) f0 f1 hc (by omega) (by omega) (by decide)
  refine ⟨p1, _, rfl, SqT.of e1, rfl, ?_⟩
  open_k0
  refine ⟨pa, la, f, dy, c, other, rfl, hz.1.same s1, fun k' k0' k1' a1' a2' p2 H2 s2 e2 => ?_, fun z H' s' => q2 (.inr ⟨by omega, by omega, .inl z⟩) H' (s1.trans s'), fun z H' s' => q3 (.inr ⟨by omega, by omega, z⟩) H' (s1.trans s')⟩
  have bk' := Cal.beg_ge (k := k') f0 f1 hc k0' (by omega)
  have bk1' := Cal.beg_le (k := k' + 1) (j := 60) f0 f1 hc (by omega) (by omega) (by decide)
  have s12 := s1.trans s2
  refine ite_of (fun h => q2 (.inr ⟨by omega, by omega, .inr ⟨by omega, by omega⟩⟩) H2 s12) (fun h => ?_)
  obtain ⟨kn, rfl⟩ := Int.eq_ofNat_of_zero_le k0
  refine ⟨pa, le, la, f, dy, c, zs, ys, G1, kn + 1, one, rfl, by omega, hz.same s12, s12.seq hS, hY.same s12, hG1, fun r1 H3 s3 e3 => ?_⟩
  have s13 := s12.trans s3
  refine ⟨pa, le, la, f, dy, c, zs, ys, G2, kn + 1, other, rfl, by omega, hz.same s13, s13.seq hS, hY.same s13, hG2, fun r2 H4 s4 e4 => ?_⟩
  have e34 := s4 _ _ e3
  simp only [tItems, tRev, tDNewS, tDIn, tDNotIn, sDPut, tDPop1, tDGet2, tDGet, tDc, tCallKX, kwG_one, tEither, tTupS, tLstS, comp_K, capσ, sub_nil, sub_none, sub_some, tYes, List.replicate, Option.join_some, Option.join_none, SL_inj, iStr, tPart, tNoPart, tSl, tLst, tTup, cx_K, slT, CDiv, Int.reduceLT, Int.reduceLE, Int.reduceToNat, Int.reduceNeg, Int.reduceAdd, Int.reduceSub, Int.reduceMul, forall_const, tSeq, tNext, tIfS, tRet, tRetN, tDrop, tAsg, gName, gCons, gNil, tVar, tC, tOp, rI, rI0, tUn, rU, tTest, tB, tAnd, tOr, tNot, tAndV, tOrV, tNotV, tIf, tCons, tNil, tCallX, tCallL, tCB, sRaise, rEq, rNe, scal_ii, scal_bb, scal_ss, scal_ni, scal_in, tChain, tAug, ipI, L2.start, List.map_cons, List.map_nil, List.length_cons, List.length_nil, List.cons_append, List.nil_append, List.append_nil, List.replicate_succ, List.replicate_zero, Nat.reduceAdd, Nat.reduceSub, List.getElem?_cons_zero, List.getElem?_cons_succ, List.set_cons_zero, List.set_cons_succ, Option.some.injEq, V.int.injEq, V.bl.injEq, V.ref.injEq, V.str.injEq, exists_eq_left', exists_eq_left, exists_eq', exists_and_left, List.cons.injEq, and_true, true_and, and_self, and_assoc, decide_eq_true_eq, if_true, if_false, Bool.true_eq_false, Bool.false_eq_true, Bool.not_eq_true', Bool.not_true, Bool.not_false, decide_eq_false_iff_not, ite_true, ite_false, reduceCtorEq, false_and, exists_false, false_or, or_false, and_false, tComp, iRng1, Nat.reduceLeDiff]
  refine ⟨by omega, by omega, fun l5 hl5 aa => ?_⟩
  rw [show ((kn : Int) + 1).toNat = kn + 1 by omega]
  have get : ∀ (G : Int → List D) (j : Nat), j < kn + 1 → atI ((((List.range (kn + 1)).map fun i : Nat => cK f dy c zs G i)).map V.int) (0 + (j : Int)) = some (.int (cK f dy c zs G j)) := fun G j hj => by
    rw [Int.zero_add]
    refine atI_nat ?_
    rw [List.getElem?_map, List.getElem?_map, List.getElem?_range hj]
    rfl
  refine comp_by (fun j xs H5 => ∃ as : List Addr, xs = as.map V.ref ∧ MvAs H5 as (mvF (cK f dy c zs G1) (cK f dy c zs G2) j)) (lists_rng 0 (kn + 1) H4) hl5 (by rw [rng_len]; exact small_len (by omega)) (fun _ _ => ⟨[], rfl, rfl, (fun i a row h => by rw [List.getElem?_nil] at h; cases h)⟩) (fun j y xs H8 K1 K0 hxx sm pv hl k1' k0'' => ?_) (fun xs H5 s5 pv _ w5 => ?_)
  · have hj := (List.getElem?_eq_some_iff.mp hxx).1
    rw [rng_len] at hj
    rw [rng_get hj] at hxx
    cases hxx
    obtain ⟨as, rfl, mv⟩ := pv
    lge_open0
    have g1 := SqL.of (K := K) (sm _ _ e34)
    have g2 := SqL.of (K := K) (sm _ _ e4)
    refine ixL g1 (get G1 j hj) (ixL g2 (get G2 j hj) ⟨rfl, ?_⟩)
    by_cases e : cK f dy c zs G1 j = cK f dy c zs G2 j
    · refine ite_f (fun z => z (by rw [e])) (k0'' _ (Same.refl _) ⟨as, rfl, ?_⟩)
      rw [mv_succ, if_neg (fun z => z e), List.append_nil]
      exact mv
    · refine ite_t (fun z => e (V.int.inj z)) (ixL g1 (get G1 j hj) (ixL g2 (get G2 j hj) ⟨le_line (by decide), fun p H9 hp s9 e9 => k1' _ _ s9 fun H5 h5 => ⟨as ++ [p], by rw [List.map_append]; rfl, ?_⟩⟩))
      have hl9 := s9 _ _ hl
      have tup : ∀ a xs, H9 a = some (.tup xs) → H5 a = some (.tup xs) := fun a xs h => h5 _ _ (fun z => by rw [z, hl9] at h; cases h) h
      rw [mv_succ, if_pos e]
      rw [Int.zero_add] at e9
      exact (mv.tup fun a xs h => tup _ _ (s9 _ _ h)).snoc (tup _ _ e9)
  rw [rng_len] at pv
  obtain ⟨as, rfl, mv⟩ := pv
  exact q1 kn (by omega) a1 a2 (by omega) (by omega) l5 as H5 ((s13.trans s4).none hl5) ((s13.trans s4).trans s5) w5 mv
def spLDue (K : PySem.W.Frag) : Sp := fun vs H Q _ => ∃ (pa le la : Addr) (f : Int) (dy : Bool) (c : Int) (zs : List (V × Pl)) (ys : List En) (G1 G2 : Int → List D) (one other : Int) (k : Nat), vs = [.ref pa, .ref le, .int one, .int other] ∧ AccZ K H pa la f dy c zs ∧ SqL K H le (ys.map (·.1)) ∧ EnX zs f (Cal.beg f dy c 60) K H ys ∧ GL f dy c ys one G1 ∧ GL f dy c ys other G2 ∧ k < 60 ∧ Cal.beg f dy c k ≤ one ∧ one < Cal.beg f dy c ((k : Int) + 1) ∧ ∀ r as H', Same H H' → H' r = some (.lst (as.map V.ref)) → MvAs H' as (mvF (cK f dy c zs G1) (cK f dy c zs G2) (k + 1)) → Q (.ref r) H'
theorem sc_xL_due : FnScope ["_law_account_here", "_law_entries_here", "_law_one", "_law_other", "_law_found", "_law_k", "_law_before", "_law_behind"] ["_law_account_here", "_law_entries_here", "_law_one", "_law_other"] (defScope s_xL_due) := ⟨rfl, rfl, rfl, by decide +kernel, rfl, by decide +kernel, by decide +kernel⟩
theorem ok_xL_due (T : Txt w K mg t) : FnOk P w K mg base (CXE P w) 12 t.a_xL_due t.d_xL_due ["_law_account_here", "_law_entries_here", "_law_one", "_law_other"] (spLDue K) := by
  refine T.fn_xL_due.okX sc_xL_due (fun vs H Q E h => ?_) (fun cdv A outer s H vs Q E L hr h => ?_)
  · obtain ⟨pa, le, la, f, dy, c, zs, ys, G1, G2, one, other, k, rfl, hz, hS, hY, hG1, hG2, k60, a1, a2, q⟩ := h
    rfl
  obtain ⟨pa, le, la, f, dy, c, zs, ys, G1, G2, one, other, k, rfl, hz, hS, hY, hG1, hG2, k60, a1, a2, q⟩ := h
  have nd := sc_xL_due.nd
  refine ⟨_, (pss_cons (ps_set (i := 4) nd rfl (Or.inl rfl) (pe_lstS pa_nil)) (pss_cons (ps_for (by passes_own) rfl (pi_range1 (by rfl) T.no_range (pa_cons (pe_op op_add (pe_ix ix_tup (pe_callX L.toLv (ok_span_on T) (hr.mono (by decide)) (by rfl) T.mg_span_on T.fn_span_on.kp T.b_span_on .nil (pa_cons (pe_ix ix_tup (pv 0) pe_int (fun _ _ => rfl)) (pa_cons (pe_ix ix_tup (pv 0) pe_int (fun _ _ => rfl)) (pa_cons (pv 2) pa_nil star_Name) star_Subscript) star_Subscript)) pe_int (fun _ _ => rfl)) pe_int) pa_nil)) (pg_name (i := 5) nd rfl (Or.inl rfl)) (pss_cons (ps_set (i := 6) nd rfl (Or.inl rfl) (pe_callX L.toLv (ok_span_cost T) (hr.mono (by decide)) (by rfl) T.mg_span_cost T.fn_span_cost.kp T.b_span_cost .nil (pa_cons (pv 0) (pa_cons (pe_callX L.toLv (ok_xL_known T) (hr.mono (by decide)) (by rfl) T.mg_xL_known T.fn_xL_known.kp T.b_xL_known .nil (pa_cons (pv 1) (pa_cons (pv 2) pa_nil star_Name) star_Name)) (pa_cons (pv 5) pa_nil star_Name) star_Call) star_Name))) (pss_cons (ps_set (i := 7) nd rfl (Or.inl rfl) (pe_callX L.toLv (ok_span_cost T) (hr.mono (by decide)) (by rfl) T.mg_span_cost T.fn_span_cost.kp T.b_span_cost .nil (pa_cons (pv 0) (pa_cons (pe_callX L.toLv (ok_xL_known T) (hr.mono (by decide)) (by rfl) T.mg_xL_known T.fn_xL_known.kp T.b_xL_known .nil (pa_cons (pv 1) (pa_cons (pv 3) pa_nil star_Name) star_Name)) (pa_cons (pv 5) pa_nil star_Name) star_Call) star_Name))) (pss_one (ps_if (pt_cmpR op_ne (pv 6) (pv 7) (nomark _)) (pss_one (ps_expr (pe_bm PySem.F.plainAttrs_list PySem.F.slot_list_append PySem.F.type_list_append mt_append (pv 4) (pa_cons (pe_tupS (pa_cons (pv 5) (pa_cons (pv 6) (pa_cons (pv 7) pa_nil star_Name) star_Name) star_Name)) pa_nil)))) pss_nil))))) (pss_one (ps_ret (pv 4))))), ?_⟩
  obtain ⟨pc, f0, f1, hc, ep⟩ := id hz.1
  open_k0
  intro lf H0 hlf s0 e0
  have hT := s0.sqT (SqT.of (K := K) ep)
  ((try dsimp only); refine for_by fun R hR => ?_; simp only [tItems, tRev, tDNewS, tDIn, tDNotIn, sDPut, tDPop1, tDGet2, tDGet, tDc, tCallKX, kwG_one, tEither, tTupS, tLstS, comp_K, capσ, sub_nil, sub_none, sub_some, tYes, List.replicate, Option.join_some, Option.join_none, SL_inj, iStr, tPart, tNoPart, tSl, tLst, tTup, cx_K, slT, CDiv, Int.reduceLT, Int.reduceLE, Int.reduceToNat, Int.reduceNeg, Int.reduceAdd, Int.reduceSub, Int.reduceMul, forall_const, tSeq, tNext, tIfS, tRet, tRetN, tDrop, tAsg, gName, gCons, gNil, tVar, tC, tOp, rI, rI0, tUn, rU, tTest, tB, tAnd, tOr, tNot, tAndV, tOrV, tNotV, tIf, tCons, tNil, tCallX, tCallL, tCB, sRaise, rEq, rNe, scal_ii, scal_bb, scal_ss, scal_ni, scal_in, tChain, tAug, ipI, L2.start, List.map_cons, List.map_nil, List.length_cons, List.length_nil, List.cons_append, List.nil_append, List.append_nil, List.replicate_succ, List.replicate_zero, Nat.reduceAdd, Nat.reduceSub, List.getElem?_cons_zero, List.getElem?_cons_succ, List.set_cons_zero, List.set_cons_succ, Option.some.injEq, V.int.injEq, V.bl.injEq, V.ref.injEq, V.str.injEq, exists_eq_left', exists_eq_left, exists_eq', exists_and_left, List.cons.injEq, and_true, true_and, and_self, and_assoc, decide_eq_true_eq, if_true, if_false, Bool.true_eq_false, Bool.false_eq_true, Bool.not_eq_true', Bool.not_true, Bool.not_false, decide_eq_false_iff_not, ite_true, ite_false, reduceCtorEq, false_and, exists_false, false_or, or_false, and_false, iList, iTup, iZip, iEnum, iRng1, iRng2, Nat.reduceLeDiff])
  have bk := Cal.beg_ge (k := (k : Int)) f0 f1 hc.2 (by omega) (by omega)
  have bk1 := Cal.beg_le (k := (k : Int) + 1) (j := 60) f0 f1 hc.2 (by omega) (by omega) (by decide)
  refine ixT hT (at_1 _ _ _) (ixT hT (at_2 _ _ _ _) ⟨f, pc, dy, c, one, rfl, f0, f1, hc.same s0, fun k' k0' k1' a1' a2' p1 H1 s1 e1 => ?_, fun z => by omega, fun z => by omega⟩)
  obtain rfl : k' = (k : Int) := Cal.beg_one f0 f1 hc.2 k0' k1' (by omega) (by omega) a1' a2' a1 a2
  refine ixT (SqT.of e1) (at_0 _ _) ⟨_, rfl, by omega, by omega, hR _ _ ?_⟩
  clear hR
  rw [show ((k : Int) + 1).toNat = k + 1 by omega]
  have s01 := s0.trans s1
  obtain ⟨Pv, hPv⟩ : ∃ Pv : Nat → St → Hp → Prop, Pv = fun (i : Nat) σ1 H7 => Same H H7 ∧ ∃ (as : List Addr) (x5 x6 x7 : Option V), H7 lf = some (.lst (as.map V.ref)) ∧ MvAs H7 as (mvF (cK f dy c zs G1) (cK f dy c zs G2) i) ∧ σ1 = [some (.ref pa), some (.ref le), some (.int one), some (.int other), some (.ref lf), x5, x6, x7] := ⟨_, rfl⟩
  refine for_range (n := k + 1) Pv (by rw [hPv]; exact ⟨s01, [], _, _, _, s1 _ _ e0, ⟨rfl, (fun i a row h => by rw [List.getElem?_nil] at h; cases h)⟩, rfl⟩) (fun i σ1 H7 hi h => ?_) (fun σ1 H7 h => ?_)
  · rw [hPv] at h
    obtain ⟨s7, as, x5, x6, x7, e7, mv, rfl⟩ := h
    have hY7 := hY.same s7
    lgec_open0
    refine ⟨le, ys, one, rfl, s7.seq hS, hY7.1, hY.2.1, hY.2.2.1, hY.2.2.2.1, fun r1 b1 H8 s8 e8 t8 => ?_⟩
    have hY8 := hY7.same s8
    have s78 := s7.trans s8
    obtain ⟨ts1, ht1, er1, tz1⟩ := told_tms dy c hY.2.2.1 hY.2.2.2.1 hY.2.1 hY8.1 hY.2.2.2.2.1 e8 t8
    refine ⟨pa, r1, la, f, dy, c, zs, ts1, G1, (i : Int), by rw [Int.zero_add], hz.same s78, ht1, hY.tmx (fun t h => (ht1.2.2.1 t h).2.2.1) tz1, hG1 ts1 er1, fun _ _ H9 s9 => ?_, fun z => absurd z (by omega), fun z => absurd z (by omega)⟩
    have s79 := s78.trans s9
    have hY9 := hY8.same s9
    refine ⟨le, ys, other, rfl, s79.seq hS, hY9.1, hY.2.1, hY.2.2.1, hY.2.2.2.1, fun r2 b2 H10 s10 e10 t10 => ?_⟩
    have hY10 := hY9.same s10
    have s710 := s79.trans s10
    obtain ⟨ts2, ht2, er2, tz2⟩ := told_tms dy c hY.2.2.1 hY.2.2.2.1 hY.2.1 hY10.1 hY.2.2.2.2.1 e10 t10
    refine ⟨pa, r2, la, f, dy, c, zs, ts2, G2, (i : Int), by rw [Int.zero_add], hz.same s710, ht2, hY.tmx (fun t h => (ht2.2.2.1 t h).2.2.1) tz2, hG2 ts2 er2, fun _ _ H11 s11 => ?_, fun z => absurd z (by omega), fun z => absurd z (by omega)⟩
    have s811 := ((s8.trans s9).trans s10).trans s11
    refine ⟨rfl, ?_⟩
    by_cases e : cK f dy c zs G1 i = cK f dy c zs G2 i
    · refine ite_f (fun z => z (congrArg V.int e)) ?_
      rw [hPv]
      exact ⟨s7.trans s811, as, _, _, _, s811 _ _ e7, by rw [mv_succ, if_neg (fun z => z e), List.append_nil]; exact mv.tup fun a xs h => s811 _ _ h, rfl⟩
    · have e711 := s811 _ _ e7
      have ml := mv_len (cK f dy c zs G1) (cK f dy c zs G2) i
      refine ite_t (fun z => e (V.int.inj z)) ⟨.inl ⟨rfl, _, SqL.of e711⟩, fun pn H12 _ s12 e12 => ⟨lf, _, _, rfl, rfl, s12 _ _ e711, small1000 (show (as.map V.ref).length ≤ 1000 by rw [List.length_map, mv.1]; omega), ?_⟩⟩
      have off : ∀ a xs zs', H12 a = some (.tup xs) → upd H12 lf (.lst zs') a = some (.tup xs) := fun a xs zs' h => by
        rw [upd_ne (fun z => by rw [z, s12 _ _ e711] at h; cases h)]
        exact h
      rw [Int.zero_add] at e12
      rw [hPv]
      refine ⟨((s7.trans s811).trans s12).put hlf _, as ++ [pn], _, _, _, by rw [upd_same, List.map_append]; rfl, ?_, rfl⟩
      rw [mv_succ, if_pos e]
      exact (mv.tup fun a xs h => off _ _ _ ((s811.trans s12) _ _ h)).snoc (off _ _ _ e12)
  · rw [hPv] at h
    obtain ⟨s7, as, x5, x6, x7, e7, mv, rfl⟩ := h
    open_k0
    exact q lf as H7 s7 e7 mv
def spWhole : Sp := fun vs H Q _ => ∃ i : Int, vs = [.int i] ∧ Q (.bl true) H
theorem sc_xL_whole : FnScope ["_law_found"] ["_law_found"] (defScope s_xL_whole) := ⟨rfl, rfl, rfl, by decide +kernel, rfl, by decide +kernel, by decide +kernel⟩
theorem ok_xL_whole (T : Txt w K mg t) : FnOk P w K mg base (CXE P w) 1 t.a_xL_whole t.d_xL_whole ["_law_found"] (spWhole) := by
  refine T.fn_xL_whole.okX sc_xL_whole (fun vs H Q E h => ?_) (fun cdv A outer s H vs Q E L hr h => ?_)
  · obtain ⟨i, rfl, q⟩ := h
    rfl
  obtain ⟨i, rfl, q⟩ := h
  have nd := sc_xL_whole.nd
  refine ⟨_, (pss_one (ps_ret (pe_and (pe_callB call_isinst (by rfl) T.no_isinstance bb_isinstance (pa_cons (pv 0) (pa_cons (pe_ty (by rfl) T.no_int bb_int) pa_nil star_Name) star_Name)) (pe_one (pe_not (pe_callB call_isinst (by rfl) T.no_isinstance bb_isinstance (pa_cons (pv 0) (pa_cons (pe_ty (by rfl) T.no_bool bb_bool) pa_nil star_Name) star_Name))))))), ?_⟩
  open_k0
  refine ⟨_, .old (.int _), _, rfl, _, kit_int_int, ?_⟩
  rw [if_pos rfl]
  refine ⟨_, .old (.int _), _, rfl, _, kit_int_bool, ?_⟩
  exact q
def spAreRows (K : PySem.W.Frag) : Sp := fun vs H Q _ => ∃ (r : Addr) (as : List Addr) (rows : List (Int × Int × Int)), vs = [.ref r] ∧ H r = some (.lst (as.map V.ref)) ∧ MvAs H as rows ∧ ∀ H', Same H H' → Q (.bl true) H'
theorem sc_xL_are_rows : FnScope ["_law_rows", "_law_row"] ["_law_rows"] (defScope s_xL_are_rows) := ⟨rfl, rfl, rfl, by decide +kernel, rfl, by decide +kernel, by decide +kernel⟩
theorem ok_xL_are_rows (T : Txt w K mg t) : FnOk P w K mg base (CXE P w) 2 t.a_xL_are_rows t.d_xL_are_rows ["_law_rows"] (spAreRows K) := by
  refine T.fn_xL_are_rows.okX sc_xL_are_rows (fun vs H Q E h => ?_) (fun cdv A outer s H vs Q E L hr h => ?_)
  · obtain ⟨r, as, rows, rfl, er, mv, q⟩ := h
    rfl
  obtain ⟨r, as, rows, rfl, er, mv, q⟩ := h
  have nd := sc_xL_are_rows.nd
  refine ⟨_, (pss_cons (ps_if (pt_not (pt_val (pe_callB call_isinst (by rfl) T.no_isinstance bb_isinstance (pa_cons (pv 0) (pa_cons (pe_ty (by rfl) T.no_list bb_list) pa_nil star_Name) star_Name)))) (pss_one (ps_ret pe_bl)) pss_nil) (pss_cons (ps_for (by passes_own) rfl (pi_list (pv 0)) (pg_name (i := 1) nd rfl (Or.inl rfl)) (pss_one (ps_if (PW.pt (pw_or (pt_not (pt_val (pe_callB call_isinst (by rfl) T.no_isinstance bb_isinstance (pa_cons (pv 1) (pa_cons (pe_ty (by rfl) T.no_tuple bb_tuple) pa_nil star_Name) star_Name)))) (pw_or (pt_cmpR op_ne (pe_callB call_len_seq (by rfl) T.no_len bb_len (pa_cons (pv 1) pa_nil)) pe_int (nomark _)) (pw_or1 (pt_cmpR (op_neD hr) (pe_comp (n := 1) (N := ["_law_part"]) (js := []) (by rfl) rfl rfl (pi_tup (pv 1)) (fun a => (pg_name (i := 0) (show List.Nodup (["_law_part"] : List Str) from by decide +kernel) rfl (Or.inl rfl))) (fun a => (pif_one (pt_not (pt_val (pe_callX lv_no (ok_xL_whole T) (hr.mono (by decide)) (by rfl) T.mg_xL_whole T.fn_xL_whole.kp T.b_xL_whole .nil (pa_cons (pv 0) pa_nil)))))) (fun a => (pv 0))) (pe_lstS pa_nil) (nomark _)))))) (pss_one (ps_ret pe_bl)) pss_nil))) (pss_one (ps_ret pe_bl)))), ?_⟩
  open_k0
  refine ⟨_, .old (.lst er), _, rfl, _, kit_lst_lst, ite_f (by decide) ?_⟩
  ((try dsimp only); refine for_by fun R hR => ?_; simp only [tItems, tRev, tDNewS, tDIn, tDNotIn, sDPut, tDPop1, tDGet2, tDGet, tDc, tCallKX, kwG_one, tEither, tTupS, tLstS, comp_K, capσ, sub_nil, sub_none, sub_some, tYes, List.replicate, Option.join_some, Option.join_none, SL_inj, iStr, tPart, tNoPart, tSl, tLst, tTup, cx_K, slT, CDiv, Int.reduceLT, Int.reduceLE, Int.reduceToNat, Int.reduceNeg, Int.reduceAdd, Int.reduceSub, Int.reduceMul, forall_const, tSeq, tNext, tIfS, tRet, tRetN, tDrop, tAsg, gName, gCons, gNil, tVar, tC, tOp, rI, rI0, tUn, rU, tTest, tB, tAnd, tOr, tNot, tAndV, tOrV, tNotV, tIf, tCons, tNil, tCallX, tCallL, tCB, sRaise, rEq, rNe, scal_ii, scal_bb, scal_ss, scal_ni, scal_in, tChain, tAug, ipI, L2.start, List.map_cons, List.map_nil, List.length_cons, List.length_nil, List.cons_append, List.nil_append, List.append_nil, List.replicate_succ, List.replicate_zero, Nat.reduceAdd, Nat.reduceSub, List.getElem?_cons_zero, List.getElem?_cons_succ, List.set_cons_zero, List.set_cons_succ, Option.some.injEq, V.int.injEq, V.bl.injEq, V.ref.injEq, V.str.injEq, exists_eq_left', exists_eq_left, exists_eq', exists_and_left, List.cons.injEq, and_true, true_and, and_self, and_assoc, decide_eq_true_eq, if_true, if_false, Bool.true_eq_false, Bool.false_eq_true, Bool.not_eq_true', Bool.not_true, Bool.not_false, decide_eq_false_iff_not, ite_true, ite_false, reduceCtorEq, false_and, exists_false, false_or, or_false, and_false, iList, iTup, iZip, iEnum, iRng1, iRng2, Nat.reduceLeDiff])
  refine ⟨⟨_, SqL.of er⟩, hR _ _ ?_⟩
  clear hR
  obtain ⟨Pv, hPv⟩ : ∃ Pv : Nat → St → Hp → Prop, Pv = fun (i : Nat) σ1 H7 => Same H H7 ∧ ∃ x1 : Option V, σ1 = [some (.ref r), x1] := ⟨_, rfl⟩
  refine for_list (xs := as.map V.ref) Pv (by rw [hPv]; exact ⟨Same.refl _, _, rfl⟩) (fun _ _ _ _ h => by rw [hPv] at h; exact SqL.of (h.1 _ _ er)) (fun i x σ1 H7 hxx h => ?_) (fun σ1 H7 h => ?_)
  · rw [hPv] at h
    obtain ⟨s7, x1, rfl⟩ := h
    rw [List.getElem?_map] at hxx
    obtain ⟨u, hu, rfl⟩ := Option.map_eq_some_iff.mp hxx
    have hi := (List.getElem?_eq_some_iff.mp hu).1
    have hrow := List.getElem?_eq_getElem (l := rows) (i := i) (by rw [← mv.1]; exact hi)
    have e := s7 _ _ (mv.2 i u _ hu hrow)
    open_k0
    refine ⟨_, .old (.tup e), _, rfl, _, kit_tup_tup, ite_f (by decide) ⟨_, .inr (SqT.of e), ite_f (fun z => z rfl) ?_⟩⟩
    simp only [tItems, tRev, tDNewS, tDIn, tDNotIn, sDPut, tDPop1, tDGet2, tDGet, tDc, tCallKX, kwG_one, tEither, tTupS, tLstS, comp_K, capσ, sub_nil, sub_none, sub_some, tYes, List.replicate, Option.join_some, Option.join_none, SL_inj, iStr, tPart, tNoPart, tSl, tLst, tTup, cx_K, slT, CDiv, Int.reduceLT, Int.reduceLE, Int.reduceToNat, Int.reduceNeg, Int.reduceAdd, Int.reduceSub, Int.reduceMul, forall_const, tSeq, tNext, tIfS, tRet, tRetN, tDrop, tAsg, gName, gCons, gNil, tVar, tC, tOp, rI, rI0, tUn, rU, tTest, tB, tAnd, tOr, tNot, tAndV, tOrV, tNotV, tIf, tCons, tNil, tCallX, tCallL, tCB, sRaise, rEq, rNe, scal_ii, scal_bb, scal_ss, scal_ni, scal_in, tChain, tAug, ipI, L2.start, List.map_cons, List.map_nil, List.length_cons, List.length_nil, List.cons_append, List.nil_append, List.append_nil, List.replicate_succ, List.replicate_zero, Nat.reduceAdd, Nat.reduceSub, List.getElem?_cons_zero, List.getElem?_cons_succ, List.set_cons_zero, List.set_cons_succ, Option.some.injEq, V.int.injEq, V.bl.injEq, V.ref.injEq, V.str.injEq, exists_eq_left', exists_eq_left, exists_eq', exists_and_left, List.cons.injEq, and_true, true_and, and_self, and_assoc, decide_eq_true_eq, if_true, if_false, Bool.true_eq_false, Bool.false_eq_true, Bool.not_eq_true', Bool.not_true, Bool.not_false, decide_eq_false_iff_not, ite_true, ite_false, reduceCtorEq, false_and, exists_false, false_or, or_false, and_false, tComp, iTup, Nat.reduceLeDiff]
    refine ⟨⟨_, SqT.of e⟩, fun lc hlc aa => ?_⟩
    refine comp_by (fun j xs _ => xs = []) (lists_tup (SqT.of e)) hlc (small_len (by show 3 ≤ 1000; decide)) (fun _ _ => rfl) (fun j y xs H8 K1 K0 hy sm pv hl k1 k0 => ?_) (fun xs H8 s8 pv _ w8 => ?_)
    · obtain ⟨v, rfl⟩ : ∃ v, y = .int v := by
        have := List.mem_of_getElem? hy
        simp only [List.mem_cons, List.not_mem_nil, or_false] at this
        rcases this with rfl | rfl | rfl
        · exact ⟨_, rfl⟩
        · exact ⟨_, rfl⟩
        · exact ⟨_, rfl⟩
      lge_open0
      exact ⟨v, rfl, _, rfl, ite_f (by decide) (k0 _ (Same.refl _) pv)⟩
    subst pv
    intro l9 H9 _ s9 e9
    refine neD (n := 0) (d := .lst []) (Dp_lst (SqL.of (s9 _ _ w8)) trivial) (Dp_lst (SqL.of e9) trivial) rfl (by decide) ⟨_, rfl, ite_f (by decide) ?_⟩
    rw [hPv]
    exact ⟨(s7.trans s8).trans s9, _, rfl⟩
  · rw [hPv] at h
    obtain ⟨s7, x1, rfl⟩ := h
    open_k0
    exact q H7 s7
def spTold (K : PySem.W.Frag) : Sp := fun vs H Q _ => ∃ (pa le la : Addr) (f : Int) (dy : Bool) (c : Int) (zs : List (V × Pl)) (ys : List En) (G1 G2 : Int → List D) (one other : Int), vs = [.ref pa, .ref le, .int one, .int other] ∧ AccZ K H pa la f dy c zs ∧ SqL K H le (ys.map (·.1)) ∧ EnX zs f (Cal.beg f dy c 60) K H ys ∧ GL f dy c ys one G1 ∧ GL f dy c ys other G2 ∧
  (∀ k : Nat, k < 60 → Cal.beg f dy c k ≤ one → one < Cal.beg f dy c ((k : Int) + 1) → one ≤ other → other < Cal.beg f dy c 60 → ∀ p r m as H', H r = none → Same H H' → H' p = some (.tup [.ref r, .ref m]) → H' m = some (.lst []) → H' r = some (.lst (as.map V.ref)) → MvAs H' as (mvF (cK f dy c zs G1) (cK f dy c zs G2) (k + 1)) → Q (.ref p) H') ∧
  ((one < f ∨ (f ≤ one ∧ one < Cal.beg f dy c 60 ∧ (other < f ∨ (other < one ∧ other < Cal.beg f dy c 60)))) → ∀ p m H', Same H H' → H' p = some (.tup [.non, .ref m]) → H' m = some (.lst [.bl true, .bl false]) → Q (.ref p) H') ∧ ((Cal.beg f dy c 60 ≤ one ∨ (f ≤ one ∧ one < Cal.beg f dy c 60 ∧ Cal.beg f dy c 60 ≤ other)) → ∀ p m H', Same H H' → H' p = some (.tup [.non, .ref m]) → H' m = some (.lst [.bl false, .bl true]) → Q (.ref p) H')
theorem sc_xL_told : FnScope ["_law_account_here", "_law_entries_here", "_law_one", "_law_other", "_law_found", "_law_marks", "e"] ["_law_account_here", "_law_entries_here", "_law_one", "_law_other"] (defScope s_xL_told) := ⟨rfl, rfl, rfl, by decide +kernel, rfl, by decide +kernel, by decide +kernel⟩
theorem ok_xL_told (T : Txt w K mg t) : FnOk P w K mg base (CXE P w) 12 t.a_xL_told t.d_xL_told ["_law_account_here", "_law_entries_here", "_law_one", "_law_other"] (spTold K) := by
  refine T.fn_xL_told.okX sc_xL_told (fun vs H Q E h => ?_) (fun cdv A outer s H vs Q E L hr h => ?_)
  · obtain ⟨pa, le, la, f, dy, c, zs, ys, G1, G2, one, other, rfl, hz, hS, hY, hG1, hG2, q1, q2, q3⟩ := h
    rfl
  obtain ⟨pa, le, la, f, dy, c, zs, ys, G1, G2, one, other, rfl, hz, hS, hY, hG1, hG2, q1, q2, q3⟩ := h
  have nd := sc_xL_told.nd
  refine ⟨_, (pss_cons (ps_set (i := 4) nd rfl (Or.inl rfl) pe_non) (pss_cons (ps_set (i := 5) nd rfl (Or.inl rfl) (pe_lstS pa_nil)) (pss_cons (ps_cut (ps_try ⟨rfl, rfl, rfl⟩ (fun Ek pn xe L => (pss_one (ps_set (i := 4) nd rfl (Or.inl rfl) (pe_callX L (ok_moved T) (hr.mono (by decide)) (by rfl) T.mg_moved T.fn_moved.kp T.b_moved .nil (pa_cons (pv 0) (pa_cons (pv 1) (pa_cons (pv 2) (pa_cons (pv 3) pa_nil star_Name) star_Name) star_Name) star_Name))))) (fun ea => (pss_one (ps_set (i := 5) nd rfl (Or.inl rfl) (pe_lstS (pa_cons (pe_callB (call_isinstK (K := K) rfl) (by rfl) T.no_isinstance bb_isinstance (pa_cons (pv 6) (pa_cons (pe_ref (by rfl) T.mg_NoSpan) pa_nil star_Name) star_Name)) (pa_cons (pe_callB (call_isinstK (K := K) rfl) (by rfl) T.no_isinstance bb_isinstance (pa_cons (pv 6) (pa_cons (pe_ref (by rfl) T.mg_TooLong) pa_nil star_Name) star_Name)) pa_nil star_Call) star_Call))))) (by rfl) T.mg_SpanError nd (i := 6) (by rfl) (by rfl))) (pss_one (ps_ret (pe_tupS (pa_cons (pv 4) (pa_cons (pv 5) pa_nil star_Name) star_Name))))))), ?_⟩
  open_k0
  intro lm H0 _ s0 e0
  obtain ⟨R, hR⟩ : ∃ R : St → Hp → Prop, R = fun σ' H' => ∃ (v : V) (m : Addr) (x6 : Option V), (∀ p H2, Same H' H2 → H2 p = some (.tup [v, .ref m]) → Q (.ref p) H2) ∧ σ' = [some (.ref pa), some (.ref le), some (.int one), some (.int other), some v, some (.ref m), x6] := ⟨_, rfl⟩
  refine ⟨R, ?_, fun σ2 H2 h2 => ?_⟩
  · simp only [tItems, tRev, tDNewS, tDIn, tDNotIn, sDPut, tDPop1, tDGet2, tDGet, tDc, tCallKX, kwG_one, tEither, tTupS, tLstS, comp_K, capσ, sub_nil, sub_none, sub_some, tYes, List.replicate, Option.join_some, Option.join_none, SL_inj, iStr, tPart, tNoPart, tSl, tLst, tTup, cx_K, slT, CDiv, Int.reduceLT, Int.reduceLE, Int.reduceToNat, Int.reduceNeg, Int.reduceAdd, Int.reduceSub, Int.reduceMul, forall_const, tSeq, tNext, tIfS, tRet, tRetN, tDrop, tAsg, gName, gCons, gNil, tVar, tC, tOp, rI, rI0, tUn, rU, tTest, tB, tAnd, tOr, tNot, tAndV, tOrV, tNotV, tIf, tCons, tNil, tCallX, tCallL, tCB, sRaise, rEq, rNe, scal_ii, scal_bb, scal_ss, scal_ni, scal_in, tChain, tAug, ipI, L2.start, List.map_cons, List.map_nil, List.length_cons, List.length_nil, List.cons_append, List.nil_append, List.append_nil, List.replicate_succ, List.replicate_zero, Nat.reduceAdd, Nat.reduceSub, List.getElem?_cons_zero, List.getElem?_cons_succ, List.set_cons_zero, List.set_cons_succ, Option.some.injEq, V.int.injEq, V.bl.injEq, V.ref.injEq, V.str.injEq, exists_eq_left', exists_eq_left, exists_eq', exists_and_left, List.cons.injEq, and_true, true_and, and_self, and_assoc, decide_eq_true_eq, if_true, if_false, Bool.true_eq_false, Bool.false_eq_true, Bool.not_eq_true', Bool.not_true, Bool.not_false, decide_eq_false_iff_not, ite_true, ite_false, reduceCtorEq, false_and, exists_false, false_or, or_false, and_false, Nat.reduceLeDiff, sTry]
    refine ⟨pa, le, la, f, dy, c, zs, ys, G1, G2, one, other, rfl, hz.same s0, s0.seq hS, hY.same s0, hG1, hG2, fun k k0 a1 a2 h1 h2 r as H1 nr s1 e1 mv => ?_, fun hh H1 s1 => ⟨exm_ref T.cl_SpanError T.m_SpanError_BaseException T.m_NoSpan_SpanError, fun ea hea => ?_⟩, fun hh H1 s1 => ⟨exm_ref T.cl_SpanError T.m_SpanError_BaseException T.m_TooLong_SpanError, fun ea hea => ?_⟩⟩
    · rw [hR]
      exact ⟨_, _, _, fun p H2 s2 e2 => q1 k k0 a1 a2 h1 h2 p r lm as H2 (s0.none nr) ((s0.trans s1).trans s2) e2 ((s1.trans s2) _ _ e0) (s2 _ _ e1) (mv.tup fun a xs h => s2 _ _ h), rfl⟩
    · refine ⟨_, .exc upd_same T.xc_NoSpan, _, rfl, _, kit_ref T.cl_NoSpan T.m_NoSpan_NoSpan, _, .exc upd_same T.xc_NoSpan, _, rfl, _, kit_ref T.cl_TooLong T.m_NoSpan_TooLong, fun r H2 _ s2 e2 => ?_⟩
      rw [hR]
      exact ⟨_, _, _, fun p H3 s3 e3 => q2 hh p r H3 ((((s0.trans s1).trans (same_new hea _)).trans s2).trans s3) e3 (s3 _ _ e2), rfl⟩
    · refine ⟨_, .exc upd_same T.xc_TooLong, _, rfl, _, kit_ref T.cl_NoSpan T.m_TooLong_NoSpan, _, .exc upd_same T.xc_TooLong, _, rfl, _, kit_ref T.cl_TooLong T.m_TooLong_TooLong, fun r H2 _ s2 e2 => ?_⟩
      rw [hR]
      exact ⟨_, _, _, fun p H3 s3 e3 => q3 hh p r H3 ((((s0.trans s1).trans (same_new hea _)).trans s2).trans s3) e3 (s3 _ _ e2), rfl⟩
  rw [hR] at h2
  obtain ⟨v, m, x6, hq, rfl⟩ := h2
  open_k0
  exact fun p H3 _ s3 e3 => hq p H3 s3 e3
def spPair (K : PySem.W.Frag) : Sp := fun vs H Q _ => ∃ (a pa le la : Addr) (ns : List Int) (f : Int) (dy : Bool) (c : Int) (zs : List (V × Pl)) (ys : List En) (k : Int), vs = [.ref a, .ref pa, .ref le, .int k] ∧ SqL K H a (ns.map V.int) ∧ ns.length ≤ 63 ∧ 0 ≤ k ∧ k ≤ 2 ∧ AccZ K H pa la f dy c zs ∧ H le = some (.lst (ys.map (·.1))) ∧ EnsAt K H ys ∧ (∀ z ∈ ys, f ≤ z.2.2.1 ∧ z.2.2.1 < Cal.beg f dy c 60) ∧ ∀ r (d0 d1 : Int) H', Same H H' → H' r = some (.lst [.int d0, .int d1]) → f ≤ d0 → d0 < Cal.beg f dy c 60 → f ≤ d1 → d1 < Cal.beg f dy c 60 → Q (.ref r) H'
theorem sc_xL_pair : FnScope ["_law_script", "_law_account_here", "_law_entries_here", "_law_k", "_law_m", "_law_wide", "_law_days"] ["_law_script", "_law_account_here", "_law_entries_here", "_law_k"] (defScope s_xL_pair) := ⟨rfl, rfl, rfl, by decide +kernel, rfl, by decide +kernel, by decide +kernel⟩
theorem ok_xL_pair (T : Txt w K mg t) : FnOk P w K mg base (CXE P w) 6 t.a_xL_pair t.d_xL_pair ["_law_script", "_law_account_here", "_law_entries_here", "_law_k"] (spPair K) := by
  refine T.fn_xL_pair.okX sc_xL_pair (fun vs H Q E h => ?_) (fun cdv A outer s H vs Q E L hr h => ?_)
  · obtain ⟨a, pa, le, la, ns, f, dy, c, zs, ys, k, rfl, hS, h63, k0, k1, hz, el, hE, yb, q⟩ := h
    rfl
  obtain ⟨a, pa, le, la, ns, f, dy, c, zs, ys, k, rfl, hS, h63, k0, k1, hz, el, hE, yb, q⟩ := h
  have nd := sc_xL_pair.nd
  refine ⟨_, (pss_cons (ps_set (i := 4) nd rfl (Or.inl rfl) (pe_callX L.toLv (ok_xL_mixed T) (hr.mono (by decide)) (by rfl) T.mg_xL_mixed T.fn_xL_mixed.kp T.b_xL_mixed .nil (pa_cons (pe_callX L.toLv (ok_xL_cell_at T) (hr.mono (by decide)) (by rfl) T.mg_xL_cell_at T.fn_xL_cell_at.kp T.b_xL_cell_at .nil (pa_cons (pv 0) (pa_cons (pe_op op_add pe_int (pv 3)) pa_nil star_BinOp) star_Name)) (pa_cons (pv 3) pa_nil star_Name) star_Call))) (pss_cons (ps_set (i := 5) nd rfl (Or.inl rfl) (pe_op op_sub (pe_callX L.toLv (ok_begin_of T) (hr.mono (by decide)) (by rfl) T.mg_begin_of T.fn_begin_of.kp T.b_begin_of .nil (pa_cons (pe_ix ix_tup (pv 1) pe_int (fun _ _ => rfl)) (pa_cons (pe_ix ix_tup (pv 1) pe_int (fun _ _ => rfl)) (pa_cons pe_int pa_nil star_Constant) star_Subscript) star_Subscript)) (pe_ix ix_tup (pv 1) pe_int (fun _ _ => rfl)))) (pss_cons (ps_set (i := 6) nd rfl (Or.inl rfl) (pe_lstS (pa_cons (pe_op op_add (pe_ix ix_tup (pv 1) pe_int (fun _ _ => rfl)) (pe_op op_mod (pe_op op_fdiv (pv 4) pe_int) (pv 5))) (pa_cons (pe_op op_add (pe_ix ix_tup (pv 1) pe_int (fun _ _ => rfl)) (pe_op op_mod (pe_op op_mul (pe_op op_fdiv (pv 4) pe_int) pe_int) (pv 5))) pa_nil star_BinOp) star_BinOp))) (pss_cons (ps_cut (ps_if (pw_and (pt_cmpR (op_neD hr) (pv 2) (pe_lstS pa_nil) (nomark _)) (pw_and1 (pt_cmpR op_gt (pe_op op_mod (pv 4) pe_int) pe_int (nomark _)))).pt (pss_cons (ps_asg (pe_callB (call_max2 (by rfl)) (by rfl) T.no_max bb_max (pa_cons (pe_ix ix_tup (pv 1) pe_int (fun _ _ => rfl)) (pa_cons (pe_op op_sub (pe_ix ix_tup (pe_ix ix_list (pv 2) (pe_op op_mod (pe_op op_fdiv (pv 4) pe_int) (pe_callB call_len_seq (by rfl) T.no_len bb_len (pa_cons (pv 2) pa_nil))) (fun _ _ => rfl)) pe_int (fun _ _ => rfl)) (pe_op op_mod (pe_op op_fdiv (pv 4) pe_int) pe_int)) pa_nil star_BinOp) star_Subscript)) (pg_sub (pv 6) pe_int set_list)) (pss_one (ps_asg (pe_ix ix_tup (pe_ix ix_list (pv 2) (pe_op op_mod (pe_op op_fdiv (pv 4) pe_int) (pe_callB call_len_seq (by rfl) T.no_len bb_len (pa_cons (pv 2) pa_nil))) (fun _ _ => rfl)) pe_int (fun _ _ => rfl)) (pg_sub (pv 6) pe_int set_list)))) pss_nil)) (pss_one (ps_ret (pv 6))))))), ?_⟩
  obtain ⟨pc, f0, f1, hc, ep⟩ := id hz.1
  have b0 : Cal.beg f dy c 0 = f := Cal.beg_zero f0 f1
  have hT := SqT.of (K := K) ep
  open_k0
  refine ⟨a, ns, _, rfl, hS, h63, by omega, _, _, rfl, by omega, by omega, fun m m0 m1 => ?_⟩
  refine ixT hT (at_1 _ _ _) (ixT hT (at_2 _ _ _ _) ⟨f, pc, dy, c, 9, rfl, f0, f1, hc, fun _ _ H1 s1 => ixT (s1.sqT hT) (at_1 _ _ _) ⟨_, rfl, _, rfl, ?_⟩, fun z => absurd z (by decide), fun z => absurd z (by decide)⟩)
  have g1 := Cal.beg_lt (k := 0) (j := 9) f0 f1 hc.2 (by decide) (by decide) (by decide)
  have g2 := Cal.beg_le (k := 9) (j := 60) f0 f1 hc.2 (by decide) (by decide) (by decide)
  rw [b0] at g1
  have wa : 0 < Cal.beg f dy c 9 - f ∧ f + (Cal.beg f dy c 9 - f) ≤ Cal.beg f dy c 60 := by omega
  generalize Cal.beg f dy c 9 - f = wide at wa ⊢
  have hT1 := s1.sqT hT
  refine ixT hT1 (at_1 _ _ _) ⟨_, rfl, wa.1, _, rfl, ixT hT1 (at_1 _ _ _) ⟨_, rfl, .inl ⟨by omega, by omega⟩, wa.1, _, rfl, fun ld H2 hld s2 e2 => ?_⟩⟩
  have u0 := Int.emod_nonneg (m / 4) (show wide ≠ 0 by omega)
  have u1 := Int.emod_lt_of_pos (m / 4) wa.1
  have v0 := Int.emod_nonneg (m / 4 * 7919) (show wide ≠ 0 by omega)
  have v1 := Int.emod_lt_of_pos (m / 4 * 7919) wa.1
  have s12 := s1.trans s2
  have nld : H ld = none := s1.none hld
  obtain ⟨R, hR⟩ : ∃ R : St → Hp → Prop, R = fun σ' H' => Same H H' ∧ ∃ d0 d1 : Int, H' ld = some (.lst [.int d0, .int d1]) ∧ (f ≤ d0 ∧ d0 < Cal.beg f dy c 60 ∧ f ≤ d1 ∧ d1 < Cal.beg f dy c 60) ∧ σ' = [some (.ref a), some (.ref pa), some (.ref le), some (.int k), some (.int m), some (.int wide), some (.ref ld)] := ⟨_, rfl⟩
  refine ⟨R, ?_, fun σ3 H3 h3 => ?_⟩
  · have no : ∀ H', Same H2 H' → R [some (.ref a), some (.ref pa), some (.ref le), some (.int k), some (.int m), some (.int wide), some (.ref ld)] H' := fun H' s' => by
      rw [hR]
      exact ⟨s12.trans s', _, _, s' _ _ e2, ⟨by omega, by omega, by omega, by omega⟩, rfl⟩
    open_k0
    intro pe H3 _ s3 e3
    have s13 := s12.trans s3
    have hE3 := hE.same s13
    have el3 := s13 _ _ el
    have e23 := s3 _ _ e2
    refine ⟨2, .lst (ys.map enD), .lst [], Dp_lst (SqL.of el3) hE3.all2, Dp_lst (SqL.of e3) trivial, rfl, rfl, by decide, (fun j x y _ h => by rw [List.getElem?_nil] at h; cases h), ?_⟩
    cases hys : ys with
    | nil => exact ⟨_, rfl, ite_f (by decide) (no _ s3)⟩
    | cons y0 yr =>
      refine ⟨_, rfl, ite_t rfl (ite_of (fun _ => ?_) (fun _ => no _ s3))⟩
      have pick : ∀ x : Int, ∃ z, z ∈ ys ∧ 0 < ((ys.map (·.1)).length : Int) ∧ atI (ys.map (·.1)) (x % ((ys.map (·.1)).length : Int)) = some z.1 := fun x => by
        have l0 : 0 < ((ys.map (·.1)).length : Int) := by rw [List.length_map, hys, List.length_cons]; omega
        have ab := Int.emod_nonneg x (show ((ys.map (·.1)).length : Int) ≠ 0 by omega)
        have ac := Int.emod_lt_of_pos x l0
        obtain ⟨j, hj⟩ := Int.eq_ofNat_of_zero_le ab
        rw [hj] at ac ⊢
        rw [List.length_map] at ac
        exact ⟨ys[j]'(by omega), List.getElem_mem _, l0, atI_nat (by rw [List.getElem?_map, List.getElem?_eq_getElem (by omega)]; rfl)⟩
      obtain ⟨za, za1, za2, za3⟩ := pick (m / 4)
      obtain ⟨zb, zb1, zb2, zb3⟩ := pick (m / 64)
      obtain ⟨qa, ea, ha, _⟩ := hE3 za za1
      have ya := yb za za1
      have yb' := yb zb zb1
      refine ixT (s13.sqT hT) (at_1 _ _ _) ⟨_, .inl (SqL.of el3), za2, ixL (SqL.of el3) za3 ?_⟩
      rw [ea]
      refine ixT ha (at_0 _ _) ⟨_, rfl, _, rfl, ?_⟩
      simp only [tItems, tRev, tDNewS, tDIn, tDNotIn, sDPut, tDPop1, tDGet2, tDGet, tDc, tCallKX, kwG_one, tEither, tTupS, tLstS, comp_K, capσ, sub_nil, sub_none, sub_some, tYes, List.replicate, Option.join_some, Option.join_none, SL_inj, iStr, tPart, tNoPart, tSl, tLst, tTup, cx_K, slT, CDiv, Int.reduceLT, Int.reduceLE, Int.reduceToNat, Int.reduceNeg, Int.reduceAdd, Int.reduceSub, Int.reduceMul, forall_const, tSeq, tNext, tIfS, tRet, tRetN, tDrop, tAsg, gName, gCons, gNil, tVar, tC, tOp, rI, rI0, tUn, rU, tTest, tB, tAnd, tOr, tNot, tAndV, tOrV, tNotV, tIf, tCons, tNil, tCallX, tCallL, tCB, sRaise, rEq, rNe, scal_ii, scal_bb, scal_ss, scal_ni, scal_in, tChain, tAug, ipI, L2.start, List.map_cons, List.map_nil, List.length_cons, List.length_nil, List.cons_append, List.nil_append, List.append_nil, List.replicate_succ, List.replicate_zero, Nat.reduceAdd, Nat.reduceSub, List.getElem?_cons_zero, List.getElem?_cons_succ, List.set_cons_zero, List.set_cons_succ, Option.some.injEq, V.int.injEq, V.bl.injEq, V.ref.injEq, V.str.injEq, exists_eq_left', exists_eq_left, exists_eq', exists_and_left, List.cons.injEq, and_true, true_and, and_self, and_assoc, decide_eq_true_eq, if_true, if_false, Bool.true_eq_false, Bool.false_eq_true, Bool.not_eq_true', Bool.not_true, Bool.not_false, decide_eq_false_iff_not, ite_true, ite_false, reduceCtorEq, false_and, exists_false, false_or, or_false, and_false, gSub, Nat.reduceLeDiff]
      refine ⟨ld, _, 0, 0, rfl, rfl, e23, rfl, ?_⟩
      have dm : f ≤ (if za.2.2.1 - m / 4 % 2 > f then za.2.2.1 - m / 4 % 2 else f) ∧ (if za.2.2.1 - m / 4 % 2 > f then za.2.2.1 - m / 4 % 2 else f) < Cal.beg f dy c 60 := by split <;> omega
      generalize (if za.2.2.1 - m / 4 % 2 > f then za.2.2.1 - m / 4 % 2 else f) = dx at dm ⊢
      obtain ⟨H4, hH4⟩ : ∃ H4, H4 = upd H3 ld (.lst (([V.int (f + m / 4 % wide), V.int (f + m / 4 * 7919 % wide)] : List V).set 0 (.int dx))) := ⟨_, rfl⟩
      rw [← hH4]
      have s14 : Same H H4 := by rw [hH4]; exact s13.put nld _
      have e4 : H4 ld = some (.lst [.int dx, .int (f + m / 4 * 7919 % wide)]) := by rw [hH4, upd_same]; rfl
      clear hH4
      have el4 := s14 _ _ el
      obtain ⟨qb, eb, hb, _⟩ := (hE.same s14) zb zb1
      refine ⟨_, .inl (SqL.of el4), zb2, ixL (SqL.of el4) zb3 ?_⟩
      rw [eb]
      refine ixT hb (at_0 _ _) ⟨ld, _, 1, 1, rfl, rfl, e4, rfl, ?_⟩
      rw [hR]
      exact ⟨s14.put nld _, dx, zb.2.2.1, upd_same, ⟨dm.1, dm.2, yb'.1, yb'.2⟩, rfl⟩
  rw [hR] at h3
  obtain ⟨s3, d0, d1, e3, ⟨b1, b2, b3, b4⟩, rfl⟩ := h3
  open_k0
  exact q ld d0 d1 H3 s3 e3 b1 b2 b3 b4
theorem gl_ex {K : PySem.W.Frag} {H : Hp} {f : Int} {dy : Bool} {c : Int} {zs : List (V × Pl)} {ys : List En} (mo : Int) (f0 : 0 ≤ f) (f1 : f ≤ 3500000) (hc : Cal.CycOk dy c) (hY : EnX zs f (Cal.beg f dy c 60) K H ys) : ∃ G, GL f dy c ys mo G := by
  have b6 := Cal.beg_range (k := 60) f0 f1 hc (by decide) (by decide)
  obtain ⟨kn, ki⟩ := known_in (mo := mo) hY.2.2.1 hY.2.2.2.1
  have inj : ∀ t ∈ (knownL ys mo).map (rtK f dy c ys), ∀ u ∈ (knownL ys mo).map (rtK f dy c ys), t.2.2.1 = u.2.2.1 → t = u := fun t ht u hu e => by
    obtain ⟨k, hk, rfl⟩ := List.mem_map.mp ht
    obtain ⟨j, hj, rfl⟩ := List.mem_map.mp hu
    obtain ⟨z, k0, e1, tm⟩ := ki k hk
    obtain ⟨z', j0, e2, tm'⟩ := ki j hj
    have kl := (List.getElem?_eq_some_iff.mp e1).1
    have jl := (List.getElem?_eq_some_iff.mp e2).1
    have l40 := hY.2.1
    have g1 : ys.getD k.toNat (.non, 0, 0, .back) = z := by rw [List.getD_eq_getElem?_getD, e1]; rfl
    have g2 : ys.getD j.toNat (.non, 0, 0, .back) = z' := by rw [List.getD_eq_getElem?_getD, e2]; rfl
    have t1 := hY.2.2.2.2.1 z (List.mem_of_getElem? e1) tm
    have t2 := hY.2.2.2.2.1 z' (List.mem_of_getElem? e2) tm'
    have e' : (cntF f dy c z.2.2.2 * 4000000 + chDay z.2.2.2) * 64 + k = (cntF f dy c z'.2.2.2 * 4000000 + chDay z'.2.2.2) * 64 + j := by
      have e0 : (cntF f dy c (ys.getD k.toNat (.non, 0, 0, .back)).2.2.2 * 4000000 + chDay (ys.getD k.toNat (.non, 0, 0, .back)).2.2.2) * 64 + k = (cntF f dy c (ys.getD j.toNat (.non, 0, 0, .back)).2.2.2 * 4000000 + chDay (ys.getD j.toNat (.non, 0, 0, .back)).2.2.2) * 64 + j := e
      rw [g1, g2] at e0
      exact e0
    have : k = j := by omega
    rw [this]
  have h : ∀ d, ∃ x : List D, ∀ ts : List Tm, ts.map (rtT f dy c) = (knownL ys mo).map (rtK f dy c ys) → ∀ ts', (∀ t, t ∈ ts' ↔ t ∈ ts) → ∀ o0 o1 o2, StOk f dy c ts' d o0 o1 o2 → stT o0 o1 o2 = x := fun d => by
    have mm : ∀ {ts ts' : List Tm}, ts.map (rtT f dy c) = (knownL ys mo).map (rtK f dy c ys) → (∀ t, t ∈ ts' ↔ t ∈ ts) → ∀ t, t ∈ ts'.map (rtT f dy c) ↔ t ∈ (knownL ys mo).map (rtK f dy c ys) := fun er m t => by
      rw [← er]
      constructor
      · intro h
        obtain ⟨x, hx, rfl⟩ := List.mem_map.mp h
        exact List.mem_map.mpr ⟨x, (m x).mp hx, rfl⟩
      · intro h
        obtain ⟨x, hx, rfl⟩ := List.mem_map.mp h
        exact List.mem_map.mpr ⟨x, (m x).mpr hx, rfl⟩
    by_cases z : ∃ o0 o1 o2, Bst ((knownL ys mo).map (rtK f dy c ys)) d 0 o0 ∧ Bst ((knownL ys mo).map (rtK f dy c ys)) d 1 o1 ∧ Bst ((knownL ys mo).map (rtK f dy c ys)) d 2 o2
    · obtain ⟨p0, p1, p2, h0, h1, h2⟩ := z
      refine ⟨stT p0 p1 p2, fun ts er ts' m o0 o1 o2 h => ?_⟩
      obtain rfl := Bst.one inj (mm er m) h0 h.1
      obtain rfl := Bst.one inj (mm er m) h1 h.2.1
      obtain rfl := Bst.one inj (mm er m) h2 h.2.2
      rfl
    · exact ⟨[], fun ts er ts' m o0 o1 o2 h => absurd ⟨o0, o1, o2, h.1.mem fun t => (mm er m t).symm, h.2.1.mem fun t => (mm er m t).symm, h.2.2.mem fun t => (mm er m t).symm⟩ z⟩
  exact ⟨fun d => (h d).choose, fun ts er ts' m d o0 o1 o2 hs => (h d).choose_spec ts er ts' m o0 o1 o2 hs⟩
theorem dp_no {K : PySem.W.Frag} {H : Hp} {p m : Addr} {x y : Bool} (e : H p = some (.tup [.non, .ref m])) (em : H m = some (.lst [.bl x, .bl y])) : Dp K H 2 (.tup [.non, .lst [.bl x, .bl y]]) (.ref p) := by
  have b : ∀ z : Bool, Dp K H 0 (.bl z) (.bl z) := fun z => by unfold Dp; rfl
  exact Dp_tup (SqT.of e) ⟨Dp_non, Dp_lst (SqL.of em) ⟨b _, b _, trivial⟩, trivial⟩
theorem EnsOk.undo' {nms : List (List Nat)} {f e : Int} {zs : List En} (h : EnsOk nms f e zs) : UndoOk (chs zs) := fun i k hi => by
  unfold chs at hi
  rw [List.getElem?_map] at hi
  obtain ⟨z, hz, e⟩ := Option.map_eq_some_iff.mp hi
  have := (h i z hz).2.2.2
  rw [e, chs_take] at this
  exact this
def spLaw (K : PySem.W.Frag) : Sp := fun vs H Q _ => ∃ (a : Addr) (ns : List Int), vs = [.ref a] ∧ SqL K H a (ns.map V.int) ∧ ns.length ≤ 63 ∧ ∀ H', Q (.bl true) H'
theorem sc_law : FnScope ["_law_script", "_law_account_here", "_law_end", "_law_entries_here", "_law_kept", "_law_k", "_law_one", "_law_other", "_law_found", "_law_marks", "_law_rows", "_law_first", "_law_far", "_law_cases", "_law_due_here"] ["_law_script"] (defScope s_law) := ⟨rfl, rfl, rfl, by decide +kernel, rfl, by decide +kernel, by decide +kernel⟩
theorem ok_law (T : Txt w K mg t) : FnOk P w K mg base (CXE P w) 13 t.a_law t.d_law ["_law_script"] (spLaw K) := by
  refine T.fn_law.okX sc_law (fun vs H Q E h => ?_) (fun cdv A outer s H vs Q E L hr h => ?_)
  · obtain ⟨a, ns, rfl, hS, h63, q⟩ := h
    rfl
  obtain ⟨a, ns, rfl, hS, h63, q⟩ := h
  have nd := sc_law.nd
  refine ⟨_, (pss_cons (ps_set (i := 1) nd rfl (Or.inl rfl) (pe_callX L.toLv (ok_xL_account T) (hr.mono (by decide)) (by rfl) T.mg_xL_account T.fn_xL_account.kp T.b_xL_account .nil (pa_cons (pv 0) pa_nil))) (pss_cons (ps_set (i := 2) nd rfl (Or.inr rfl) (pe_callX L.toLv (ok_begin_of T) (hr.mono (by decide)) (by rfl) T.mg_begin_of T.fn_begin_of.kp T.b_begin_of .nil (pa_cons (pe_ix ix_tup (pv 1) pe_int (fun _ _ => rfl)) (pa_cons (pe_ix ix_tup (pv 1) pe_int (fun _ _ => rfl)) (pa_cons pe_int pa_nil star_Constant) star_Subscript) star_Subscript))) (pss_cons (ps_setC (i := 3) nd rfl rfl (n := 1) (N := ["_law_entry", "_law_end"]) (js := [2]) (by rfl) rfl rfl (pi_list (pe_callX L.toLv (ok_xL_entries T) (hr.mono (by decide)) (by rfl) T.mg_xL_entries T.fn_xL_entries.kp T.b_xL_entries .nil (pa_cons (pv 0) (pa_cons (pv 1) (pa_cons pe_int pa_nil star_Constant) star_Name) star_Name))) (fun a => (pg_name (i := 0) (show List.Nodup (["_law_entry", "_law_end"] : List Str) from by decide +kernel) rfl (Or.inl rfl))) (fun a => (pif_one (pt_cmpR op_lt (pe_ix ix_seq (pv 0) pe_int (fun _ _ => rfl)) (pv 1) (nomark _)))) (fun a => (pv 0))) (pss_cons (ps_set (i := 4) nd rfl (Or.inl rfl) (pe_callTy call_list_ofS (by rfl) T.no_list bb_list (pa_cons (pv 3) pa_nil))) (pss_cons (ps_for (by passes_own) rfl (pi_range1 (by rfl) T.no_range (pa_cons pe_int pa_nil)) (pg_name (i := 5) nd rfl (Or.inl rfl)) (pss_cons (ps_asg (pe_callB call_sortedI (by rfl) T.no_sorted bb_sorted (pa_cons (pe_callX L.toLv (ok_xL_pair T) (hr.mono (by decide)) (by rfl) T.mg_xL_pair T.fn_xL_pair.kp T.b_xL_pair .nil (pa_cons (pv 0) (pa_cons (pv 1) (pa_cons (pv 3) (pa_cons (pv 5) pa_nil star_Name) star_Name) star_Name) star_Name)) pa_nil)) (pg_lst (n := 2) rfl (pgs_cons (pg_name (i := 6) nd rfl (Or.inl rfl)) (pgs_cons (pg_name (i := 7) nd rfl (Or.inl rfl)) pgs_nil)))) (pss_cons (ps_asg (pe_callX L.toLv (ok_xL_told T) (hr.mono (by decide)) (by rfl) T.mg_xL_told T.fn_xL_told.kp T.b_xL_told .nil (pa_cons (pv 1) (pa_cons (pv 3) (pa_cons (pv 6) (pa_cons (pv 7) pa_nil star_Name) star_Name) star_Name) star_Name)) (pg_tup (n := 2) rfl (pgs_cons (pg_name (i := 8) nd rfl (Or.inl rfl)) (pgs_cons (pg_name (i := 9) nd rfl (Or.inl rfl)) pgs_nil)))) (pss_cons (ps_if (pw_or (pt_cmpR (op_neD hr) (pv 9) (pe_lstS pa_nil) (nomark _)) (pw_or (pt_not (pt_val (pe_callX L.toLv (ok_xL_are_rows T) (hr.mono (by decide)) (by rfl) T.mg_xL_are_rows T.fn_xL_are_rows.kp T.b_xL_are_rows .nil (pa_cons (pv 8) pa_nil)))) (pw_or1 (pt_cmpR (op_neD hr) (pv 8) (pe_callX L.toLv (ok_xL_due T) (hr.mono (by decide)) (by rfl) T.mg_xL_due T.fn_xL_due.kp T.b_xL_due .nil (pa_cons (pv 1) (pa_cons (pv 4) (pa_cons (pv 6) (pa_cons (pv 7) pa_nil star_Name) star_Name) star_Name) star_Name)) (nomark _))))).pt (pss_one (ps_ret pe_bl)) pss_nil) (pss_cons (ps_set (i := 10) nd rfl (Or.inl rfl) (pe_callTy call_list_ofS (by rfl) T.no_list bb_list (pa_cons (pv 8) pa_nil))) (pss_cons (ps_expr (pe_bm0 PySem.F.plainAttrs_list PySem.F.slot_list_clear PySem.F.type_list_clear mt_clear (pv 8))) (pss_cons (ps_if (pt_cmpR (op_neD hr) (pe_callX L.toLv (ok_xL_told T) (hr.mono (by decide)) (by rfl) T.mg_xL_told T.fn_xL_told.kp T.b_xL_told .nil (pa_cons (pv 1) (pa_cons (pv 3) (pa_cons (pv 6) (pa_cons (pv 7) pa_nil star_Name) star_Name) star_Name) star_Name)) (pe_tupS (pa_cons (pv 10) (pa_cons (pe_lstS pa_nil) pa_nil) star_Name)) (nomark _)) (pss_one (ps_ret pe_bl)) pss_nil) (pss_one (ps_if (pw_and (pt_cmpR op_lt (pv 6) (pv 7) (nomark _)) (pw_and1 (pt_cmpR (op_neD hr) (pe_callX L.toLv (ok_xL_told T) (hr.mono (by decide)) (by rfl) T.mg_xL_told T.fn_xL_told.kp T.b_xL_told .nil (pa_cons (pv 1) (pa_cons (pv 3) (pa_cons (pv 7) (pa_cons (pv 6) pa_nil star_Name) star_Name) star_Name) star_Name)) (pe_tupS (pa_cons pe_non (pa_cons (pe_lstS (pa_cons pe_bl (pa_cons pe_bl pa_nil star_Constant) star_Constant)) pa_nil) star_Constant)) (nomark _)))).pt (pss_one (ps_ret pe_bl)) pss_nil))))))))) (pss_cons (ps_set (i := 11) nd rfl (Or.inl rfl) (pe_ix ix_tup (pv 1) pe_int (fun _ _ => rfl))) (pss_cons (ps_set (i := 2) nd rfl (Or.inr rfl) (pe_callX L.toLv (ok_begin_of T) (hr.mono (by decide)) (by rfl) T.mg_begin_of T.fn_begin_of.kp T.b_begin_of .nil (pa_cons (pv 11) (pa_cons (pe_ix ix_tup (pv 1) pe_int (fun _ _ => rfl)) (pa_cons pe_int pa_nil star_Constant) star_Subscript) star_Name))) (pss_cons (ps_set (i := 12) nd rfl (Or.inl rfl) (pe_op op_mod (pe_callX L.toLv (ok_xL_cell_at T) (hr.mono (by decide)) (by rfl) T.mg_xL_cell_at T.fn_xL_cell_at.kp T.b_xL_cell_at .nil (pa_cons (pv 0) (pa_cons pe_int pa_nil star_Constant) star_Name)) (pe_op op_pow pe_int pe_int))) (pss_cons (ps_set (i := 13) nd rfl (Or.inl rfl) (pe_lstS (pa_cons (pe_tupS (pa_cons (pe_op op_sub (pe_op op_sub (pv 11) pe_int) (pv 12)) (pa_cons (pv 2) (pa_cons (pe_lstS (pa_cons pe_bl (pa_cons pe_bl pa_nil star_Constant) star_Constant)) pa_nil) star_Name) star_BinOp)) (pa_cons (pe_tupS (pa_cons (pe_op op_add (pv 2) (pv 12)) (pa_cons (pe_op op_sub (pv 11) pe_int) (pa_cons (pe_lstS (pa_cons pe_bl (pa_cons pe_bl pa_nil star_Constant) star_Constant)) pa_nil) star_BinOp) star_BinOp)) pa_nil star_Tuple) star_Tuple))) (pss_cons (ps_set (i := 13) nd rfl (Or.inl rfl) (pe_op op_catS (pv 13) (pe_lstS (pa_cons (pe_tupS (pa_cons (pv 11) (pa_cons (pe_op op_add (pv 2) (pv 12)) (pa_cons (pe_lstS (pa_cons pe_bl (pa_cons pe_bl pa_nil star_Constant) star_Constant)) pa_nil) star_BinOp) star_Name)) (pa_cons (pe_tupS (pa_cons (pe_op op_sub (pv 2) pe_int) (pa_cons (pe_op op_sub (pe_op op_sub (pv 11) pe_int) (pv 12)) (pa_cons (pe_lstS (pa_cons pe_bl (pa_cons pe_bl pa_nil star_Constant) star_Constant)) pa_nil) star_BinOp) star_BinOp)) pa_nil star_Tuple) star_Tuple)))) (pss_cons (ps_for (by passes_own) rfl (pi_list (pv 13)) (pg_tup (n := 3) rfl (pgs_cons (pg_name (i := 6) nd rfl (Or.inl rfl)) (pgs_cons (pg_name (i := 7) nd rfl (Or.inl rfl)) (pgs_cons (pg_name (i := 14) nd rfl (Or.inl rfl)) pgs_nil)))) (pss_one (ps_if (pt_cmpR (op_neD hr) (pe_callX L.toLv (ok_xL_told T) (hr.mono (by decide)) (by rfl) T.mg_xL_told T.fn_xL_told.kp T.b_xL_told .nil (pa_cons (pv 1) (pa_cons (pv 3) (pa_cons (pv 6) (pa_cons (pv 7) pa_nil star_Name) star_Name) star_Name) star_Name)) (pe_tupS (pa_cons pe_non (pa_cons (pv 14) pa_nil star_Name) star_Constant)) (nomark _)) (pss_one (ps_ret pe_bl)) pss_nil))) (pss_one (ps_ret (pe_cmpR (op_eqD hr) (pv 3) (pv 4) (nomark _))))))))))))))), ?_⟩
  open_k0
  refine ⟨a, ns, rfl, hS, h63, fun p l zs f dy cc H1 s1 hA el za zi => ?_⟩
  have hz : AccZ K H1 p l f dy cc zs := ⟨hA, el, za, zi⟩
  obtain ⟨pc, f0, f1, hc, ep⟩ := id hA
  have hT1 := SqT.of (K := K) ep
  refine ixT hT1 (at_1 _ _ _) (ixT hT1 (at_2 _ _ _ _) ⟨f, pc, dy, cc, 24, rfl, f0, f1, hc, fun _ _ H2 s2 => ?_, fun z => absurd z (by decide), fun z => absurd z (by decide)⟩)
  generalize Cal.beg f dy cc 24 = en
  simp only [tItems, tRev, tDNewS, tDIn, tDNotIn, sDPut, tDPop1, tDGet2, tDGet, tDc, tCallKX, kwG_one, tEither, tTupS, tLstS, comp_K, capσ, sub_nil, sub_none, sub_some, tYes, List.replicate, Option.join_some, Option.join_none, SL_inj, iStr, tPart, tNoPart, tSl, tLst, tTup, cx_K, slT, CDiv, Int.reduceLT, Int.reduceLE, Int.reduceToNat, Int.reduceNeg, Int.reduceAdd, Int.reduceSub, Int.reduceMul, forall_const, tSeq, tNext, tIfS, tRet, tRetN, tDrop, tAsg, gName, gCons, gNil, tVar, tC, tOp, rI, rI0, tUn, rU, tTest, tB, tAnd, tOr, tNot, tAndV, tOrV, tNotV, tIf, tCons, tNil, tCallX, tCallL, tCB, sRaise, rEq, rNe, scal_ii, scal_bb, scal_ss, scal_ni, scal_in, tChain, tAug, ipI, L2.start, List.map_cons, List.map_nil, List.length_cons, List.length_nil, List.cons_append, List.nil_append, List.append_nil, List.replicate_succ, List.replicate_zero, Nat.reduceAdd, Nat.reduceSub, List.getElem?_cons_zero, List.getElem?_cons_succ, List.set_cons_zero, List.set_cons_succ, Option.some.injEq, V.int.injEq, V.bl.injEq, V.ref.injEq, V.str.injEq, exists_eq_left', exists_eq_left, exists_eq', exists_and_left, List.cons.injEq, and_true, true_and, and_self, and_assoc, decide_eq_true_eq, if_true, if_false, Bool.true_eq_false, Bool.false_eq_true, Bool.not_eq_true', Bool.not_true, Bool.not_false, decide_eq_false_iff_not, ite_true, ite_false, reduceCtorEq, false_and, exists_false, false_or, or_false, and_false, tComp, iList, Nat.reduceLeDiff]
  refine ⟨a, ns, p, l, f, dy, cc, zs, 3, rfl, (s1.trans s2).seq hS, h63, by decide, by decide, hz.same s2, fun l0 ys0 H3 s3 yA yO yl e3 => ⟨l0, rfl, ⟨_, SqL.of e3⟩, fun le hle aa => ?_⟩⟩
  obtain ⟨kt, _⟩ := known_take (en - 1) yO.pair
  refine comp_by (fun j xs _ => xs = ((ys0.take j).filter (enL (en - 1))).map (·.1)) (lists_lst (SqL.of e3)) hle (by rw [List.length_map]; exact small_len (by omega)) (fun _ _ => rfl) (fun j x xs H8 K1 K0 hxx sm pv hl k1 k0 => ?_) (fun xs H4 s4 pv _ w4 => ?_)
  · obtain ⟨z, hzz, rfl⟩ : ∃ z, ys0[j]? = some z ∧ x = z.1 := by
      rw [List.getElem?_map] at hxx
      obtain ⟨u, e, rfl⟩ := Option.map_eq_some_iff.mp hxx
      exact ⟨u, e, rfl⟩
    obtain ⟨pe, ee, q1, _⟩ := (yA.same sm) z (List.mem_of_getElem? hzz)
    have ez : (ys0.take (j + 1)).filter (enL (en - 1)) = (ys0.take j).filter (enL (en - 1)) ++ [z].filter (enL (en - 1)) := by rw [List.take_add_one, hzz, Option.toList_some, List.filter_append]
    rw [ee]
    lge_open0
    refine .inr (.inl (ixT q1 (at_0 _ _) ⟨_, rfl, ite_of (fun h => k1 _ _ (Same.refl _) fun H' _ => ?_) (fun h => k0 _ (Same.refl _) ?_)⟩))
    · rw [ez, List.filter_cons_of_pos (show enL (en - 1) z = true from decide_eq_true (by omega)), List.map_append, pv, ← ee]
      rfl
    · rw [ez, List.filter_cons_of_neg (show ¬ enL (en - 1) z = true from by unfold enL; simp; omega), List.map_append, pv]
      exact (List.append_nil _).symm
  rw [List.length_map, List.take_length, kt] at pv
  subst pv
  have yO' := yO.take (mOf ys0 (en - 1))
  have s14 := (s2.trans s3).trans s4
  have hz4 := hz.same s14
  have hT4 := s14.sqT hT1
  have hS4 := (s1.trans s14).seq hS
  have hc4 := hc.same s14
  obtain ⟨ys, hys⟩ : ∃ ys, ys = ys0.take (mOf ys0 (en - 1)) := ⟨_, rfl⟩
  rw [← hys] at yO' w4
  have hY : EnX zs f (Cal.beg f dy cc 60) K H4 ys := by
    refine ⟨by rw [hys]; exact (yA.same s4).take _, by rw [hys, List.length_take]; omega, yO'.pair, EnsOk.undo' yO', EnB.of yO', fun z hz' tm => ?_⟩
    obtain ⟨i, hi, ez⟩ := List.mem_iff_getElem.mp hz'
    have ci := (yO' i z (by rw [List.getElem?_eq_getElem hi, ez])).2.2.2
    exact ⟨fun d nm h' => by rw [h'] at ci; exact ci.2.2, fun d n h' => by rw [h'] at ci; exact ci.2.2⟩
  have yb : ∀ z ∈ ys, f ≤ z.2.2.1 ∧ z.2.2.1 < Cal.beg f dy cc 60 := fun z hz' => by
    obtain ⟨i, hi, ez⟩ := List.mem_iff_getElem.mp hz'
    have ci := yO' i z (by rw [List.getElem?_eq_getElem hi, ez])
    exact ⟨ci.1, ci.2.1⟩
  clear hys yO yA yl e3 kt s1 s2 s3 hz hA el za zi hc ep hT1 hS
  refine ⟨le, rfl, _, .inl (SqL.of w4), fun lk H5 _ s5 e5 => ?_⟩
  have w5 := s5 _ _ w4
  have hY5 := hY.same s5
  have hz5 := hz4.same s5
  have hT5 := s5.sqT hT4
  have hS5 := s5.seq hS4
  have hc5 := hc4.same s5
  have b0 : Cal.beg f dy cc 0 = f := Cal.beg_zero f0 f1
  ((try dsimp only); refine for_by fun R hR => ?_; simp only [tItems, tRev, tDNewS, tDIn, tDNotIn, sDPut, tDPop1, tDGet2, tDGet, tDc, tCallKX, kwG_one, tEither, tTupS, tLstS, comp_K, capσ, sub_nil, sub_none, sub_some, tYes, List.replicate, Option.join_some, Option.join_none, SL_inj, iStr, tPart, tNoPart, tSl, tLst, tTup, cx_K, slT, CDiv, Int.reduceLT, Int.reduceLE, Int.reduceToNat, Int.reduceNeg, Int.reduceAdd, Int.reduceSub, Int.reduceMul, forall_const, tSeq, tNext, tIfS, tRet, tRetN, tDrop, tAsg, gName, gCons, gNil, tVar, tC, tOp, rI, rI0, tUn, rU, tTest, tB, tAnd, tOr, tNot, tAndV, tOrV, tNotV, tIf, tCons, tNil, tCallX, tCallL, tCB, sRaise, rEq, rNe, scal_ii, scal_bb, scal_ss, scal_ni, scal_in, tChain, tAug, ipI, L2.start, List.map_cons, List.map_nil, List.length_cons, List.length_nil, List.cons_append, List.nil_append, List.append_nil, List.replicate_succ, List.replicate_zero, Nat.reduceAdd, Nat.reduceSub, List.getElem?_cons_zero, List.getElem?_cons_succ, List.set_cons_zero, List.set_cons_succ, Option.some.injEq, V.int.injEq, V.bl.injEq, V.ref.injEq, V.str.injEq, exists_eq_left', exists_eq_left, exists_eq', exists_and_left, List.cons.injEq, and_true, true_and, and_self, and_assoc, decide_eq_true_eq, if_true, if_false, Bool.true_eq_false, Bool.false_eq_true, Bool.not_eq_true', Bool.not_true, Bool.not_false, decide_eq_false_iff_not, ite_true, ite_false, reduceCtorEq, false_and, exists_false, false_or, or_false, and_false, iList, iTup, iZip, iEnum, iRng1, iRng2, Nat.reduceLeDiff])
  refine ⟨by decide, by decide, hR _ _ ?_⟩
  clear hR
  have spans : ∀ d, f ≤ d → d < Cal.beg f dy cc 60 → ∃ k : Nat, k < 60 ∧ Cal.beg f dy cc k ≤ d ∧ d < Cal.beg f dy cc ((k : Int) + 1) := fun d h1 h2 => by
    obtain ⟨k, k0, k1, a1, a2⟩ := beg_has (f := f) (c := cc) (dy := dy) (d := d) (by omega) 60 h2
    obtain ⟨kn, rfl⟩ := Int.eq_ofNat_of_zero_le k0
    exact ⟨kn, by omega, a1, a2⟩
  obtain ⟨Pv, hPv⟩ : ∃ Pv : Nat → St → Hp → Prop, Pv = fun _ σ1 H9 => Same H5 H9 ∧ ∃ x5 x6 x7 x8 x9 x10, σ1 = [some (.ref a), some (.ref p), some (.int en), some (.ref le), some (.ref lk), x5, x6, x7, x8, x9, x10, none, none, none, none] := ⟨_, rfl⟩
  refine for_range (n := 3) Pv (by rw [hPv]; exact ⟨Same.refl _, _, _, _, _, _, _, rfl⟩) (fun i σ1 H6 hi h => ?_) (fun σ1 H6 h => ?_)
  · rw [hPv] at h
    obtain ⟨s6, x5, x6, x7, x8, x9, x10, rfl⟩ := h
    simp only [tItems, tRev, tDNewS, tDIn, tDNotIn, sDPut, tDPop1, tDGet2, tDGet, tDc, tCallKX, kwG_one, tEither, tTupS, tLstS, comp_K, capσ, sub_nil, sub_none, sub_some, tYes, List.replicate, Option.join_some, Option.join_none, SL_inj, iStr, tPart, tNoPart, tSl, tLst, tTup, cx_K, slT, CDiv, Int.reduceLT, Int.reduceLE, Int.reduceToNat, Int.reduceNeg, Int.reduceAdd, Int.reduceSub, Int.reduceMul, forall_const, tSeq, tNext, tIfS, tRet, tRetN, tDrop, tAsg, gName, gCons, gNil, tVar, tC, tOp, rI, rI0, tUn, rU, tTest, tB, tAnd, tOr, tNot, tAndV, tOrV, tNotV, tIf, tCons, tNil, tCallX, tCallL, tCB, sRaise, rEq, rNe, scal_ii, scal_bb, scal_ss, scal_ni, scal_in, tChain, tAug, ipI, L2.start, List.map_cons, List.map_nil, List.length_cons, List.length_nil, List.cons_append, List.nil_append, List.append_nil, List.replicate_succ, List.replicate_zero, Nat.reduceAdd, Nat.reduceSub, List.getElem?_cons_zero, List.getElem?_cons_succ, List.set_cons_zero, List.set_cons_succ, Option.some.injEq, V.int.injEq, V.bl.injEq, V.ref.injEq, V.str.injEq, exists_eq_left', exists_eq_left, exists_eq', exists_and_left, List.cons.injEq, and_true, true_and, and_self, and_assoc, decide_eq_true_eq, if_true, if_false, Bool.true_eq_false, Bool.false_eq_true, Bool.not_eq_true', Bool.not_true, Bool.not_false, decide_eq_false_iff_not, ite_true, ite_false, reduceCtorEq, false_and, exists_false, false_or, or_false, and_false, tBM0, Nat.reduceLeDiff]
    refine ⟨a, p, le, l, ns, f, dy, cc, zs, ys, _, rfl, s6.seq hS5, h63, by omega, by omega, hz5.same s6, s6 _ _ w5, (hY5.same s6).1, yb, fun rp d0 d1 H7 s7 e7 c1 c2 c3 c4 => ?_⟩
    refine ⟨rp, rfl, [d0, d1], e7, by show 2 < 64; decide, fun ws wp wo lw H8 _ s8 e8 => ?_⟩
    obtain ⟨u, v, rfl⟩ : ∃ u v, ws = [u, v] := by
      have := wp.length_eq
      match ws, this with
      | [u, v], _ => exact ⟨u, v, rfl⟩
    have uv : u ≤ v := by
      have := List.pairwise_cons.mp wo
      exact this.1 v List.mem_cons_self
    have mu : ∀ x ∈ [u, v], f ≤ x ∧ x < Cal.beg f dy cc 60 := fun x hx => by
      have := wp.mem_iff.mp hx
      simp only [List.mem_cons, List.not_mem_nil, or_false] at this
      rcases this with rfl | rfl <;> omega
    have bu := mu u List.mem_cons_self
    have bv := mu v (List.mem_cons_of_mem _ List.mem_cons_self)
    have e8' : H8 lw = some (.lst [.int u, .int v]) := e8
    refine ⟨lw, _, rfl, SqL.of e8', rfl, ?_⟩
    have s58 := (s6.trans s7).trans s8
    simp only [tItems, tRev, tDNewS, tDIn, tDNotIn, sDPut, tDPop1, tDGet2, tDGet, tDc, tCallKX, kwG_one, tEither, tTupS, tLstS, comp_K, capσ, sub_nil, sub_none, sub_some, tYes, List.replicate, Option.join_some, Option.join_none, SL_inj, iStr, tPart, tNoPart, tSl, tLst, tTup, cx_K, slT, CDiv, Int.reduceLT, Int.reduceLE, Int.reduceToNat, Int.reduceNeg, Int.reduceAdd, Int.reduceSub, Int.reduceMul, forall_const, tSeq, tNext, tIfS, tRet, tRetN, tDrop, tAsg, gName, gCons, gNil, tVar, tC, tOp, rI, rI0, tUn, rU, tTest, tB, tAnd, tOr, tNot, tAndV, tOrV, tNotV, tIf, tCons, tNil, tCallX, tCallL, tCB, sRaise, rEq, rNe, scal_ii, scal_bb, scal_ss, scal_ni, scal_in, tChain, tAug, ipI, L2.start, List.map_cons, List.map_nil, List.length_cons, List.length_nil, List.cons_append, List.nil_append, List.append_nil, List.replicate_succ, List.replicate_zero, Nat.reduceAdd, Nat.reduceSub, List.getElem?_cons_zero, List.getElem?_cons_succ, List.set_cons_zero, List.set_cons_succ, Option.some.injEq, V.int.injEq, V.bl.injEq, V.ref.injEq, V.str.injEq, exists_eq_left', exists_eq_left, exists_eq', exists_and_left, List.cons.injEq, and_true, true_and, and_self, and_assoc, decide_eq_true_eq, if_true, if_false, Bool.true_eq_false, Bool.false_eq_true, Bool.not_eq_true', Bool.not_true, Bool.not_false, decide_eq_false_iff_not, ite_true, ite_false, reduceCtorEq, false_and, exists_false, false_or, or_false, and_false, tBM0, Nat.reduceLeDiff]
    obtain ⟨G1, hG1⟩ := gl_ex u f0 f1 hc5.2 hY5
    obtain ⟨G2, hG2⟩ := gl_ex v f0 f1 hc5.2 hY5
    obtain ⟨k, k60, a1, a2⟩ := spans u bu.1 bu.2
    refine ⟨p, le, l, f, dy, cc, zs, ys, G1, G2, u, v, rfl, hz5.same s58, SqL.of (s58 _ _ w5), hY5.same s58, hG1, hG2, fun k' k60' a1' a2' _ _ pt r m as H9 nr s9 ept em er mv => ?_, fun z => absurd z (by omega), fun z => absurd z (by omega)⟩
    obtain rfl : k' = k := by
      have := Cal.beg_one f0 f1 hc5.2 (k := (k' : Int)) (j := (k : Int)) (by omega) (by omega) (by omega) (by omega) a1' a2' a1 a2
      omega
    have s59 := s58.trans s9
    refine ⟨pt, _, rfl, SqT.of ept, rfl, ?_⟩
    simp only [tItems, tRev, tDNewS, tDIn, tDNotIn, sDPut, tDPop1, tDGet2, tDGet, tDc, tCallKX, kwG_one, tEither, tTupS, tLstS, comp_K, capσ, sub_nil, sub_none, sub_some, tYes, List.replicate, Option.join_some, Option.join_none, SL_inj, iStr, tPart, tNoPart, tSl, tLst, tTup, cx_K, slT, CDiv, Int.reduceLT, Int.reduceLE, Int.reduceToNat, Int.reduceNeg, Int.reduceAdd, Int.reduceSub, Int.reduceMul, forall_const, tSeq, tNext, tIfS, tRet, tRetN, tDrop, tAsg, gName, gCons, gNil, tVar, tC, tOp, rI, rI0, tUn, rU, tTest, tB, tAnd, tOr, tNot, tAndV, tOrV, tNotV, tIf, tCons, tNil, tCallX, tCallL, tCB, sRaise, rEq, rNe, scal_ii, scal_bb, scal_ss, scal_ni, scal_in, tChain, tAug, ipI, L2.start, List.map_cons, List.map_nil, List.length_cons, List.length_nil, List.cons_append, List.nil_append, List.append_nil, List.replicate_succ, List.replicate_zero, Nat.reduceAdd, Nat.reduceSub, List.getElem?_cons_zero, List.getElem?_cons_succ, List.set_cons_zero, List.set_cons_succ, Option.some.injEq, V.int.injEq, V.bl.injEq, V.ref.injEq, V.str.injEq, exists_eq_left', exists_eq_left, exists_eq', exists_and_left, List.cons.injEq, and_true, true_and, and_self, and_assoc, decide_eq_true_eq, if_true, if_false, Bool.true_eq_false, Bool.false_eq_true, Bool.not_eq_true', Bool.not_true, Bool.not_false, decide_eq_false_iff_not, ite_true, ite_false, reduceCtorEq, false_and, exists_false, false_or, or_false, and_false, tBM0, Nat.reduceLeDiff]
    intro l10 H10 _ s10 e10
    refine neD (n := 0) (d := .lst []) (Dp_lst (SqL.of (s10 _ _ em)) trivial) (Dp_lst (SqL.of e10) trivial) rfl (by decide) ⟨_, rfl, ite_f (by decide) ?_⟩
    have mv10 := mv.tup fun a xs h => s10 _ _ h
    refine ⟨r, as, _, rfl, s10 _ _ er, mv10, fun H11 s11 => ⟨_, rfl, ite_f (by decide) ?_⟩⟩
    have s911 := s10.trans s11
    have s511 := s59.trans s911
    refine ⟨p, lk, l, f, dy, cc, zs, ys, G1, G2, u, v, k', rfl, hz5.same s511, SqL.of (s511 _ _ e5), hY5.same s511, hG1, hG2, k60, a1, a2, fun r2 bs H12 s12 e12 mv2 => ?_⟩
    have s912 := s911.trans s12
    have mv12 := mv.tup fun a xs h => s912 _ _ h
    refine neD (n := 1) (d := .lst ((mvF (cK f dy cc zs G1) (cK f dy cc zs G2) (k' + 1)).map mvD)) (Dp_lst (SqL.of (s912 _ _ er)) mv12.all2) (Dp_lst (SqL.of e12) mv2.all2) rfl (by decide) ⟨_, rfl, ite_f (by decide) ?_⟩
    have er12 := s912 _ _ er
    refine ⟨_, .inl (SqL.of er12), fun lr H13 hlr s13 e13 => ?_⟩
    have er13 := s13 _ _ er12
    refine ⟨.inl ⟨rfl, _, SqL.of er13⟩, r, _, rfl, rfl, er13, ?_⟩
    obtain ⟨H14, hH14⟩ : ∃ H14, H14 = upd H13 r (.lst []) := ⟨_, rfl⟩
    rw [← hH14]
    have s814 : Same H8 H14 := by rw [hH14]; exact ((s9.trans s912).trans s13).put nr _
    have mv14 : MvAs H14 as _ := (mv12.tup fun a xs h => s13 _ _ h).tup fun a xs h => by
      rw [hH14, upd_ne (fun z => by rw [z, er13] at h; cases h)]
      exact h
    have e14 : H14 lr = some (.lst (as.map V.ref)) := by rw [hH14, upd_ne (fun y => by rw [y, er12] at hlr; cases hlr)]; exact e13
    clear hH14
    have s514 := s58.trans s814
    refine ⟨p, le, l, f, dy, cc, zs, ys, G1, G2, u, v, rfl, hz5.same s514, SqL.of (s514 _ _ w5), hY5.same s514, hG1, hG2, fun k2 k20 b1 b2 _ _ pt2 r3 m3 cs H15 _ s15 ept2 em2 er3 mv3 => ?_, fun z => absurd z (by omega), fun z => absurd z (by omega)⟩
    obtain rfl : k2 = k' := by
      have := Cal.beg_one f0 f1 hc5.2 (k := (k2 : Int)) (j := (k' : Int)) (by omega) (by omega) (by omega) (by omega) b1 b2 a1 a2
      omega
    intro l16 H16 _ s16 e16 p17 H17 _ s17 e17
    have s1517 := s16.trans s17
    have mvL := mv3.tup fun a xs h => s1517 _ _ h
    have mvR := mv14.tup fun a xs h => (s15.trans s1517) _ _ h
    refine neD (n := 2) (d := .tup [.lst ((mvF (cK f dy cc zs G1) (cK f dy cc zs G2) (k2 + 1)).map mvD), .lst []]) (Dp_tup (SqT.of (s1517 _ _ ept2)) ⟨Dp_lst (SqL.of (s1517 _ _ er3)) mvL.all2, Dp_lst (SqL.of (s1517 _ _ em2)) trivial, trivial⟩) (Dp_tup (SqT.of e17) ⟨Dp_lst (SqL.of ((s15.trans s1517) _ _ e14)) mvR.all2, Dp_lst (SqL.of (s17 _ _ e16)) trivial, trivial⟩) rfl (by decide) ⟨_, rfl, ite_f (by decide) ?_⟩
    have s517 := (s514.trans s15).trans s1517
    refine ite_of (fun h => ?_) (fun h => ?_)
    · refine ⟨p, le, l, f, dy, cc, zs, ys, G2, G1, v, u, rfl, hz5.same s517, SqL.of (s517 _ _ w5), hY5.same s517, hG2, hG1, fun _ _ _ _ hh _ => absurd hh (by omega), fun _ pt4 m4 H18 s18 ept4 em4 => ?_, fun z => absurd z (by omega)⟩
      intro l19 H19 _ s19 e19 p20 H20 _ s20 e20
      have s1820 := s19.trans s20
      refine neD (n := 1) (d := .tup [.non, .lst [.bl true, .bl false]]) (dp_no (s1820 _ _ ept4) (s1820 _ _ em4)) (dp_no e20 (s20 _ _ e19)) rfl (by decide) ⟨_, rfl, ite_f (by decide) ?_⟩
      rw [hPv]
      exact ⟨(s517.trans s18).trans s1820, _, _, _, _, _, _, rfl⟩
    · rw [hPv]
      exact ⟨s517, _, _, _, _, _, _, rfl⟩
  · rw [hPv] at h
    obtain ⟨s6, x5, x6, x7, x8, x9, x10, rfl⟩ := h
    have hT6 := s6.sqT hT5
    open_k0
    refine ixT hT6 (at_1 _ _ _) (ixT hT6 (at_2 _ _ _ _) ⟨f, pc, dy, cc, 60, rfl, f0, f1, hc5.same s6, fun _ _ H7 s7 => ⟨a, ns, 60, rfl, (s6.trans s7).seq hS5, h63, by decide, ⟨by decide, by decide, by decide⟩, _, rfl, by decide, _, rfl, ?_⟩, fun z => absurd z (by decide), fun z => absurd z (by decide)⟩)
    have fr0 := Int.emod_nonneg (cellOf ns 60) (show (10 : Int) ^ 20 ≠ 0 by decide)
    generalize cellOf ns 60 % 10 ^ 20 = fr at fr0 ⊢
    intro m1 H8 _ s8 e8 t1 H9 _ s9 e9
    refine ⟨_, rfl, _, rfl, ?_⟩
    intro m2 H10 _ s10 e10 t2 H11 _ s11 e11 lc1 H12 _ s12 e12
    refine ⟨_, rfl, ?_⟩
    intro m3 H13 _ s13 e13 t3 H14 _ s14 e14
    refine ⟨_, rfl, _, rfl, ?_⟩
    intro m4 H15 _ s15 e15 t4 H16 _ s16 e16 lc2 H17 _ s17 e17
    have s1317 := (((s13.trans s14).trans s15).trans s16).trans s17
    refine ⟨lc1, lc2, _, _, rfl, rfl, s1317 _ _ e12, e17, le_line (by show 4 ≤ 1000; decide), fun lc H18 _ s18 e18 => ?_⟩
    have e18' : H18 lc = some (.lst [.ref t1, .ref t2, .ref t3, .ref t4]) := e18
    have r17 := s17.trans s18
    have r16 := s16.trans r17
    have r15 := s15.trans r16
    have r14 := s14.trans r15
    have r13 := s13.trans r14
    have r12 := s12.trans r13
    have r11 := s11.trans r12
    have r10 := s10.trans r11
    have r9 := s9.trans r10
    have s518 := (s6.trans s7).trans (s8.trans r9)
    have bl := Cal.beg_lt (k := 0) (j := 60) f0 f1 hc5.2 (by decide) (by decide) (by decide)
    rw [b0] at bl
    have cases4 : ∀ x ∈ [V.ref t1, V.ref t2, V.ref t3, V.ref t4], ∃ (tt mm : Addr) (one other : Int) (b : Bool), x = .ref tt ∧ H18 tt = some (.tup [.int one, .int other, .ref mm]) ∧ H18 mm = some (.lst [.bl b, .bl !b]) ∧ ¬ (f ≤ one ∧ one ≤ other ∧ other < Cal.beg f dy cc 60) ∧ ((b = true ∧ ¬ (Cal.beg f dy cc 60 ≤ one ∨ (f ≤ one ∧ one < Cal.beg f dy cc 60 ∧ Cal.beg f dy cc 60 ≤ other))) ∨ (b = false ∧ ¬ (one < f ∨ (f ≤ one ∧ one < Cal.beg f dy cc 60 ∧ (other < f ∨ (other < one ∧ other < Cal.beg f dy cc 60)))))) := fun x hx => by
      simp only [List.mem_cons, List.not_mem_nil, or_false] at hx
      rcases hx with rfl | rfl | rfl | rfl
      · exact ⟨t1, m1, _, _, true, rfl, r10 _ _ e9, r9 _ _ e8, by omega, .inl ⟨rfl, by omega⟩⟩
      · exact ⟨t2, m2, _, _, false, rfl, r12 _ _ e11, r11 _ _ e10, by omega, .inr ⟨rfl, by omega⟩⟩
      · exact ⟨t3, m3, _, _, false, rfl, r15 _ _ e14, r14 _ _ e13, by omega, .inr ⟨rfl, by omega⟩⟩
      · exact ⟨t4, m4, _, _, true, rfl, r17 _ _ e16, r16 _ _ e15, by omega, .inl ⟨rfl, by omega⟩⟩
    ((try dsimp only); refine for_by fun R hR => ?_; simp only [tItems, tRev, tDNewS, tDIn, tDNotIn, sDPut, tDPop1, tDGet2, tDGet, tDc, tCallKX, kwG_one, tEither, tTupS, tLstS, comp_K, capσ, sub_nil, sub_none, sub_some, tYes, List.replicate, Option.join_some, Option.join_none, SL_inj, iStr, tPart, tNoPart, tSl, tLst, tTup, cx_K, slT, CDiv, Int.reduceLT, Int.reduceLE, Int.reduceToNat, Int.reduceNeg, Int.reduceAdd, Int.reduceSub, Int.reduceMul, forall_const, tSeq, tNext, tIfS, tRet, tRetN, tDrop, tAsg, gName, gCons, gNil, tVar, tC, tOp, rI, rI0, tUn, rU, tTest, tB, tAnd, tOr, tNot, tAndV, tOrV, tNotV, tIf, tCons, tNil, tCallX, tCallL, tCB, sRaise, rEq, rNe, scal_ii, scal_bb, scal_ss, scal_ni, scal_in, tChain, tAug, ipI, L2.start, List.map_cons, List.map_nil, List.length_cons, List.length_nil, List.cons_append, List.nil_append, List.append_nil, List.replicate_succ, List.replicate_zero, Nat.reduceAdd, Nat.reduceSub, List.getElem?_cons_zero, List.getElem?_cons_succ, List.set_cons_zero, List.set_cons_succ, Option.some.injEq, V.int.injEq, V.bl.injEq, V.ref.injEq, V.str.injEq, exists_eq_left', exists_eq_left, exists_eq', exists_and_left, List.cons.injEq, and_true, true_and, and_self, and_assoc, decide_eq_true_eq, if_true, if_false, Bool.true_eq_false, Bool.false_eq_true, Bool.not_eq_true', Bool.not_true, Bool.not_false, decide_eq_false_iff_not, ite_true, ite_false, reduceCtorEq, false_and, exists_false, false_or, or_false, and_false, iList, iTup, iZip, iEnum, iRng1, iRng2, Nat.reduceLeDiff])
    refine ⟨⟨_, SqL.of e18'⟩, hR _ _ ?_⟩
    clear hR
    obtain ⟨Pw, hPw⟩ : ∃ Pw : Nat → St → Hp → Prop, Pw = fun _ σ1 H' => Same H18 H' ∧ ∃ y6 y7 y14, σ1 = [some (.ref a), some (.ref p), some (.int (Cal.beg f dy cc 60)), some (.ref le), some (.ref lk), x5, y6, y7, x8, x9, x10, some (.int f), some (.int fr), some (.ref lc), y14] := ⟨_, rfl⟩
    refine for_list (xs := [V.ref t1, V.ref t2, V.ref t3, V.ref t4]) Pw (by rw [hPw]; exact ⟨Same.refl _, _, _, _, rfl⟩) (fun _ _ _ _ h => by rw [hPw] at h; exact SqL.of (h.1 _ _ e18')) (fun i x σ1 H19 hxx h => ?_) (fun σ1 H19 h => ?_)
    · rw [hPw] at h
      obtain ⟨s19, y6, y7, y14, rfl⟩ := h
      obtain ⟨tt, mm, one, other, b, rfl, et, em, no, cond⟩ := cases4 x (List.mem_of_getElem? hxx)
      have s519 := s518.trans s19
      open_k0
      refine ⟨tt, _, rfl, SqT.of (s19 _ _ et), rfl, ?_⟩
      open_k0
      obtain ⟨Ga, hGa⟩ := gl_ex one f0 f1 hc5.2 hY5
      obtain ⟨Gb, hGb⟩ := gl_ex other f0 f1 hc5.2 hY5
      have fin : ∀ pt mk H20, Same H19 H20 → H20 pt = some (.tup [.non, .ref mk]) → H20 mk = some (.lst [.bl b, .bl !b]) → New H20 (.tup [.non, .ref mm]) (fun y H2 => rEqD K true (.ref pt) y H2 fun x_1 H' => ∃ k, x_1 = V.bl k ∧ if k = true then Q (V.bl false) H' else Pw (i + 1) [some (.ref a), some (.ref p), some (.int (Cal.beg f dy cc 60)), some (.ref le), some (.ref lk), x5, some (.int one), some (.int other), x8, x9, x10, some (.int f), some (.int fr), some (.ref lc), some (.ref mm)] H') := fun pt mk H20 s20 ep' em' p21 H21 _ s21 e21 => by
        refine neD (n := 1) (d := .tup [.non, .lst [.bl b, .bl !b]]) (dp_no (s21 _ _ ep') (s21 _ _ em')) (dp_no e21 ((s19.trans (s20.trans s21)) _ _ em)) rfl (by decide) ⟨_, rfl, ite_f (by decide) ?_⟩
        rw [hPw]
        exact ⟨s19.trans (s20.trans s21), _, _, _, rfl⟩
      refine ⟨p, le, l, f, dy, cc, zs, ys, Ga, Gb, one, other, rfl, hz5.same s519, SqL.of (s519 _ _ w5), hY5.same s519, hGa, hGb, fun k k60 a1 a2 h1 h2 => ?_, fun hh pt mk H20 s20 ep' em' => ?_, fun hh pt mk H20 s20 ep' em' => ?_⟩
      · have := Cal.beg_ge (k := (k : Int)) f0 f1 hc5.2 (by omega) (by omega)
        exact absurd ⟨by omega, h1, h2⟩ no
      · rcases cond with ⟨rfl, _⟩ | ⟨rfl, nc⟩
        · exact fin pt mk H20 s20 ep' em'
        · exact absurd hh nc
      · rcases cond with ⟨rfl, nc⟩ | ⟨rfl, _⟩
        · exact absurd hh nc
        · exact fin pt mk H20 s20 ep' em'
    · rw [hPw] at h
      obtain ⟨s19, y6, y7, y14, rfl⟩ := h
      have s519 := s518.trans s19
      open_k0
      have al := (hY5.same s519).1.all2
      exact eqD (n := 2) (d := .lst (ys.map enD)) (Dp_lst (SqL.of (s519 _ _ w5)) al) (Dp_lst (SqL.of (s519 _ _ e5)) al) rfl (by decide) (q _)
end
theorem txt_mk {w : World} {K : PySem.W.Frag} {h : Heap} {mg : Str → Option Value} (X : K.In h) (G : h.Ns mainGlobals mg)
    {f0 : Addr} {od0 an0 : Option Addr} {sl0 : Array (Option Value)} {oc0 kV0 dc0 pm0 cd0 ct0 : Value}
    {f1 : Addr} {od1 an1 : Option Addr} {sl1 : Array (Option Value)} {oc1 kV1 dc1 pm1 cd1 ct1 : Value}
    {f2 : Addr} {od2 an2 : Option Addr} {sl2 : Array (Option Value)} {oc2 kV2 dc2 pm2 cd2 ct2 : Value}
    {f3 : Addr} {od3 an3 : Option Addr} {sl3 : Array (Option Value)} {oc3 kV3 dc3 pm3 cd3 ct3 : Value}
    {f4 : Addr} {od4 an4 : Option Addr} {sl4 : Array (Option Value)} {oc4 kV4 dc4 pm4 cd4 ct4 : Value}
    {f5 : Addr} {od5 an5 : Option Addr} {sl5 : Array (Option Value)} {oc5 kV5 dc5 pm5 cd5 ct5 : Value}
    {f6 : Addr} {od6 an6 : Option Addr} {sl6 : Array (Option Value)} {oc6 kV6 dc6 pm6 cd6 ct6 : Value}
    {f7 : Addr} {od7 an7 : Option Addr} {sl7 : Array (Option Value)} {oc7 kV7 dc7 pm7 cd7 ct7 : Value}
    {f8 : Addr} {od8 an8 : Option Addr} {sl8 : Array (Option Value)} {oc8 kV8 dc8 pm8 cd8 ct8 : Value}
    {f9 : Addr} {od9 an9 : Option Addr} {sl9 : Array (Option Value)} {oc9 kV9 dc9 pm9 cd9 ct9 : Value}
    {f10 : Addr} {od10 an10 : Option Addr} {sl10 : Array (Option Value)} {oc10 kV10 dc10 pm10 cd10 ct10 : Value}
    {f11 : Addr} {od11 an11 : Option Addr} {sl11 : Array (Option Value)} {oc11 kV11 dc11 pm11 cd11 ct11 : Value}
    {f12 : Addr} {od12 an12 : Option Addr} {sl12 : Array (Option Value)} {oc12 kV12 dc12 pm12 cd12 ct12 : Value}
    {f13 : Addr} {od13 an13 : Option Addr} {sl13 : Array (Option Value)} {oc13 kV13 dc13 pm13 cd13 ct13 : Value}
    {f14 : Addr} {od14 an14 : Option Addr} {sl14 : Array (Option Value)} {oc14 kV14 dc14 pm14 cd14 ct14 : Value}
    {f15 : Addr} {od15 an15 : Option Addr} {sl15 : Array (Option Value)} {oc15 kV15 dc15 pm15 cd15 ct15 : Value}
    {f16 : Addr} {od16 an16 : Option Addr} {sl16 : Array (Option Value)} {oc16 kV16 dc16 pm16 cd16 ct16 : Value}
    {f17 : Addr} {od17 an17 : Option Addr} {sl17 : Array (Option Value)} {oc17 kV17 dc17 pm17 cd17 ct17 : Value}
    {f18 : Addr} {od18 an18 : Option Addr} {sl18 : Array (Option Value)} {oc18 kV18 dc18 pm18 cd18 ct18 : Value}
    {f19 : Addr} {od19 an19 : Option Addr} {sl19 : Array (Option Value)} {oc19 kV19 dc19 pm19 cd19 ct19 : Value}
    {f20 : Addr} {od20 an20 : Option Addr} {sl20 : Array (Option Value)} {oc20 kV20 dc20 pm20 cd20 ct20 : Value}
    {f21 : Addr} {od21 an21 : Option Addr} {sl21 : Array (Option Value)} {oc21 kV21 dc21 pm21 cd21 ct21 : Value}
    {f22 : Addr} {od22 an22 : Option Addr} {sl22 : Array (Option Value)} {oc22 kV22 dc22 pm22 cd22 ct22 : Value}
    {f23 : Addr} {od23 an23 : Option Addr} {sl23 : Array (Option Value)} {oc23 kV23 dc23 pm23 cd23 ct23 : Value}
    {f24 : Addr} {od24 an24 : Option Addr} {sl24 : Array (Option Value)} {oc24 kV24 dc24 pm24 cd24 ct24 : Value}
    {f25 : Addr} {od25 an25 : Option Addr} {sl25 : Array (Option Value)} {oc25 kV25 dc25 pm25 cd25 ct25 : Value}
    {f26 : Addr} {od26 an26 : Option Addr} {sl26 : Array (Option Value)} {oc26 kV26 dc26 pm26 cd26 ct26 : Value}
    {f27 : Addr} {od27 an27 : Option Addr} {sl27 : Array (Option Value)} {oc27 kV27 dc27 pm27 cd27 ct27 : Value}
    {f28 : Addr} {od28 an28 : Option Addr} {sl28 : Array (Option Value)} {oc28 kV28 dc28 pm28 cd28 ct28 : Value}
    {f29 : Addr} {od29 an29 : Option Addr} {sl29 : Array (Option Value)} {oc29 kV29 dc29 pm29 cd29 ct29 : Value}
    {f30 : Addr} {od30 an30 : Option Addr} {sl30 : Array (Option Value)} {oc30 kV30 dc30 pm30 cd30 ct30 : Value}
    {f31 : Addr} {od31 an31 : Option Addr} {sl31 : Array (Option Value)} {oc31 kV31 dc31 pm31 cd31 ct31 : Value}
    {f32 : Addr} {od32 an32 : Option Addr} {sl32 : Array (Option Value)} {oc32 kV32 dc32 pm32 cd32 ct32 : Value}
    {f33 : Addr} {od33 an33 : Option Addr} {sl33 : Array (Option Value)} {oc33 kV33 dc33 pm33 cd33 ct33 : Value}
    {f34 : Addr} {od34 an34 : Option Addr} {sl34 : Array (Option Value)} {oc34 kV34 dc34 pm34 cd34 ct34 : Value}
    {f35 : Addr} {od35 an35 : Option Addr} {sl35 : Array (Option Value)} {oc35 kV35 dc35 pm35 cd35 ct35 : Value}
    {f36 : Addr} {od36 an36 : Option Addr} {sl36 : Array (Option Value)} {oc36 kV36 dc36 pm36 cd36 ct36 : Value}
    {f37 : Addr} {od37 an37 : Option Addr} {sl37 : Array (Option Value)} {oc37 kV37 dc37 pm37 cd37 ct37 : Value}
    {f38 : Addr} {od38 an38 : Option Addr} {sl38 : Array (Option Value)} {oc38 kV38 dc38 pm38 cd38 ct38 : Value}
    {f39 : Addr} {od39 an39 : Option Addr} {sl39 : Array (Option Value)} {oc39 kV39 dc39 pm39 cd39 ct39 : Value}
    {C_SpanError : Addr} {cd_SpanError : ClassData}
    {C_NoDate : Addr} {cd_NoDate : ClassData}
    {C_NoSpan : Addr} {cd_NoSpan : ClassData}
    {C_TooLong : Addr} {cd_TooLong : ClassData}
    {tk_LAST_YEAR : Tok}
    {tk_LAST_DAY : Tok}
    {A_MONTH_DAYS : Addr} {od_MONTH_DAYS : Option Addr} {its_MONTH_DAYS : Array Value} {n_MONTH_DAYS : Nat} {sl_MONTH_DAYS : Array (Option Value)}
    {tk_ROUND_DAYS : Tok}
    {tk_HUNDRED_YEARS_DAYS : Tok}
    {tk_FOUR_YEARS_DAYS : Tok}
    {tk_YEAR_DAYS : Tok}
    {tk_SPANS : Tok}
    {A_WORDS : Addr} {es_WORDS : Array DictEntry} {n_WORDS : Nat}
    {A_TERMS : Addr} {od_TERMS : Option Addr} {its_TERMS : Array Value} {n_TERMS : Nat} {sl_TERMS : Array (Option Value)}
    (ha0 : PySem.W.nsIn K mainGlobals "has_leap_day" = some (some (.ref f0)))
    (hl0 : K.lookup f0 = some ⟨oc0, od0, .func (PySem.W.fnOf "has_leap_day" "has_leap_day" (defArgs s_has_leap_day) (defBody s_has_leap_day) (defScope s_has_leap_day) .none kV0 dc0 pm0 an0 cd0 ct0), sl0⟩)
    (hc0 : PySem.W.codeIn K cd0 "has_leap_day" = true)
    (hk0 : PySem.W.keepIn K (.ref f0) = true)
    (ha1 : PySem.W.nsIn K mainGlobals "days_in" = some (some (.ref f1)))
    (hl1 : K.lookup f1 = some ⟨oc1, od1, .func (PySem.W.fnOf "days_in" "days_in" (defArgs s_days_in) (defBody s_days_in) (defScope s_days_in) .none kV1 dc1 pm1 an1 cd1 ct1), sl1⟩)
    (hc1 : PySem.W.codeIn K cd1 "days_in" = true)
    (hk1 : PySem.W.keepIn K (.ref f1) = true)
    (ha2 : PySem.W.nsIn K mainGlobals "days_ahead_of_year" = some (some (.ref f2)))
    (hl2 : K.lookup f2 = some ⟨oc2, od2, .func (PySem.W.fnOf "days_ahead_of_year" "days_ahead_of_year" (defArgs s_days_ahead_of_year) (defBody s_days_ahead_of_year) (defScope s_days_ahead_of_year) .none kV2 dc2 pm2 an2 cd2 ct2), sl2⟩)
    (hc2 : PySem.W.codeIn K cd2 "days_ahead_of_year" = true)
    (hk2 : PySem.W.keepIn K (.ref f2) = true)
    (ha3 : PySem.W.nsIn K mainGlobals "day_of" = some (some (.ref f3)))
    (hl3 : K.lookup f3 = some ⟨oc3, od3, .func (PySem.W.fnOf "day_of" "day_of" (defArgs s_day_of) (defBody s_day_of) (defScope s_day_of) .none kV3 dc3 pm3 an3 cd3 ct3), sl3⟩)
    (hc3 : PySem.W.codeIn K cd3 "day_of" = true)
    (hk3 : PySem.W.keepIn K (.ref f3) = true)
    (ha4 : PySem.W.nsIn K mainGlobals "year_of" = some (some (.ref f4)))
    (hl4 : K.lookup f4 = some ⟨oc4, od4, .func (PySem.W.fnOf "year_of" "year_of" (defArgs s_year_of) (defBody s_year_of) (defScope s_year_of) .none kV4 dc4 pm4 an4 cd4 ct4), sl4⟩)
    (hc4 : PySem.W.codeIn K cd4 "year_of" = true)
    (hk4 : PySem.W.keepIn K (.ref f4) = true)
    (ha5 : PySem.W.nsIn K mainGlobals "date_of" = some (some (.ref f5)))
    (hl5 : K.lookup f5 = some ⟨oc5, od5, .func (PySem.W.fnOf "date_of" "date_of" (defArgs s_date_of) (defBody s_date_of) (defScope s_date_of) .none kV5 dc5 pm5 an5 cd5 ct5), sl5⟩)
    (hc5 : PySem.W.codeIn K cd5 "date_of" = true)
    (hk5 : PySem.W.keepIn K (.ref f5) = true)
    (ha6 : PySem.W.nsIn K mainGlobals "months_on" = some (some (.ref f6)))
    (hl6 : K.lookup f6 = some ⟨oc6, od6, .func (PySem.W.fnOf "months_on" "months_on" (defArgs s_months_on) (defBody s_months_on) (defScope s_months_on) .none kV6 dc6 pm6 an6 cd6 ct6), sl6⟩)
    (hc6 : PySem.W.codeIn K cd6 "months_on" = true)
    (hk6 : PySem.W.keepIn K (.ref f6) = true)
    (ha7 : PySem.W.nsIn K mainGlobals "begin_of" = some (some (.ref f7)))
    (hl7 : K.lookup f7 = some ⟨oc7, od7, .func (PySem.W.fnOf "begin_of" "begin_of" (defArgs s_begin_of) (defBody s_begin_of) (defScope s_begin_of) .none kV7 dc7 pm7 an7 cd7 ct7), sl7⟩)
    (hc7 : PySem.W.codeIn K cd7 "begin_of" = true)
    (hk7 : PySem.W.keepIn K (.ref f7) = true)
    (ha8 : PySem.W.nsIn K mainGlobals "span_on" = some (some (.ref f8)))
    (hl8 : K.lookup f8 = some ⟨oc8, od8, .func (PySem.W.fnOf "span_on" "span_on" (defArgs s_span_on) (defBody s_span_on) (defScope s_span_on) .none kV8 dc8 pm8 an8 cd8 ct8), sl8⟩)
    (hc8 : PySem.W.codeIn K cd8 "span_on" = true)
    (hk8 : PySem.W.keepIn K (.ref f8) = true)
    (ha9 : PySem.W.nsIn K mainGlobals "span_days" = some (some (.ref f9)))
    (hl9 : K.lookup f9 = some ⟨oc9, od9, .func (PySem.W.fnOf "span_days" "span_days" (defArgs s_span_days) (defBody s_span_days) (defScope s_span_days) .none kV9 dc9 pm9 an9 cd9 ct9), sl9⟩)
    (hc9 : PySem.W.codeIn K cd9 "span_days" = true)
    (hk9 : PySem.W.keepIn K (.ref f9) = true)
    (ha10 : PySem.W.nsIn K mainGlobals "span_with" = some (some (.ref f10)))
    (hl10 : K.lookup f10 = some ⟨oc10, od10, .func (PySem.W.fnOf "span_with" "span_with" (defArgs s_span_with) (defBody s_span_with) (defScope s_span_with) .none kV10 dc10 pm10 an10 cd10 ct10), sl10⟩)
    (hc10 : PySem.W.codeIn K cd10 "span_with" = true)
    (hk10 : PySem.W.keepIn K (.ref f10) = true)
    (ha11 : PySem.W.nsIn K mainGlobals "share" = some (some (.ref f11)))
    (hl11 : K.lookup f11 = some ⟨oc11, od11, .func (PySem.W.fnOf "share" "share" (defArgs s_share) (defBody s_share) (defScope s_share) .none kV11 dc11 pm11 an11 cd11 ct11), sl11⟩)
    (hc11 : PySem.W.codeIn K cd11 "share" = true)
    (hk11 : PySem.W.keepIn K (.ref f11) = true)
    (ha12 : PySem.W.nsIn K mainGlobals "counts_from" = some (some (.ref f12)))
    (hl12 : K.lookup f12 = some ⟨oc12, od12, .func (PySem.W.fnOf "counts_from" "counts_from" (defArgs s_counts_from) (defBody s_counts_from) (defScope s_counts_from) .none kV12 dc12 pm12 an12 cd12 ct12), sl12⟩)
    (hc12 : PySem.W.codeIn K cd12 "counts_from" = true)
    (hk12 : PySem.W.keepIn K (.ref f12) = true)
    (ha13 : PySem.W.nsIn K mainGlobals "in_order" = some (some (.ref f13)))
    (hl13 : K.lookup f13 = some ⟨oc13, od13, .func (PySem.W.fnOf "in_order" "in_order" (defArgs s_in_order) (defBody s_in_order) (defScope s_in_order) .none kV13 dc13 pm13 an13 cd13 ct13), sl13⟩)
    (hc13 : PySem.W.codeIn K cd13 "in_order" = true)
    (hk13 : PySem.W.keepIn K (.ref f13) = true)
    (ha14 : PySem.W.nsIn K mainGlobals "state_by" = some (some (.ref f14)))
    (hl14 : K.lookup f14 = some ⟨oc14, od14, .func (PySem.W.fnOf "state_by" "state_by" (defArgs s_state_by) (defBody s_state_by) (defScope s_state_by) .none kV14 dc14 pm14 an14 cd14 ct14), sl14⟩)
    (hc14 : PySem.W.codeIn K cd14 "state_by" = true)
    (hk14 : PySem.W.keepIn K (.ref f14) = true)
    (ha15 : PySem.W.nsIn K mainGlobals "stretches_by" = some (some (.ref f15)))
    (hl15 : K.lookup f15 = some ⟨oc15, od15, .func (PySem.W.fnOf "stretches_by" "stretches_by" (defArgs s_stretches_by) (defBody s_stretches_by) (defScope s_stretches_by) .none kV15 dc15 pm15 an15 cd15 ct15), sl15⟩)
    (hc15 : PySem.W.codeIn K cd15 "stretches_by" = true)
    (hk15 : PySem.W.keepIn K (.ref f15) = true)
    (ha16 : PySem.W.nsIn K mainGlobals "price_and_count" = some (some (.ref f16)))
    (hl16 : K.lookup f16 = some ⟨oc16, od16, .func (PySem.W.fnOf "price_and_count" "price_and_count" (defArgs s_price_and_count) (defBody s_price_and_count) (defScope s_price_and_count) .none kV16 dc16 pm16 an16 cd16 ct16), sl16⟩)
    (hc16 : PySem.W.codeIn K cd16 "price_and_count" = true)
    (hk16 : PySem.W.keepIn K (.ref f16) = true)
    (ha17 : PySem.W.nsIn K mainGlobals "stretch_cost" = some (some (.ref f17)))
    (hl17 : K.lookup f17 = some ⟨oc17, od17, .func (PySem.W.fnOf "stretch_cost" "stretch_cost" (defArgs s_stretch_cost) (defBody s_stretch_cost) (defScope s_stretch_cost) .none kV17 dc17 pm17 an17 cd17 ct17), sl17⟩)
    (hc17 : PySem.W.codeIn K cd17 "stretch_cost" = true)
    (hk17 : PySem.W.keepIn K (.ref f17) = true)
    (ha18 : PySem.W.nsIn K mainGlobals "lines_ahead" = some (some (.ref f18)))
    (hl18 : K.lookup f18 = some ⟨oc18, od18, .func (PySem.W.fnOf "lines_ahead" "lines_ahead" (defArgs s_lines_ahead) (defBody s_lines_ahead) (defScope s_lines_ahead) .none kV18 dc18 pm18 an18 cd18 ct18), sl18⟩)
    (hc18 : PySem.W.codeIn K cd18 "lines_ahead" = true)
    (hk18 : PySem.W.keepIn K (.ref f18) = true)
    (ha19 : PySem.W.nsIn K mainGlobals "cost_of" = some (some (.ref f19)))
    (hl19 : K.lookup f19 = some ⟨oc19, od19, .func (PySem.W.fnOf "cost_of" "cost_of" (defArgs s_cost_of) (defBody s_cost_of) (defScope s_cost_of) .none kV19 dc19 pm19 an19 cd19 ct19), sl19⟩)
    (hc19 : PySem.W.codeIn K cd19 "cost_of" = true)
    (hk19 : PySem.W.keepIn K (.ref f19) = true)
    (ha20 : PySem.W.nsIn K mainGlobals "span_lines" = some (some (.ref f20)))
    (hl20 : K.lookup f20 = some ⟨oc20, od20, .func (PySem.W.fnOf "span_lines" "span_lines" (defArgs s_span_lines) (defBody s_span_lines) (defScope s_span_lines) .none kV20 dc20 pm20 an20 cd20 ct20), sl20⟩)
    (hc20 : PySem.W.codeIn K cd20 "span_lines" = true)
    (hk20 : PySem.W.keepIn K (.ref f20) = true)
    (ha21 : PySem.W.nsIn K mainGlobals "span_cost" = some (some (.ref f21)))
    (hl21 : K.lookup f21 = some ⟨oc21, od21, .func (PySem.W.fnOf "span_cost" "span_cost" (defArgs s_span_cost) (defBody s_span_cost) (defScope s_span_cost) .none kV21 dc21 pm21 an21 cd21 ct21), sl21⟩)
    (hc21 : PySem.W.codeIn K cd21 "span_cost" = true)
    (hk21 : PySem.W.keepIn K (.ref f21) = true)
    (ha22 : PySem.W.nsIn K mainGlobals "is_term" = some (some (.ref f22)))
    (hl22 : K.lookup f22 = some ⟨oc22, od22, .func (PySem.W.fnOf "is_term" "is_term" (defArgs s_is_term) (defBody s_is_term) (defScope s_is_term) .none kV22 dc22 pm22 an22 cd22 ct22), sl22⟩)
    (hc22 : PySem.W.codeIn K cd22 "is_term" = true)
    (hk22 : PySem.W.keepIn K (.ref f22) = true)
    (ha23 : PySem.W.nsIn K mainGlobals "standing_terms" = some (some (.ref f23)))
    (hl23 : K.lookup f23 = some ⟨oc23, od23, .func (PySem.W.fnOf "standing_terms" "standing_terms" (defArgs s_standing_terms) (defBody s_standing_terms) (defScope s_standing_terms) .none kV23 dc23 pm23 an23 cd23 ct23), sl23⟩)
    (hc23 : PySem.W.codeIn K cd23 "standing_terms" = true)
    (hk23 : PySem.W.keepIn K (.ref f23) = true)
    (ha24 : PySem.W.nsIn K mainGlobals "terms_at" = some (some (.ref f24)))
    (hl24 : K.lookup f24 = some ⟨oc24, od24, .func (PySem.W.fnOf "terms_at" "terms_at" (defArgs s_terms_at) (defBody s_terms_at) (defScope s_terms_at) .none kV24 dc24 pm24 an24 cd24 ct24), sl24⟩)
    (hc24 : PySem.W.codeIn K cd24 "terms_at" = true)
    (hk24 : PySem.W.keepIn K (.ref f24) = true)
    (ha25 : PySem.W.nsIn K mainGlobals "costs_by" = some (some (.ref f25)))
    (hl25 : K.lookup f25 = some ⟨oc25, od25, .func (PySem.W.fnOf "costs_by" "costs_by" (defArgs s_costs_by) (defBody s_costs_by) (defScope s_costs_by) .none kV25 dc25 pm25 an25 cd25 ct25), sl25⟩)
    (hc25 : PySem.W.codeIn K cd25 "costs_by" = true)
    (hk25 : PySem.W.keepIn K (.ref f25) = true)
    (ha26 : PySem.W.nsIn K mainGlobals "moved" = some (some (.ref f26)))
    (hl26 : K.lookup f26 = some ⟨oc26, od26, .func (PySem.W.fnOf "moved" "moved" (defArgs s_moved) (defBody s_moved) (defScope s_moved) .none kV26 dc26 pm26 an26 cd26 ct26), sl26⟩)
    (hc26 : PySem.W.codeIn K cd26 "moved" = true)
    (hk26 : PySem.W.keepIn K (.ref f26) = true)
    (ha27 : PySem.W.nsIn K mainGlobals "_law_cell_at" = some (some (.ref f27)))
    (hl27 : K.lookup f27 = some ⟨oc27, od27, .func (PySem.W.fnOf "_law_cell_at" "_law_cell_at" (defArgs s_xL_cell_at) (defBody s_xL_cell_at) (defScope s_xL_cell_at) .none kV27 dc27 pm27 an27 cd27 ct27), sl27⟩)
    (hc27 : PySem.W.codeIn K cd27 "_law_cell_at" = true)
    (hk27 : PySem.W.keepIn K (.ref f27) = true)
    (ha28 : PySem.W.nsIn K mainGlobals "_law_mixed" = some (some (.ref f28)))
    (hl28 : K.lookup f28 = some ⟨oc28, od28, .func (PySem.W.fnOf "_law_mixed" "_law_mixed" (defArgs s_xL_mixed) (defBody s_xL_mixed) (defScope s_xL_mixed) .none kV28 dc28 pm28 an28 cd28 ct28), sl28⟩)
    (hc28 : PySem.W.codeIn K cd28 "_law_mixed" = true)
    (hk28 : PySem.W.keepIn K (.ref f28) = true)
    (ha29 : PySem.W.nsIn K mainGlobals "_law_plan_names" = some (some (.ref f29)))
    (hl29 : K.lookup f29 = some ⟨oc29, od29, .func (PySem.W.fnOf "_law_plan_names" "_law_plan_names" (defArgs s_xL_plan_names) (defBody s_xL_plan_names) (defScope s_xL_plan_names) .none kV29 dc29 pm29 an29 cd29 ct29), sl29⟩)
    (hc29 : PySem.W.codeIn K cd29 "_law_plan_names" = true)
    (hk29 : PySem.W.keepIn K (.ref f29) = true)
    (ha30 : PySem.W.nsIn K mainGlobals "_law_account" = some (some (.ref f30)))
    (hl30 : K.lookup f30 = some ⟨oc30, od30, .func (PySem.W.fnOf "_law_account" "_law_account" (defArgs s_xL_account) (defBody s_xL_account) (defScope s_xL_account) .none kV30 dc30 pm30 an30 cd30 ct30), sl30⟩)
    (hc30 : PySem.W.codeIn K cd30 "_law_account" = true)
    (hk30 : PySem.W.keepIn K (.ref f30) = true)
    (ha31 : PySem.W.nsIn K mainGlobals "_law_change" = some (some (.ref f31)))
    (hl31 : K.lookup f31 = some ⟨oc31, od31, .func (PySem.W.fnOf "_law_change" "_law_change" (defArgs s_xL_change) (defBody s_xL_change) (defScope s_xL_change) .none kV31 dc31 pm31 an31 cd31 ct31), sl31⟩)
    (hc31 : PySem.W.codeIn K cd31 "_law_change" = true)
    (hk31 : PySem.W.keepIn K (.ref f31) = true)
    (ha32 : PySem.W.nsIn K mainGlobals "_law_entries" = some (some (.ref f32)))
    (hl32 : K.lookup f32 = some ⟨oc32, od32, .func (PySem.W.fnOf "_law_entries" "_law_entries" (defArgs s_xL_entries) (defBody s_xL_entries) (defScope s_xL_entries) .none kV32 dc32 pm32 an32 cd32 ct32), sl32⟩)
    (hc32 : PySem.W.codeIn K cd32 "_law_entries" = true)
    (hk32 : PySem.W.keepIn K (.ref f32) = true)
    (ha33 : PySem.W.nsIn K mainGlobals "_law_known" = some (some (.ref f33)))
    (hl33 : K.lookup f33 = some ⟨oc33, od33, .func (PySem.W.fnOf "_law_known" "_law_known" (defArgs s_xL_known) (defBody s_xL_known) (defScope s_xL_known) .none kV33 dc33 pm33 an33 cd33 ct33), sl33⟩)
    (hc33 : PySem.W.codeIn K cd33 "_law_known" = true)
    (hk33 : PySem.W.keepIn K (.ref f33) = true)
    (ha34 : PySem.W.nsIn K mainGlobals "_law_whole" = some (some (.ref f34)))
    (hl34 : K.lookup f34 = some ⟨oc34, od34, .func (PySem.W.fnOf "_law_whole" "_law_whole" (defArgs s_xL_whole) (defBody s_xL_whole) (defScope s_xL_whole) .none kV34 dc34 pm34 an34 cd34 ct34), sl34⟩)
    (hc34 : PySem.W.codeIn K cd34 "_law_whole" = true)
    (hk34 : PySem.W.keepIn K (.ref f34) = true)
    (ha35 : PySem.W.nsIn K mainGlobals "_law_due" = some (some (.ref f35)))
    (hl35 : K.lookup f35 = some ⟨oc35, od35, .func (PySem.W.fnOf "_law_due" "_law_due" (defArgs s_xL_due) (defBody s_xL_due) (defScope s_xL_due) .none kV35 dc35 pm35 an35 cd35 ct35), sl35⟩)
    (hc35 : PySem.W.codeIn K cd35 "_law_due" = true)
    (hk35 : PySem.W.keepIn K (.ref f35) = true)
    (ha36 : PySem.W.nsIn K mainGlobals "_law_told" = some (some (.ref f36)))
    (hl36 : K.lookup f36 = some ⟨oc36, od36, .func (PySem.W.fnOf "_law_told" "_law_told" (defArgs s_xL_told) (defBody s_xL_told) (defScope s_xL_told) .none kV36 dc36 pm36 an36 cd36 ct36), sl36⟩)
    (hc36 : PySem.W.codeIn K cd36 "_law_told" = true)
    (hk36 : PySem.W.keepIn K (.ref f36) = true)
    (ha37 : PySem.W.nsIn K mainGlobals "_law_are_rows" = some (some (.ref f37)))
    (hl37 : K.lookup f37 = some ⟨oc37, od37, .func (PySem.W.fnOf "_law_are_rows" "_law_are_rows" (defArgs s_xL_are_rows) (defBody s_xL_are_rows) (defScope s_xL_are_rows) .none kV37 dc37 pm37 an37 cd37 ct37), sl37⟩)
    (hc37 : PySem.W.codeIn K cd37 "_law_are_rows" = true)
    (hk37 : PySem.W.keepIn K (.ref f37) = true)
    (ha38 : PySem.W.nsIn K mainGlobals "_law_pair" = some (some (.ref f38)))
    (hl38 : K.lookup f38 = some ⟨oc38, od38, .func (PySem.W.fnOf "_law_pair" "_law_pair" (defArgs s_xL_pair) (defBody s_xL_pair) (defScope s_xL_pair) .none kV38 dc38 pm38 an38 cd38 ct38), sl38⟩)
    (hc38 : PySem.W.codeIn K cd38 "_law_pair" = true)
    (hk38 : PySem.W.keepIn K (.ref f38) = true)
    (ha39 : PySem.W.nsIn K mainGlobals "law" = some (some (.ref f39)))
    (hl39 : K.lookup f39 = some ⟨oc39, od39, .func (PySem.W.fnOf "law" "law" (defArgs s_law) (defBody s_law) (defScope s_law) .none kV39 dc39 pm39 an39 cd39 ct39), sl39⟩)
    (hc39 : PySem.W.codeIn K cd39 "law" = true)
    (hk39 : PySem.W.keepIn K (.ref f39) = true)
    (g_SpanError : PySem.W.nsIn K mainGlobals "SpanError" = some (some (.ref C_SpanError)))
    (gc_SpanError : PySem.W.clsIn K C_SpanError = some cd_SpanError)
    (gt_SpanError : PySem.W.typeIn K (.ref C_SpanError) = some (.type "type"))
    (gm_SpanError : PySem.W.mroIn K C_SpanError (.ref C_SpanError) = some true)
    (g_NoDate : PySem.W.nsIn K mainGlobals "NoDate" = some (some (.ref C_NoDate)))
    (gc_NoDate : PySem.W.clsIn K C_NoDate = some cd_NoDate)
    (gt_NoDate : PySem.W.typeIn K (.ref C_NoDate) = some (.type "type"))
    (gm_NoDate : PySem.W.mroIn K C_NoDate (.ref C_NoDate) = some true)
    (g_NoSpan : PySem.W.nsIn K mainGlobals "NoSpan" = some (some (.ref C_NoSpan)))
    (gc_NoSpan : PySem.W.clsIn K C_NoSpan = some cd_NoSpan)
    (gt_NoSpan : PySem.W.typeIn K (.ref C_NoSpan) = some (.type "type"))
    (gm_NoSpan : PySem.W.mroIn K C_NoSpan (.ref C_NoSpan) = some true)
    (g_TooLong : PySem.W.nsIn K mainGlobals "TooLong" = some (some (.ref C_TooLong)))
    (gc_TooLong : PySem.W.clsIn K C_TooLong = some cd_TooLong)
    (gt_TooLong : PySem.W.typeIn K (.ref C_TooLong) = some (.type "type"))
    (gm_TooLong : PySem.W.mroIn K C_TooLong (.ref C_TooLong) = some true)
    (gx_NoDate : PySem.W.excIn K C_NoDate [.type "ValueError", .type "Exception", .type "BaseException", .type "object"] "ValueError.__new__" = true)
    (gx_NoSpan : PySem.W.excIn K C_NoSpan [.type "ValueError", .type "Exception", .type "BaseException", .type "object"] "ValueError.__new__" = true)
    (gx_TooLong : PySem.W.excIn K C_TooLong [.type "ValueError", .type "Exception", .type "BaseException", .type "object"] "ValueError.__new__" = true)
    (k_LAST_YEAR : PySem.W.nsIn K mainGlobals "LAST_YEAR" = some (some (.int 9999 tk_LAST_YEAR)))
    (k_LAST_DAY : PySem.W.nsIn K mainGlobals "LAST_DAY" = some (some (.int 3652058 tk_LAST_DAY)))
    (k_MONTH_DAYS : PySem.W.nsIn K mainGlobals "MONTH_DAYS" = some (some (.ref A_MONTH_DAYS)))
    (kl_MONTH_DAYS : K.lookup A_MONTH_DAYS = some ⟨.type "tuple", od_MONTH_DAYS, .seq its_MONTH_DAYS n_MONTH_DAYS, sl_MONTH_DAYS⟩)
    (kz_MONTH_DAYS : its_MONTH_DAYS.size ≤ sizeLine)
    (kv_MONTH_DAYS : Vals [.int 31, .int 28, .int 31, .int 30, .int 31, .int 30, .int 31, .int 31, .int 30, .int 31, .int 30, .int 31] its_MONTH_DAYS.toList)
    (k_ROUND_DAYS : PySem.W.nsIn K mainGlobals "ROUND_DAYS" = some (some (.int 146097 tk_ROUND_DAYS)))
    (k_HUNDRED_YEARS_DAYS : PySem.W.nsIn K mainGlobals "HUNDRED_YEARS_DAYS" = some (some (.int 36524 tk_HUNDRED_YEARS_DAYS)))
    (k_FOUR_YEARS_DAYS : PySem.W.nsIn K mainGlobals "FOUR_YEARS_DAYS" = some (some (.int 1461 tk_FOUR_YEARS_DAYS)))
    (k_YEAR_DAYS : PySem.W.nsIn K mainGlobals "YEAR_DAYS" = some (some (.int 365 tk_YEAR_DAYS)))
    (k_SPANS : PySem.W.nsIn K mainGlobals "SPANS" = some (some (.int 60 tk_SPANS)))
    (k_WORDS : PySem.W.nsIn K mainGlobals "WORDS" = some (some (.ref A_WORDS)))
    (kl_WORDS : K.lookup A_WORDS = some ⟨.type "dict", none, .dict es_WORDS n_WORDS, #[]⟩)
    (kv_WORDS : DcOk w es_WORDS.toList [(SL [104, 111, 108, 100], .str (SL [104, 101, 108, 100])), (SL [103, 111], .str (SL [111, 110])), (SL [115, 116, 111, 112], .str (SL [111, 102, 102])), (SL [108, 97, 115, 116], .str (SL [111, 102, 102]))])
    (k_TERMS : PySem.W.nsIn K mainGlobals "TERMS" = some (some (.ref A_TERMS)))
    (kl_TERMS : K.lookup A_TERMS = some ⟨.type "tuple", od_TERMS, .seq its_TERMS n_TERMS, sl_TERMS⟩)
    (kz_TERMS : its_TERMS.size ≤ sizeLine)
    (kv_TERMS : Vals [.str (SL [112, 108, 97, 110]), .str (SL [115, 101, 97, 116, 115]), .str (SL [104, 111, 108, 100]), .str (SL [103, 111]), .str (SL [115, 116, 111, 112]), .str (SL [108, 97, 115, 116])] its_TERMS.toList)
    (z_range : PySem.W.nsIn K mainGlobals "range" = some none)
    (z_divmod : PySem.W.nsIn K mainGlobals "divmod" = some none)
    (z_min : PySem.W.nsIn K mainGlobals "min" = some none)
    (z_sorted : PySem.W.nsIn K mainGlobals "sorted" = some none)
    (z_sum : PySem.W.nsIn K mainGlobals "sum" = some none)
    (z_enumerate : PySem.W.nsIn K mainGlobals "enumerate" = some none)
    (z_list : PySem.W.nsIn K mainGlobals "list" = some none)
    (z_len : PySem.W.nsIn K mainGlobals "len" = some none)
    (z_int : PySem.W.nsIn K mainGlobals "int" = some none)
    (z_isinstance : PySem.W.nsIn K mainGlobals "isinstance" = some none)
    (z_bool : PySem.W.nsIn K mainGlobals "bool" = some none)
    (z_tuple : PySem.W.nsIn K mainGlobals "tuple" = some none)
    (z_max : PySem.W.nsIn K mainGlobals "max" = some none)
    (xga_NoSpan : PySem.W.findIn K (.ref C_NoSpan) "__getattribute__" = some (some (.builtin "BaseException.__getattribute__")))
    (xgt_NoSpan : PySem.W.findIn K (.ref C_NoSpan) "__getattr__" = some none)
    (xcl_NoSpan : PySem.W.findIn K (.ref C_NoSpan) "__class__" = some (some (.builtin "object.__class__")))
    (xmo_NoSpan : PySem.W.mroIn K C_NoSpan (.type "object") = some true)
    (xmb_NoSpan : PySem.W.mroIn K C_NoSpan (.type "BaseException") = some true)
    (xga_TooLong : PySem.W.findIn K (.ref C_TooLong) "__getattribute__" = some (some (.builtin "BaseException.__getattribute__")))
    (xgt_TooLong : PySem.W.findIn K (.ref C_TooLong) "__getattr__" = some none)
    (xcl_TooLong : PySem.W.findIn K (.ref C_TooLong) "__class__" = some (some (.builtin "object.__class__")))
    (xmo_TooLong : PySem.W.mroIn K C_TooLong (.type "object") = some true)
    (xmb_TooLong : PySem.W.mroIn K C_TooLong (.type "BaseException") = some true)
    (m_NoSpan_SpanError : PySem.W.mroIn K C_NoSpan (.ref C_SpanError) = some true)
    (m_NoSpan_NoDate : PySem.W.mroIn K C_NoSpan (.ref C_NoDate) = some false)
    (m_NoSpan_NoSpan : PySem.W.mroIn K C_NoSpan (.ref C_NoSpan) = some true)
    (m_NoSpan_TooLong : PySem.W.mroIn K C_NoSpan (.ref C_TooLong) = some false)
    (m_NoSpan_ValueError : PySem.W.mroIn K C_NoSpan (.type "ValueError") = some true)
    (m_TooLong_SpanError : PySem.W.mroIn K C_TooLong (.ref C_SpanError) = some true)
    (m_TooLong_NoDate : PySem.W.mroIn K C_TooLong (.ref C_NoDate) = some false)
    (m_TooLong_NoSpan : PySem.W.mroIn K C_TooLong (.ref C_NoSpan) = some false)
    (m_TooLong_TooLong : PySem.W.mroIn K C_TooLong (.ref C_TooLong) = some true)
    (m_TooLong_ValueError : PySem.W.mroIn K C_TooLong (.type "ValueError") = some true)
    (m_SpanError_BaseException : PySem.W.mroIn K C_SpanError (.type "BaseException") = some true)
    : ∃ t, Txt w K mg t :=
  ⟨{ a_has_leap_day := f0, d_has_leap_day := PySem.W.fnOf "has_leap_day" "has_leap_day" (defArgs s_has_leap_day) (defBody s_has_leap_day) (defScope s_has_leap_day) .none kV0 dc0 pm0 an0 cd0 ct0,
     a_days_in := f1, d_days_in := PySem.W.fnOf "days_in" "days_in" (defArgs s_days_in) (defBody s_days_in) (defScope s_days_in) .none kV1 dc1 pm1 an1 cd1 ct1,
     a_days_ahead_of_year := f2, d_days_ahead_of_year := PySem.W.fnOf "days_ahead_of_year" "days_ahead_of_year" (defArgs s_days_ahead_of_year) (defBody s_days_ahead_of_year) (defScope s_days_ahead_of_year) .none kV2 dc2 pm2 an2 cd2 ct2,
     a_day_of := f3, d_day_of := PySem.W.fnOf "day_of" "day_of" (defArgs s_day_of) (defBody s_day_of) (defScope s_day_of) .none kV3 dc3 pm3 an3 cd3 ct3,
     a_year_of := f4, d_year_of := PySem.W.fnOf "year_of" "year_of" (defArgs s_year_of) (defBody s_year_of) (defScope s_year_of) .none kV4 dc4 pm4 an4 cd4 ct4,
     a_date_of := f5, d_date_of := PySem.W.fnOf "date_of" "date_of" (defArgs s_date_of) (defBody s_date_of) (defScope s_date_of) .none kV5 dc5 pm5 an5 cd5 ct5,
     a_months_on := f6, d_months_on := PySem.W.fnOf "months_on" "months_on" (defArgs s_months_on) (defBody s_months_on) (defScope s_months_on) .none kV6 dc6 pm6 an6 cd6 ct6,
     a_begin_of := f7, d_begin_of := PySem.W.fnOf "begin_of" "begin_of" (defArgs s_begin_of) (defBody s_begin_of) (defScope s_begin_of) .none kV7 dc7 pm7 an7 cd7 ct7,
     a_span_on := f8, d_span_on := PySem.W.fnOf "span_on" "span_on" (defArgs s_span_on) (defBody s_span_on) (defScope s_span_on) .none kV8 dc8 pm8 an8 cd8 ct8,
     a_span_days := f9, d_span_days := PySem.W.fnOf "span_days" "span_days" (defArgs s_span_days) (defBody s_span_days) (defScope s_span_days) .none kV9 dc9 pm9 an9 cd9 ct9,
     a_span_with := f10, d_span_with := PySem.W.fnOf "span_with" "span_with" (defArgs s_span_with) (defBody s_span_with) (defScope s_span_with) .none kV10 dc10 pm10 an10 cd10 ct10,
     a_share := f11, d_share := PySem.W.fnOf "share" "share" (defArgs s_share) (defBody s_share) (defScope s_share) .none kV11 dc11 pm11 an11 cd11 ct11,
     a_counts_from := f12, d_counts_from := PySem.W.fnOf "counts_from" "counts_from" (defArgs s_counts_from) (defBody s_counts_from) (defScope s_counts_from) .none kV12 dc12 pm12 an12 cd12 ct12,
     a_in_order := f13, d_in_order := PySem.W.fnOf "in_order" "in_order" (defArgs s_in_order) (defBody s_in_order) (defScope s_in_order) .none kV13 dc13 pm13 an13 cd13 ct13,
     a_state_by := f14, d_state_by := PySem.W.fnOf "state_by" "state_by" (defArgs s_state_by) (defBody s_state_by) (defScope s_state_by) .none kV14 dc14 pm14 an14 cd14 ct14,
     a_stretches_by := f15, d_stretches_by := PySem.W.fnOf "stretches_by" "stretches_by" (defArgs s_stretches_by) (defBody s_stretches_by) (defScope s_stretches_by) .none kV15 dc15 pm15 an15 cd15 ct15,
     a_price_and_count := f16, d_price_and_count := PySem.W.fnOf "price_and_count" "price_and_count" (defArgs s_price_and_count) (defBody s_price_and_count) (defScope s_price_and_count) .none kV16 dc16 pm16 an16 cd16 ct16,
     a_stretch_cost := f17, d_stretch_cost := PySem.W.fnOf "stretch_cost" "stretch_cost" (defArgs s_stretch_cost) (defBody s_stretch_cost) (defScope s_stretch_cost) .none kV17 dc17 pm17 an17 cd17 ct17,
     a_lines_ahead := f18, d_lines_ahead := PySem.W.fnOf "lines_ahead" "lines_ahead" (defArgs s_lines_ahead) (defBody s_lines_ahead) (defScope s_lines_ahead) .none kV18 dc18 pm18 an18 cd18 ct18,
     a_cost_of := f19, d_cost_of := PySem.W.fnOf "cost_of" "cost_of" (defArgs s_cost_of) (defBody s_cost_of) (defScope s_cost_of) .none kV19 dc19 pm19 an19 cd19 ct19,
     a_span_lines := f20, d_span_lines := PySem.W.fnOf "span_lines" "span_lines" (defArgs s_span_lines) (defBody s_span_lines) (defScope s_span_lines) .none kV20 dc20 pm20 an20 cd20 ct20,
     a_span_cost := f21, d_span_cost := PySem.W.fnOf "span_cost" "span_cost" (defArgs s_span_cost) (defBody s_span_cost) (defScope s_span_cost) .none kV21 dc21 pm21 an21 cd21 ct21,
     a_is_term := f22, d_is_term := PySem.W.fnOf "is_term" "is_term" (defArgs s_is_term) (defBody s_is_term) (defScope s_is_term) .none kV22 dc22 pm22 an22 cd22 ct22,
     a_standing_terms := f23, d_standing_terms := PySem.W.fnOf "standing_terms" "standing_terms" (defArgs s_standing_terms) (defBody s_standing_terms) (defScope s_standing_terms) .none kV23 dc23 pm23 an23 cd23 ct23,
     a_terms_at := f24, d_terms_at := PySem.W.fnOf "terms_at" "terms_at" (defArgs s_terms_at) (defBody s_terms_at) (defScope s_terms_at) .none kV24 dc24 pm24 an24 cd24 ct24,
     a_costs_by := f25, d_costs_by := PySem.W.fnOf "costs_by" "costs_by" (defArgs s_costs_by) (defBody s_costs_by) (defScope s_costs_by) .none kV25 dc25 pm25 an25 cd25 ct25,
     a_moved := f26, d_moved := PySem.W.fnOf "moved" "moved" (defArgs s_moved) (defBody s_moved) (defScope s_moved) .none kV26 dc26 pm26 an26 cd26 ct26,
     a_xL_cell_at := f27, d_xL_cell_at := PySem.W.fnOf "_law_cell_at" "_law_cell_at" (defArgs s_xL_cell_at) (defBody s_xL_cell_at) (defScope s_xL_cell_at) .none kV27 dc27 pm27 an27 cd27 ct27,
     a_xL_mixed := f28, d_xL_mixed := PySem.W.fnOf "_law_mixed" "_law_mixed" (defArgs s_xL_mixed) (defBody s_xL_mixed) (defScope s_xL_mixed) .none kV28 dc28 pm28 an28 cd28 ct28,
     a_xL_plan_names := f29, d_xL_plan_names := PySem.W.fnOf "_law_plan_names" "_law_plan_names" (defArgs s_xL_plan_names) (defBody s_xL_plan_names) (defScope s_xL_plan_names) .none kV29 dc29 pm29 an29 cd29 ct29,
     a_xL_account := f30, d_xL_account := PySem.W.fnOf "_law_account" "_law_account" (defArgs s_xL_account) (defBody s_xL_account) (defScope s_xL_account) .none kV30 dc30 pm30 an30 cd30 ct30,
     a_xL_change := f31, d_xL_change := PySem.W.fnOf "_law_change" "_law_change" (defArgs s_xL_change) (defBody s_xL_change) (defScope s_xL_change) .none kV31 dc31 pm31 an31 cd31 ct31,
     a_xL_entries := f32, d_xL_entries := PySem.W.fnOf "_law_entries" "_law_entries" (defArgs s_xL_entries) (defBody s_xL_entries) (defScope s_xL_entries) .none kV32 dc32 pm32 an32 cd32 ct32,
     a_xL_known := f33, d_xL_known := PySem.W.fnOf "_law_known" "_law_known" (defArgs s_xL_known) (defBody s_xL_known) (defScope s_xL_known) .none kV33 dc33 pm33 an33 cd33 ct33,
     a_xL_whole := f34, d_xL_whole := PySem.W.fnOf "_law_whole" "_law_whole" (defArgs s_xL_whole) (defBody s_xL_whole) (defScope s_xL_whole) .none kV34 dc34 pm34 an34 cd34 ct34,
     a_xL_due := f35, d_xL_due := PySem.W.fnOf "_law_due" "_law_due" (defArgs s_xL_due) (defBody s_xL_due) (defScope s_xL_due) .none kV35 dc35 pm35 an35 cd35 ct35,
     a_xL_told := f36, d_xL_told := PySem.W.fnOf "_law_told" "_law_told" (defArgs s_xL_told) (defBody s_xL_told) (defScope s_xL_told) .none kV36 dc36 pm36 an36 cd36 ct36,
     a_xL_are_rows := f37, d_xL_are_rows := PySem.W.fnOf "_law_are_rows" "_law_are_rows" (defArgs s_xL_are_rows) (defBody s_xL_are_rows) (defScope s_xL_are_rows) .none kV37 dc37 pm37 an37 cd37 ct37,
     a_xL_pair := f38, d_xL_pair := PySem.W.fnOf "_law_pair" "_law_pair" (defArgs s_xL_pair) (defBody s_xL_pair) (defScope s_xL_pair) .none kV38 dc38 pm38 an38 cd38 ct38,
     a_law := f39, d_law := PySem.W.fnOf "law" "law" (defArgs s_law) (defBody s_law) (defScope s_law) .none kV39 dc39 pm39 an39 cd39 ct39,
     c_SpanError := C_SpanError,
     c_NoDate := C_NoDate,
     c_NoSpan := C_NoSpan,
     c_TooLong := C_TooLong },
   { mg_has_leap_day := PySem.W.mg_of X G ha0,
     fn_has_leap_day := fun_mk (st := s_has_leap_day) hl0 hc0 hk0,
     b_has_leap_day := (fun_mk (st := s_has_leap_day) hl0 hc0 hk0).binds (ps := ["year"]) fun _ _ _ _ _ _ us hl => match us, hl with | [_], _ => rfl,
     mg_days_in := PySem.W.mg_of X G ha1,
     fn_days_in := fun_mk (st := s_days_in) hl1 hc1 hk1,
     b_days_in := (fun_mk (st := s_days_in) hl1 hc1 hk1).binds (ps := ["year", "month"]) fun _ _ _ _ _ _ us hl => match us, hl with | [_, _], _ => rfl,
     mg_days_ahead_of_year := PySem.W.mg_of X G ha2,
     fn_days_ahead_of_year := fun_mk (st := s_days_ahead_of_year) hl2 hc2 hk2,
     b_days_ahead_of_year := (fun_mk (st := s_days_ahead_of_year) hl2 hc2 hk2).binds (ps := ["year"]) fun _ _ _ _ _ _ us hl => match us, hl with | [_], _ => rfl,
     mg_day_of := PySem.W.mg_of X G ha3,
     fn_day_of := fun_mk (st := s_day_of) hl3 hc3 hk3,
     b_day_of := (fun_mk (st := s_day_of) hl3 hc3 hk3).binds (ps := ["year", "month", "day"]) fun _ _ _ _ _ _ us hl => match us, hl with | [_, _, _], _ => rfl,
     mg_year_of := PySem.W.mg_of X G ha4,
     fn_year_of := fun_mk (st := s_year_of) hl4 hc4 hk4,
     b_year_of := (fun_mk (st := s_year_of) hl4 hc4 hk4).binds (ps := ["number"]) fun _ _ _ _ _ _ us hl => match us, hl with | [_], _ => rfl,
     mg_date_of := PySem.W.mg_of X G ha5,
     fn_date_of := fun_mk (st := s_date_of) hl5 hc5 hk5,
     b_date_of := (fun_mk (st := s_date_of) hl5 hc5 hk5).binds (ps := ["number"]) fun _ _ _ _ _ _ us hl => match us, hl with | [_], _ => rfl,
     mg_months_on := PySem.W.mg_of X G ha6,
     fn_months_on := fun_mk (st := s_months_on) hl6 hc6 hk6,
     b_months_on := (fun_mk (st := s_months_on) hl6 hc6 hk6).binds (ps := ["number", "many"]) fun _ _ _ _ _ _ us hl => match us, hl with | [_, _], _ => rfl,
     mg_begin_of := PySem.W.mg_of X G ha7,
     fn_begin_of := fun_mk (st := s_begin_of) hl7 hc7 hk7,
     b_begin_of := (fun_mk (st := s_begin_of) hl7 hc7 hk7).binds (ps := ["first", "cycle", "k"]) fun _ _ _ _ _ _ us hl => match us, hl with | [_, _, _], _ => rfl,
     mg_span_on := PySem.W.mg_of X G ha8,
     fn_span_on := fun_mk (st := s_span_on) hl8 hc8 hk8,
     b_span_on := (fun_mk (st := s_span_on) hl8 hc8 hk8).binds (ps := ["first", "cycle", "day"]) fun _ _ _ _ _ _ us hl => match us, hl with | [_, _, _], _ => rfl,
     mg_span_days := PySem.W.mg_of X G ha9,
     fn_span_days := fun_mk (st := s_span_days) hl9 hc9 hk9,
     b_span_days := (fun_mk (st := s_span_days) hl9 hc9 hk9).binds (ps := ["account", "k"]) fun _ _ _ _ _ _ us hl => match us, hl with | [_, _], _ => rfl,
     mg_span_with := PySem.W.mg_of X G ha10,
     fn_span_with := fun_mk (st := s_span_with) hl10 hc10 hk10,
     b_span_with := (fun_mk (st := s_span_with) hl10 hc10 hk10).binds (ps := ["account", "day"]) fun _ _ _ _ _ _ us hl => match us, hl with | [_, _], _ => rfl,
     mg_share := PySem.W.mg_of X G ha11,
     fn_share := fun_mk (st := s_share) hl11 hc11 hk11,
     b_share := (fun_mk (st := s_share) hl11 hc11 hk11).binds (ps := ["price", "count", "begin", "end"]) fun _ _ _ _ _ _ us hl => match us, hl with | [_, _, _, _], _ => rfl,
     mg_counts_from := PySem.W.mg_of X G ha12,
     fn_counts_from := fun_mk (st := s_counts_from) hl12 hc12 hk12,
     b_counts_from := (fun_mk (st := s_counts_from) hl12 hc12 hk12).binds (ps := ["account", "change"]) fun _ _ _ _ _ _ us hl => match us, hl with | [_, _], _ => rfl,
     mg_in_order := PySem.W.mg_of X G ha13,
     fn_in_order := fun_mk (st := s_in_order) hl13 hc13 hk13,
     b_in_order := (fun_mk (st := s_in_order) hl13 hc13 hk13).binds (ps := ["account", "terms"]) fun _ _ _ _ _ _ us hl => match us, hl with | [_, _], _ => rfl,
     mg_state_by := PySem.W.mg_of X G ha14,
     fn_state_by := fun_mk (st := s_state_by) hl14 hc14 hk14,
     b_state_by := (fun_mk (st := s_state_by) hl14 hc14 hk14).binds (ps := ["ordered", "day"]) fun _ _ _ _ _ _ us hl => match us, hl with | [_, _], _ => rfl,
     mg_stretches_by := PySem.W.mg_of X G ha15,
     fn_stretches_by := fun_mk (st := s_stretches_by) hl15 hc15 hk15,
     b_stretches_by := (fun_mk (st := s_stretches_by) hl15 hc15 hk15).binds (ps := ["ordered", "begin", "end"]) fun _ _ _ _ _ _ us hl => match us, hl with | [_, _, _], _ => rfl,
     mg_price_and_count := PySem.W.mg_of X G ha16,
     fn_price_and_count := fun_mk (st := s_price_and_count) hl16 hc16 hk16,
     b_price_and_count := (fun_mk (st := s_price_and_count) hl16 hc16 hk16).binds (ps := ["account", "name"]) fun _ _ _ _ _ _ us hl => match us, hl with | [_, _], _ => rfl,
     mg_stretch_cost := PySem.W.mg_of X G ha17,
     fn_stretch_cost := fun_mk (st := s_stretch_cost) hl17 hc17 hk17,
     b_stretch_cost := (fun_mk (st := s_stretch_cost) hl17 hc17 hk17).binds (ps := ["account", "span", "stretch"]) fun _ _ _ _ _ _ us hl => match us, hl with | [_, _, _], _ => rfl,
     mg_lines_ahead := PySem.W.mg_of X G ha18,
     fn_lines_ahead := fun_mk (st := s_lines_ahead) hl18 hc18 hk18,
     b_lines_ahead := (fun_mk (st := s_lines_ahead) hl18 hc18 hk18).binds (ps := ["account", "ordered", "span", "day"]) fun _ _ _ _ _ _ us hl => match us, hl with | [_, _, _, _], _ => rfl,
     mg_cost_of := PySem.W.mg_of X G ha19,
     fn_cost_of := fun_mk (st := s_cost_of) hl19 hc19 hk19,
     b_cost_of := (fun_mk (st := s_cost_of) hl19 hc19 hk19).binds (ps := ["lines"]) fun _ _ _ _ _ _ us hl => match us, hl with | [_], _ => rfl,
     mg_span_lines := PySem.W.mg_of X G ha20,
     fn_span_lines := fun_mk (st := s_span_lines) hl20 hc20 hk20,
     b_span_lines := (fun_mk (st := s_span_lines) hl20 hc20 hk20).binds (ps := ["account", "terms", "k"]) fun _ _ _ _ _ _ us hl => match us, hl with | [_, _, _], _ => rfl,
     mg_span_cost := PySem.W.mg_of X G ha21,
     fn_span_cost := fun_mk (st := s_span_cost) hl21 hc21 hk21,
     b_span_cost := (fun_mk (st := s_span_cost) hl21 hc21 hk21).binds (ps := ["account", "terms", "k"]) fun _ _ _ _ _ _ us hl => match us, hl with | [_, _, _], _ => rfl,
     mg_is_term := PySem.W.mg_of X G ha22,
     fn_is_term := fun_mk (st := s_is_term) hl22 hc22 hk22,
     b_is_term := (fun_mk (st := s_is_term) hl22 hc22 hk22).binds (ps := ["change"]) fun _ _ _ _ _ _ us hl => match us, hl with | [_], _ => rfl,
     mg_standing_terms := PySem.W.mg_of X G ha23,
     fn_standing_terms := fun_mk (st := s_standing_terms) hl23 hc23 hk23,
     b_standing_terms := (fun_mk (st := s_standing_terms) hl23 hc23 hk23).binds (ps := ["entries"]) fun _ _ _ _ _ _ us hl => match us, hl with | [_], _ => rfl,
     mg_terms_at := PySem.W.mg_of X G ha24,
     fn_terms_at := fun_mk (st := s_terms_at) hl24 hc24 hk24,
     b_terms_at := (fun_mk (st := s_terms_at) hl24 hc24 hk24).binds (ps := ["entries", "moment"]) fun _ _ _ _ _ _ us hl => match us, hl with | [_, _], _ => rfl,
     mg_costs_by := PySem.W.mg_of X G ha25,
     fn_costs_by := fun_mk (st := s_costs_by) hl25 hc25 hk25,
     b_costs_by := (fun_mk (st := s_costs_by) hl25 hc25 hk25).binds (ps := ["account", "entries", "many", "moment"]) fun _ _ _ _ _ _ us hl => match us, hl with | [_, _, _, _], _ => rfl,
     mg_moved := PySem.W.mg_of X G ha26,
     fn_moved := fun_mk (st := s_moved) hl26 hc26 hk26,
     b_moved := (fun_mk (st := s_moved) hl26 hc26 hk26).binds (ps := ["account", "entries", "one", "other"]) fun _ _ _ _ _ _ us hl => match us, hl with | [_, _, _, _], _ => rfl,
     mg_xL_cell_at := PySem.W.mg_of X G ha27,
     fn_xL_cell_at := fun_mk (st := s_xL_cell_at) hl27 hc27 hk27,
     b_xL_cell_at := (fun_mk (st := s_xL_cell_at) hl27 hc27 hk27).binds (ps := ["_law_script", "_law_k"]) fun _ _ _ _ _ _ us hl => match us, hl with | [_, _], _ => rfl,
     mg_xL_mixed := PySem.W.mg_of X G ha28,
     fn_xL_mixed := fun_mk (st := s_xL_mixed) hl28 hc28 hk28,
     b_xL_mixed := (fun_mk (st := s_xL_mixed) hl28 hc28 hk28).binds (ps := ["_law_cell", "_law_k"]) fun _ _ _ _ _ _ us hl => match us, hl with | [_, _], _ => rfl,
     mg_xL_plan_names := PySem.W.mg_of X G ha29,
     fn_xL_plan_names := fun_mk (st := s_xL_plan_names) hl29 hc29 hk29,
     b_xL_plan_names := (fun_mk (st := s_xL_plan_names) hl29 hc29 hk29).binds (ps := ["_law_cell", "_law_many"]) fun _ _ _ _ _ _ us hl => match us, hl with | [_, _], _ => rfl,
     mg_xL_account := PySem.W.mg_of X G ha30,
     fn_xL_account := fun_mk (st := s_xL_account) hl30 hc30 hk30,
     b_xL_account := (fun_mk (st := s_xL_account) hl30 hc30 hk30).binds (ps := ["_law_script"]) fun _ _ _ _ _ _ us hl => match us, hl with | [_], _ => rfl,
     mg_xL_change := PySem.W.mg_of X G ha31,
     fn_xL_change := fun_mk (st := s_xL_change) hl31 hc31 hk31,
     b_xL_change := (fun_mk (st := s_xL_change) hl31 hc31 hk31).binds (ps := ["_law_account_here", "_law_n", "_law_own", "_law_free"]) fun _ _ _ _ _ _ us hl => match us, hl with | [_, _, _, _], _ => rfl,
     mg_xL_entries := PySem.W.mg_of X G ha32,
     fn_xL_entries := fun_mk (st := s_xL_entries) hl32 hc32 hk32,
     b_xL_entries := (fun_mk (st := s_xL_entries) hl32 hc32 hk32).binds (ps := ["_law_script", "_law_account_here", "_law_start"]) fun _ _ _ _ _ _ us hl => match us, hl with | [_, _, _], _ => rfl,
     mg_xL_known := PySem.W.mg_of X G ha33,
     fn_xL_known := fun_mk (st := s_xL_known) hl33 hc33 hk33,
     b_xL_known := (fun_mk (st := s_xL_known) hl33 hc33 hk33).binds (ps := ["_law_entries_here", "_law_moment"]) fun _ _ _ _ _ _ us hl => match us, hl with | [_, _], _ => rfl,
     mg_xL_whole := PySem.W.mg_of X G ha34,
     fn_xL_whole := fun_mk (st := s_xL_whole) hl34 hc34 hk34,
     b_xL_whole := (fun_mk (st := s_xL_whole) hl34 hc34 hk34).binds (ps := ["_law_found"]) fun _ _ _ _ _ _ us hl => match us, hl with | [_], _ => rfl,
     mg_xL_due := PySem.W.mg_of X G ha35,
     fn_xL_due := fun_mk (st := s_xL_due) hl35 hc35 hk35,
     b_xL_due := (fun_mk (st := s_xL_due) hl35 hc35 hk35).binds (ps := ["_law_account_here", "_law_entries_here", "_law_one", "_law_other"]) fun _ _ _ _ _ _ us hl => match us, hl with | [_, _, _, _], _ => rfl,
     mg_xL_told := PySem.W.mg_of X G ha36,
     fn_xL_told := fun_mk (st := s_xL_told) hl36 hc36 hk36,
     b_xL_told := (fun_mk (st := s_xL_told) hl36 hc36 hk36).binds (ps := ["_law_account_here", "_law_entries_here", "_law_one", "_law_other"]) fun _ _ _ _ _ _ us hl => match us, hl with | [_, _, _, _], _ => rfl,
     mg_xL_are_rows := PySem.W.mg_of X G ha37,
     fn_xL_are_rows := fun_mk (st := s_xL_are_rows) hl37 hc37 hk37,
     b_xL_are_rows := (fun_mk (st := s_xL_are_rows) hl37 hc37 hk37).binds (ps := ["_law_rows"]) fun _ _ _ _ _ _ us hl => match us, hl with | [_], _ => rfl,
     mg_xL_pair := PySem.W.mg_of X G ha38,
     fn_xL_pair := fun_mk (st := s_xL_pair) hl38 hc38 hk38,
     b_xL_pair := (fun_mk (st := s_xL_pair) hl38 hc38 hk38).binds (ps := ["_law_script", "_law_account_here", "_law_entries_here", "_law_k"]) fun _ _ _ _ _ _ us hl => match us, hl with | [_, _, _, _], _ => rfl,
     mg_law := PySem.W.mg_of X G ha39,
     fn_law := fun_mk (st := s_law) hl39 hc39 hk39,
     b_law := (fun_mk (st := s_law) hl39 hc39 hk39).binds (ps := ["_law_script"]) fun _ _ _ _ _ _ us hl => match us, hl with | [_], _ => rfl,
     mg_SpanError := PySem.W.mg_of X G g_SpanError,
     cl_SpanError := ⟨by rw [gc_SpanError]; rfl, gt_SpanError, gm_SpanError⟩,
     mg_NoDate := PySem.W.mg_of X G g_NoDate,
     cl_NoDate := ⟨by rw [gc_NoDate]; rfl, gt_NoDate, gm_NoDate⟩,
     mg_NoSpan := PySem.W.mg_of X G g_NoSpan,
     cl_NoSpan := ⟨by rw [gc_NoSpan]; rfl, gt_NoSpan, gm_NoSpan⟩,
     mg_TooLong := PySem.W.mg_of X G g_TooLong,
     cl_TooLong := ⟨by rw [gc_TooLong]; rfl, gt_TooLong, gm_TooLong⟩,
     ex_NoDate := ⟨_, _, _, PySem.F.excBase_ValueError, gx_NoDate⟩,
     ex_NoSpan := ⟨_, _, _, PySem.F.excBase_ValueError, gx_NoSpan⟩,
     ex_TooLong := ⟨_, _, _, PySem.F.excBase_ValueError, gx_TooLong⟩,
     k_LAST_YEAR := ⟨_, PySem.W.mg_of X G k_LAST_YEAR, ⟨_, rfl⟩⟩,
     k_LAST_DAY := ⟨_, PySem.W.mg_of X G k_LAST_DAY, ⟨_, rfl⟩⟩,
     k_MONTH_DAYS := ⟨A_MONTH_DAYS, PySem.W.mg_of X G k_MONTH_DAYS, fun H => .inr ⟨_, its_MONTH_DAYS, n_MONTH_DAYS, kl_MONTH_DAYS, rfl, rfl, kz_MONTH_DAYS, kv_MONTH_DAYS⟩⟩,
     k_ROUND_DAYS := ⟨_, PySem.W.mg_of X G k_ROUND_DAYS, ⟨_, rfl⟩⟩,
     k_HUNDRED_YEARS_DAYS := ⟨_, PySem.W.mg_of X G k_HUNDRED_YEARS_DAYS, ⟨_, rfl⟩⟩,
     k_FOUR_YEARS_DAYS := ⟨_, PySem.W.mg_of X G k_FOUR_YEARS_DAYS, ⟨_, rfl⟩⟩,
     k_YEAR_DAYS := ⟨_, PySem.W.mg_of X G k_YEAR_DAYS, ⟨_, rfl⟩⟩,
     k_SPANS := ⟨_, PySem.W.mg_of X G k_SPANS, ⟨_, rfl⟩⟩,
     k_WORDS := ⟨A_WORDS, es_WORDS, n_WORDS, PySem.W.mg_of X G k_WORDS, kl_WORDS, kv_WORDS, by decide⟩,
     k_TERMS := ⟨A_TERMS, PySem.W.mg_of X G k_TERMS, fun H => .inr ⟨_, its_TERMS, n_TERMS, kl_TERMS, rfl, rfl, kz_TERMS, kv_TERMS⟩⟩,
     no_range := PySem.W.mg_none_of X G z_range,
     no_divmod := PySem.W.mg_none_of X G z_divmod,
     no_min := PySem.W.mg_none_of X G z_min,
     no_sorted := PySem.W.mg_none_of X G z_sorted,
     no_sum := PySem.W.mg_none_of X G z_sum,
     no_enumerate := PySem.W.mg_none_of X G z_enumerate,
     no_list := PySem.W.mg_none_of X G z_list,
     no_len := PySem.W.mg_none_of X G z_len,
     no_int := PySem.W.mg_none_of X G z_int,
     no_isinstance := PySem.W.mg_none_of X G z_isinstance,
     no_bool := PySem.W.mg_none_of X G z_bool,
     no_tuple := PySem.W.mg_none_of X G z_tuple,
     no_max := PySem.W.mg_none_of X G z_max,
     xc_NoSpan := ⟨by rw [gc_NoSpan]; rfl, xga_NoSpan, xgt_NoSpan, xcl_NoSpan, xmo_NoSpan, xmb_NoSpan⟩,
     xc_TooLong := ⟨by rw [gc_TooLong]; rfl, xga_TooLong, xgt_TooLong, xcl_TooLong, xmo_TooLong, xmb_TooLong⟩,
     m_NoSpan_SpanError := m_NoSpan_SpanError,
     m_NoSpan_NoDate := m_NoSpan_NoDate,
     m_NoSpan_NoSpan := m_NoSpan_NoSpan,
     m_NoSpan_TooLong := m_NoSpan_TooLong,
     m_NoSpan_ValueError := m_NoSpan_ValueError,
     m_TooLong_SpanError := m_TooLong_SpanError,
     m_TooLong_NoDate := m_TooLong_NoDate,
     m_TooLong_NoSpan := m_TooLong_NoSpan,
     m_TooLong_TooLong := m_TooLong_TooLong,
     m_TooLong_ValueError := m_TooLong_ValueError,
     m_SpanError_BaseException := m_SpanError_BaseException }⟩
theorem bind_law {w : World} {K : PySem.W.Frag} {mg : Str → Option Value} {t : Adr} (T : Txt w K mg t) : ∀ (s : Shared) (u : Value), BindsTo s t.d_law ⟨[u], []⟩ [("_law_script", u)] := by
  obtain ⟨oc, od, kV, doc, pm, an, cdv, ct, osl, e, lk, hcd⟩ := T.fn_law.ex
  intro s u
  rw [e]
  exact .of_eq rfl
theorem walk {l : PySem.W.OpenLaw} {q : Program} {loose : List Str} {XP : (Str → Option Value) → Heap → Prop} {YP : World → Heap → Prop} {d : DefRec} {K : Params → PySem.W.Frag} (hn : l.most = some 63) (hdf : d.params.defaults = [])
    (hY : ∀ (w : World) (h : Heap), YP w h → (K w.params).In h)
    (F : ∀ (w : World) (mg : Str → Option Value) (fa : Addr) (h : Heap), (K w.params).In h → h.Ns mainGlobals mg → mg d.name = some (.ref fa) →
      ∃ fd : FuncData, (∀ (s : Shared) (u : Value), BindsTo s fd ⟨[u], []⟩ [("_law_script", u)]) ∧ ∀ base : Heap, (K w.params).In base → base.Ns mainGlobals mg → FnOk l.prog w (K w.params) mg base (CXE l.prog w) 16 fa fd ["_law_script"] (spLaw (K w.params))) :
    PySem.W.WalkO q loose XP YP l.row.toRowW d [] (fun f vs => PySem.call f vs) :=
  L2.walk_of (n := 63) (k := 16) (x := "_law_script") (CX := fun w => CXE l.prog w) (sp := fun w => spLaw (K w.params)) hn (by decide) hdf ⟨rfl, by decide, by decide⟩ hY F (fun _ _ a ns hl _ hS => ⟨a, ns, rfl, hS, hl, fun _ => rfl⟩) fun _ _ _ _ _ ⟨_, _, _, _, _, z⟩ => z
end K72
set_option maxRecDepth 100000 in
def PySem.W.Fast.tw6432271695778427427 : Unit := ()
set_option maxRecDepth 100000 in
def PySem.W.Fast.tw7048549311224968651 : Unit := ()
set_option maxRecDepth 100000 in
def PySem.W.Fast.tw15531169594157488350 : Unit := ()
set_option maxRecDepth 100000 in
def PySem.W.Fast.tw18160057587029952342 : PySem.Program := PySem.Challenge.pw_paidspan_k72_what_moved
set_option maxRecDepth 100000 in
theorem PySem.W.Fast.te18160057587029952342 : PySem.Challenge.pw_paidspan_k72_what_moved = PySem.W.Fast.tw18160057587029952342 := rfl
set_option maxRecDepth 100000 in
def PySem.W.Fast.tw18139201953256242394 : Unit := ()
set_option maxRecDepth 100000 in
def PySem.W.Fast.tw11295460133565614743 : Unit := ()
set_option maxRecDepth 100000 in
def PySem.W.Fast.tw6651885135693590639 : Unit := ()
set_option maxRecDepth 100000 in
def PySem.W.Fast.tw9549947385043810993 : Unit := ()
set_option maxRecDepth 100000 in
def PySem.W.Fast.tw6410856035369800988 : Unit := ()
set_option maxRecDepth 100000 in
def PySem.W.Fast.tw12026883261502262725 : Unit := ()
set_option maxRecDepth 100000 in
def PySem.W.Fast.tw14877511497484130259 : Unit := ()
set_option maxRecDepth 100000 in
def PySem.W.Fast.tw17237107389200291993 : Unit := ()
set_option maxRecDepth 100000 in
def PySem.W.Fast.tw17510650046431893489 : Unit := ()
set_option maxRecDepth 100000 in
def PySem.W.Fast.tw15570617016039683726 : Unit := ()
set_option maxRecDepth 100000 in
def PySem.W.Fast.tw2023230341349617675 : Unit := ()
set_option maxRecDepth 100000 in
def PySem.W.Fast.tw11173129580928794259 : Unit := ()
set_option maxRecDepth 100000 in
def PySem.W.Fast.tw10576939453177353790 : Unit := ()
set_option maxRecDepth 100000 in
def PySem.W.Fast.tw5802701510132880420 : Unit := ()
set_option maxRecDepth 100000 in
def PySem.W.Fast.tw7772031724752490467 : Unit := ()
set_option maxRecDepth 100000 in
def PySem.W.Fast.tw4069149802938256304 : Unit := ()
set_option maxRecDepth 100000 in
def PySem.W.Fast.tw17058075790006420076 : Unit := ()
set_option maxRecDepth 100000 in
def PySem.W.Fast.tw799251682164736445 : Unit := ()
set_option maxRecDepth 100000 in
def PySem.W.Fast.tw8882850448251862751 : Unit := ()
set_option maxRecDepth 100000 in
def PySem.W.Fast.tw18352402640005914944 : Unit := ()
set_option maxRecDepth 100000 in
def PySem.W.Fast.tw10801361329680540535 : Unit := ()
set_option maxRecDepth 100000 in
def PySem.W.Fast.tw10115266730576954297 : Unit := ()
set_option maxRecDepth 100000 in
def PySem.W.Fast.tw1696552990588985224 : Unit := ()
set_option maxRecDepth 100000 in
def PySem.W.Fast.tw3045689316109418976 : Unit := ()
set_option maxRecDepth 100000 in
def PySem.W.Fast.tw7097683161860381383 : Unit := ()
set_option maxRecDepth 100000 in
def PySem.W.Fast.tw15851308504431447215 : Unit := ()
set_option maxRecDepth 100000 in
def PySem.W.Fast.tw4186947660987926181 : Unit := ()
set_option maxRecDepth 100000 in
def PySem.W.Fast.tw4200106384510403066 : Unit := ()
set_option maxRecDepth 100000 in
def PySem.W.Fast.tw530983499043719597 : Unit := ()
set_option maxRecDepth 100000 in
def PySem.W.Fast.tw16931714366600641813 : Unit := ()
set_option maxRecDepth 100000 in
def PySem.W.Fast.tw3854484185130968495 : Unit := ()
set_option maxRecDepth 100000 in
def PySem.W.Fast.tw16742003276096126162 : Unit := ()
set_option maxRecDepth 100000 in
def PySem.W.Fast.tw5873062047382733411 : Unit := ()
set_option maxRecDepth 100000 in
def PySem.W.Fast.tw7895890149929816695 : Unit := ()
set_option maxRecDepth 100000 in
def PySem.W.Fast.tw16522839881499501494 : Unit := ()
set_option maxRecDepth 100000 in
def PySem.W.Fast.tw8363877001474655572 : Unit := ()
set_option maxRecDepth 100000 in
def PySem.W.Fast.tw1614303695724749266 : Unit := ()
set_option maxRecDepth 100000 in
def PySem.W.Fast.tw9605849914955938871 : Unit := ()
set_option maxRecDepth 100000 in
def PySem.W.Fast.tw453368798654313673 : Unit := ()
set_option maxRecDepth 100000 in
def PySem.W.Fast.tw15787245317418597965 : Unit := ()
set_option maxRecDepth 100000 in
def PySem.W.Fast.tw11610427329796943251 : Unit := ()
set_option maxRecDepth 100000 in
def PySem.W.Fast.tw7701638315538678550 : Unit := ()
set_option maxRecDepth 100000 in
def PySem.W.Fast.tw4027232552471139290 : Unit := ()
set_option maxRecDepth 100000 in
def PySem.W.Fast.tw18385047181266185356 : Unit := ()
set_option maxRecDepth 100000 in
def PySem.W.Fast.tw18114074007531604752 : Unit := ()
set_option maxRecDepth 100000 in
def PySem.W.Fast.tw4781094957814636359 : Unit := ()
set_option maxRecDepth 100000 in
def PySem.W.Fast.tw10369118824873753016 : Unit := ()
set_option maxRecDepth 100000 in
def PySem.W.Fast.tw16273482411271198059 : Unit := ()
set_option maxRecDepth 100000 in
def PySem.W.Fast.tw15448648587393497323 : Unit := ()
set_option maxRecDepth 100000 in
def PySem.W.Fast.tw541217142799838891 : Unit := ()
set_option maxRecDepth 100000 in
def PySem.W.Fast.tw8064791404649021397 : Unit := ()
set_option maxRecDepth 100000 in
def PySem.W.Fast.tw12290910045399230202 : Unit := ()
set_option maxRecDepth 100000 in
def PySem.W.Fast.tw16925167010744912593 : Unit := ()
set_option maxRecDepth 100000 in
def PySem.W.Fast.tw2245279636515091484 : Unit := ()
set_option maxRecDepth 100000 in
def PySem.W.Fast.tw7193704187987541446 : Unit := ()
set_option maxRecDepth 100000 in
def PySem.W.Fast.tw14273833773886628216 : Unit := ()
set_option maxRecDepth 100000 in
def PySem.W.Fast.tw4056072568966079049 : Unit := ()
set_option maxRecDepth 100000 in
def PySem.W.Fast.tw9394708766683620470 : Unit := ()
set_option maxRecDepth 100000 in
def PySem.W.Fast.tw2361692642642262273 : Unit := ()
set_option maxRecDepth 100000 in
def PySem.W.Fast.tw5637386722178790663 : Unit := ()
set_option maxRecDepth 100000 in
def PySem.W.Fast.tw15297521091812280165 : Unit := ()
set_option maxRecDepth 100000 in
def PySem.W.Fast.tw9854032058958118110 : Unit := ()
set_option maxRecDepth 100000 in
def PySem.W.Fast.tw17836132032180607571 : Unit := ()
set_option maxRecDepth 100000 in
def PySem.W.Fast.tw15905784952353878560 : Unit := ()
set_option maxRecDepth 100000 in
def PySem.W.Fast.tw3935823269913462422 : Unit := ()
set_option maxRecDepth 100000 in
def PySem.W.Fast.tw2016411856231140108 : Unit := ()
set_option maxRecDepth 100000 in
def PySem.W.Fast.tw12414301049791470448 : Unit := ()
set_option maxRecDepth 100000 in
def PySem.W.Fast.tw15442155775308451077 : Unit := ()
set_option maxRecDepth 100000 in
def PySem.W.Fast.tw402976747460970904 : Unit := ()
set_option maxRecDepth 100000 in
def PySem.W.Fast.tw12966516996598937151 : Unit := ()
set_option maxRecDepth 100000 in
def PySem.W.Fast.tw16001379297800196398 : Unit := ()
set_option maxRecDepth 100000 in
def PySem.W.Fast.tw16238969320793402308 : Unit := ()
set_option maxRecDepth 100000 in
def PySem.W.Fast.tw15868388662075342464 : Unit := ()
set_option maxRecDepth 100000 in
def PySem.W.Fast.tw15334941265629589806 : Unit := ()
set_option maxRecDepth 100000 in
def PySem.W.Fast.tw16575432095947841364 : Unit := ()
set_option maxRecDepth 100000 in
def PySem.W.Fast.tw5937173016370185495 : Unit := ()
set_option maxRecDepth 100000 in
def PySem.W.Fast.tw14480602059793718541 : Unit := ()
set_option maxRecDepth 100000 in
def PySem.W.Fast.tw7652075731184810725 : Unit := ()
set_option maxRecDepth 100000 in
def PySem.W.Fast.tw7893106622003938048 : Unit := ()
open PySem PySem.W PyProof.Rows
set_option maxRecDepth 100000 in
set_option maxHeartbeats 0 in
theorem PySem.Challenge.cw_paidspan_k72_what_moved_holds : PySem.Challenge.rw_paidspan_k72_what_moved.Holds := by
  w_on; o_law; k_head; (case hw => w_witness2)
  k_fill
  refine K72.walk (l := PySem.Challenge.rw_paidspan_k72_what_moved) rfl rfl (fun w h Y => PySem.W.kIn_of Y) ?F
  case F =>
    intro w mg fa h KX G hmg
    have T : ∃ t, K72.Txt w (L2.KOf KX) mg t := by
      dsimp only [L2.KOf]
      refine' K72.txt_mk KX G ?ha0 ?hl0 ?hc0 ?hk0 ?ha1 ?hl1 ?hc1 ?hk1 ?ha2 ?hl2 ?hc2 ?hk2 ?ha3 ?hl3 ?hc3 ?hk3 ?ha4 ?hl4 ?hc4 ?hk4 ?ha5 ?hl5 ?hc5 ?hk5 ?ha6 ?hl6 ?hc6 ?hk6 ?ha7 ?hl7 ?hc7 ?hk7 ?ha8 ?hl8 ?hc8 ?hk8 ?ha9 ?hl9 ?hc9 ?hk9 ?ha10 ?hl10 ?hc10 ?hk10 ?ha11 ?hl11 ?hc11 ?hk11 ?ha12 ?hl12 ?hc12 ?hk12 ?ha13 ?hl13 ?hc13 ?hk13 ?ha14 ?hl14 ?hc14 ?hk14 ?ha15 ?hl15 ?hc15 ?hk15 ?ha16 ?hl16 ?hc16 ?hk16 ?ha17 ?hl17 ?hc17 ?hk17 ?ha18 ?hl18 ?hc18 ?hk18 ?ha19 ?hl19 ?hc19 ?hk19 ?ha20 ?hl20 ?hc20 ?hk20 ?ha21 ?hl21 ?hc21 ?hk21 ?ha22 ?hl22 ?hc22 ?hk22 ?ha23 ?hl23 ?hc23 ?hk23 ?ha24 ?hl24 ?hc24 ?hk24 ?ha25 ?hl25 ?hc25 ?hk25 ?ha26 ?hl26 ?hc26 ?hk26 ?ha27 ?hl27 ?hc27 ?hk27 ?ha28 ?hl28 ?hc28 ?hk28 ?ha29 ?hl29 ?hc29 ?hk29 ?ha30 ?hl30 ?hc30 ?hk30 ?ha31 ?hl31 ?hc31 ?hk31 ?ha32 ?hl32 ?hc32 ?hk32 ?ha33 ?hl33 ?hc33 ?hk33 ?ha34 ?hl34 ?hc34 ?hk34 ?ha35 ?hl35 ?hc35 ?hk35 ?ha36 ?hl36 ?hc36 ?hk36 ?ha37 ?hl37 ?hc37 ?hk37 ?ha38 ?hl38 ?hc38 ?hk38 ?ha39 ?hl39 ?hc39 ?hk39 ?g_SpanError ?gc_SpanError ?gt_SpanError ?gm_SpanError ?g_NoDate ?gc_NoDate ?gt_NoDate ?gm_NoDate ?g_NoSpan ?gc_NoSpan ?gt_NoSpan ?gm_NoSpan ?g_TooLong ?gc_TooLong ?gt_TooLong ?gm_TooLong ?gx_NoDate ?gx_NoSpan ?gx_TooLong ?k_LAST_YEAR ?k_LAST_DAY ?k_MONTH_DAYS ?kl_MONTH_DAYS ?kz_MONTH_DAYS ?kv_MONTH_DAYS ?k_ROUND_DAYS ?k_HUNDRED_YEARS_DAYS ?k_FOUR_YEARS_DAYS ?k_YEAR_DAYS ?k_SPANS ?k_WORDS ?kl_WORDS ?kv_WORDS ?k_TERMS ?kl_TERMS ?kz_TERMS ?kv_TERMS ?z_range ?z_divmod ?z_min ?z_sorted ?z_sum ?z_enumerate ?z_list ?z_len ?z_int ?z_isinstance ?z_bool ?z_tuple ?z_max ?xga_NoSpan ?xgt_NoSpan ?xcl_NoSpan ?xmo_NoSpan ?xmb_NoSpan ?xga_TooLong ?xgt_TooLong ?xcl_TooLong ?xmo_TooLong ?xmb_TooLong ?m_NoSpan_SpanError ?m_NoSpan_NoDate ?m_NoSpan_NoSpan ?m_NoSpan_TooLong ?m_NoSpan_ValueError ?m_TooLong_SpanError ?m_TooLong_NoDate ?m_TooLong_NoSpan ?m_TooLong_TooLong ?m_TooLong_ValueError ?m_SpanError_BaseException
      (case g_SpanError => k_is)
      (case g_NoDate => k_is)
      (case g_NoSpan => k_is)
      (case g_TooLong => k_is)
      (case ha0 => k_is)
      (case hl0 => k_is)
      (case hc0 => k_is)
      (case hk0 => k_is)
      (case ha1 => k_is)
      (case hl1 => k_is)
      (case hc1 => k_is)
      (case hk1 => k_is)
      (case ha2 => k_is)
      (case hl2 => k_is)
      (case hc2 => k_is)
      (case hk2 => k_is)
      (case ha3 => k_is)
      (case hl3 => k_is)
      (case hc3 => k_is)
      (case hk3 => k_is)
      (case ha4 => k_is)
      (case hl4 => k_is)
      (case hc4 => k_is)
      (case hk4 => k_is)
      (case ha5 => k_is)
      (case hl5 => k_is)
      (case hc5 => k_is)
      (case hk5 => k_is)
      (case ha6 => k_is)
      (case hl6 => k_is)
      (case hc6 => k_is)
      (case hk6 => k_is)
      (case ha7 => k_is)
      (case hl7 => k_is)
      (case hc7 => k_is)
      (case hk7 => k_is)
      (case ha8 => k_is)
      (case hl8 => k_is)
      (case hc8 => k_is)
      (case hk8 => k_is)
      (case ha9 => k_is)
      (case hl9 => k_is)
      (case hc9 => k_is)
      (case hk9 => k_is)
      (case ha10 => k_is)
      (case hl10 => k_is)
      (case hc10 => k_is)
      (case hk10 => k_is)
      (case ha11 => k_is)
      (case hl11 => k_is)
      (case hc11 => k_is)
      (case hk11 => k_is)
      (case ha12 => k_is)
      (case hl12 => k_is)
      (case hc12 => k_is)
      (case hk12 => k_is)
      (case ha13 => k_is)
      (case hl13 => k_is)
      (case hc13 => k_is)
      (case hk13 => k_is)
      (case ha14 => k_is)
      (case hl14 => k_is)
      (case hc14 => k_is)
      (case hk14 => k_is)
      (case ha15 => k_is)
      (case hl15 => k_is)
      (case hc15 => k_is)
      (case hk15 => k_is)
      (case ha16 => k_is)
      (case hl16 => k_is)
      (case hc16 => k_is)
      (case hk16 => k_is)
      (case ha17 => k_is)
      (case hl17 => k_is)
      (case hc17 => k_is)
      (case hk17 => k_is)
      (case ha18 => k_is)
      (case hl18 => k_is)
      (case hc18 => k_is)
      (case hk18 => k_is)
      (case ha19 => k_is)
      (case hl19 => k_is)
      (case hc19 => k_is)
      (case hk19 => k_is)
      (case ha20 => k_is)
      (case hl20 => k_is)
      (case hc20 => k_is)
      (case hk20 => k_is)
      (case ha21 => k_is)
      (case hl21 => k_is)
      (case hc21 => k_is)
      (case hk21 => k_is)
      (case ha22 => k_is)
      (case hl22 => k_is)
      (case hc22 => k_is)
      (case hk22 => k_is)
      (case ha23 => k_is)
      (case hl23 => k_is)
      (case hc23 => k_is)
      (case hk23 => k_is)
      (case ha24 => k_is)
      (case hl24 => k_is)
      (case hc24 => k_is)
      (case hk24 => k_is)
      (case ha25 => k_is)
      (case hl25 => k_is)
      (case hc25 => k_is)
      (case hk25 => k_is)
      (case ha26 => k_is)
      (case hl26 => k_is)
      (case hc26 => k_is)
      (case hk26 => k_is)
      (case ha27 => k_is)
      (case hl27 => k_is)
      (case hc27 => k_is)
      (case hk27 => k_is)
      (case ha28 => k_is)
      (case hl28 => k_is)
      (case hc28 => k_is)
      (case hk28 => k_is)
      (case ha29 => k_is)
      (case hl29 => k_is)
      (case hc29 => k_is)
      (case hk29 => k_is)
      (case ha30 => k_is)
      (case hl30 => k_is)
      (case hc30 => k_is)
      (case hk30 => k_is)
      (case ha31 => k_is)
      (case hl31 => k_is)
      (case hc31 => k_is)
      (case hk31 => k_is)
      (case ha32 => k_is)
      (case hl32 => k_is)
      (case hc32 => k_is)
      (case hk32 => k_is)
      (case ha33 => k_is)
      (case hl33 => k_is)
      (case hc33 => k_is)
      (case hk33 => k_is)
      (case ha34 => k_is)
      (case hl34 => k_is)
      (case hc34 => k_is)
      (case hk34 => k_is)
      (case ha35 => k_is)
      (case hl35 => k_is)
      (case hc35 => k_is)
      (case hk35 => k_is)
      (case ha36 => k_is)
      (case hl36 => k_is)
      (case hc36 => k_is)
      (case hk36 => k_is)
      (case ha37 => k_is)
      (case hl37 => k_is)
      (case hc37 => k_is)
      (case hk37 => k_is)
      (case ha38 => k_is)
      (case hl38 => k_is)
      (case hc38 => k_is)
      (case hk38 => k_is)
      (case ha39 => k_is)
      (case hl39 => k_is)
      (case hc39 => k_is)
      (case hk39 => k_is)
      (case gc_SpanError => k_is)
      (case gt_SpanError => k_is)
      (case gm_SpanError => k_is)
      (case gc_NoDate => k_is)
      (case gt_NoDate => k_is)
      (case gm_NoDate => k_is)
      (case gc_NoSpan => k_is)
      (case gt_NoSpan => k_is)
      (case gm_NoSpan => k_is)
      (case gc_TooLong => k_is)
      (case gt_TooLong => k_is)
      (case gm_TooLong => k_is)
      (case gx_NoDate => k_exc)
      (case gx_NoSpan => k_exc)
      (case gx_TooLong => k_exc)
      (case k_LAST_YEAR => k_is)
      (case k_LAST_DAY => k_is)
      (case k_MONTH_DAYS => k_is)
      (case kl_MONTH_DAYS => k_is)
      (case kz_MONTH_DAYS => decide)
      (case kv_MONTH_DAYS => exact (.cons ⟨_, rfl⟩ (.cons ⟨_, rfl⟩ (.cons ⟨_, rfl⟩ (.cons ⟨_, rfl⟩ (.cons ⟨_, rfl⟩ (.cons ⟨_, rfl⟩ (.cons ⟨_, rfl⟩ (.cons ⟨_, rfl⟩ (.cons ⟨_, rfl⟩ (.cons ⟨_, rfl⟩ (.cons ⟨_, rfl⟩ (.cons ⟨_, rfl⟩ .nil)))))))))))))
      (case k_ROUND_DAYS => k_is)
      (case k_HUNDRED_YEARS_DAYS => k_is)
      (case k_FOUR_YEARS_DAYS => k_is)
      (case k_YEAR_DAYS => k_is)
      (case k_SPANS => k_is)
      (case k_WORDS => k_is)
      (case kl_WORDS => k_is)
      (case kv_WORDS => exact ⟨⟨_, rfl⟩, rfl, ⟨_, rfl⟩, ⟨⟨_, rfl⟩, rfl, ⟨_, rfl⟩, ⟨⟨_, rfl⟩, rfl, ⟨_, rfl⟩, ⟨⟨_, rfl⟩, rfl, ⟨_, rfl⟩, trivial⟩⟩⟩⟩)
      (case k_TERMS => k_is)
      (case kl_TERMS => k_is)
      (case kz_TERMS => decide)
      (case kv_TERMS => exact (.cons ⟨_, rfl⟩ (.cons ⟨_, rfl⟩ (.cons ⟨_, rfl⟩ (.cons ⟨_, rfl⟩ (.cons ⟨_, rfl⟩ (.cons ⟨_, rfl⟩ .nil)))))))
      (case z_range => k_is)
      (case z_divmod => k_is)
      (case z_min => k_is)
      (case z_sorted => k_is)
      (case z_sum => k_is)
      (case z_enumerate => k_is)
      (case z_list => k_is)
      (case z_len => k_is)
      (case z_int => k_is)
      (case z_isinstance => k_is)
      (case z_bool => k_is)
      (case z_tuple => k_is)
      (case z_max => k_is)
      (case xga_NoSpan => k_is)
      (case xgt_NoSpan => k_is)
      (case xcl_NoSpan => k_is)
      (case xmo_NoSpan => k_is)
      (case xmb_NoSpan => k_is)
      (case xga_TooLong => k_is)
      (case xgt_TooLong => k_is)
      (case xcl_TooLong => k_is)
      (case xmo_TooLong => k_is)
      (case xmb_TooLong => k_is)
      (case m_NoSpan_SpanError => k_is)
      (case m_NoSpan_NoDate => k_is)
      (case m_NoSpan_NoSpan => k_is)
      (case m_NoSpan_TooLong => k_is)
      (case m_NoSpan_ValueError => k_is)
      (case m_TooLong_SpanError => k_is)
      (case m_TooLong_NoDate => k_is)
      (case m_TooLong_NoSpan => k_is)
      (case m_TooLong_TooLong => k_is)
      (case m_TooLong_ValueError => k_is)
      (case m_SpanError_BaseException => k_is)
    obtain ⟨t, T⟩ := T
    have e0 := hmg.symm.trans T.mg_law
    cases e0
    refine ⟨_, ?b, fun base _ _ => (K72.ok_law T).mono (by decide)⟩
    exact K72.bind_law T

