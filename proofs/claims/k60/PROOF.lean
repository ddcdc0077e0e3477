import PyProof.Rows.All
import Wide.All
import OpenK.AllK
import Wide.FinOn
import Lean
import PyProof.EqAt
import PyProof.EqKinds
import PyProof.TupleCall
import PySem.Challenge.RW_paidspan_k60_pots_walked
set_option Elab.async false
set_option linter.all false
set_option maxRecDepth 100000
/-! THE HAND LAYER, for ints, bools, texts, own classes, LISTS and tuples (index, slices, in, append, pop ..), calls, loops. Paste it whole ahead of your own text; what your proof does not reach may be deleted. -/
namespace L2
open PySem PySem.Spec PyProof.Rows

/-- a key: an int or a str -/
abbrev Key := Sum Int Str
def keyIs : Key → Value → Bool
  | .inl k, v => Value.isInt k v
  | .inr x, v => Value.isStrOf x v
def keyH (w : World) : Key → Int
  | .inl k => hashInt k
  | .inr x => hashStr w x
theorem keyIs_shape : ∀ {k : Key} {v : Value}, keyIs k v = true → (∃ i t, k = Sum.inl i ∧ v = Value.int i t) ∨ (∃ x t, k = Sum.inr x ∧ v = Value.str x t)
  | .inl i, v, h => by
    obtain ⟨t, e⟩ := Value.isInt_shape (k := i) (v := v) h
    exact .inl ⟨i, t, rfl, e⟩
  | .inr x, v, h => by
    obtain ⟨t, e⟩ := Value.isStrOf_shape (x := x) (v := v) h
    exact .inr ⟨x, t, rfl, e⟩
theorem keyIs_int (i : Int) (t : Tok) : keyIs (.inl i) (.int i t) = true := by simp [keyIs, Value.isInt]
theorem keyIs_str (x : Str) (t : Tok) : keyIs (.inr x) (.str x t) = true := by simp [keyIs, Value.isStrOf]
theorem key_ll (a b : Int) : decide ((Sum.inl a : Key) = Sum.inl b) = (a == b) := by
  by_cases e : a = b
  · subst e; simp
  · have h : ¬ (Sum.inl a : Key) = Sum.inl b := fun q => e (Sum.inl.inj q)
    rw [decide_eq_false h]
    exact (beq_eq_false_iff_ne.mpr e).symm
theorem key_rr (a b : Str) : decide ((Sum.inr a : Key) = Sum.inr b) = decide (a = b) := by
  by_cases e : a = b
  · subst e; simp
  · have h : ¬ (Sum.inr a : Key) = Sum.inr b := fun q => e (Sum.inr.inj q)
    rw [decide_eq_false h, decide_eq_false e]
theorem key_lr (a : Int) (b : Str) : decide ((Sum.inl a : Key) = Sum.inr b) = false := decide_eq_false (fun q => nomatch q)
theorem key_rl (a : Str) (b : Int) : decide ((Sum.inr a : Key) = Sum.inl b) = false := decide_eq_false (fun q => nomatch q)

def mixKind (prog : Program) (w : World) : PySem.KeyKind prog w Key where
  is := keyIs
  hash := keyH w
  inj := fun v a b ha hb => by
    rcases keyIs_shape ha with ⟨i, t, rfl, rfl⟩ | ⟨x, t, rfl, rfl⟩
    · rcases keyIs_shape hb with ⟨j, u, rfl, e⟩ | ⟨y, u, rfl, e⟩
      · injection e with e1 _; rw [e1]
      · exact nomatch e
    · rcases keyIs_shape hb with ⟨j, u, rfl, e⟩ | ⟨y, u, rfl, e⟩
      · exact nomatch e
      · injection e with e1 _; rw [e1]
  byValue := fun k v h => by
    rcases keyIs_shape h with ⟨i, t, rfl, rfl⟩ | ⟨x, t, rfl, rfl⟩ <;> rfl
  pyHash := fun hv h => by
    rcases keyIs_shape hv with ⟨i, t, rfl, rfl⟩ | ⟨x, t, rfl, rfl⟩
    · exact wpAny_pyHash_int h
    · exact wpAny_pyHash_str h
  eqBool := fun hu hv h => by
    rcases keyIs_shape hu with ⟨i, t, rfl, rfl⟩ | ⟨x, t, rfl, rfl⟩
    · rcases keyIs_shape hv with ⟨j, u, rfl, rfl⟩ | ⟨y, u, rfl, rfl⟩
      · rw [key_ll] at h; exact wpAny_eqBool_int h
      · rw [key_lr] at h; exact SeqAt.EqAt.int_str i t y u _ _ _ _ h
    · rcases keyIs_shape hv with ⟨j, u, rfl, rfl⟩ | ⟨y, u, rfl, rfl⟩
      · rw [key_rl] at h; exact SeqAt.EqAt.str_int x t j u _ _ _ _ h
      · rw [key_rr] at h; exact wpAny_eqBool_str h
  «strs» := fun k x t v h => by
    rcases keyIs_shape h with ⟨i, u, rfl, e⟩ | ⟨y, u, rfl, e⟩
    · exact nomatch e
    · injection e with e1 _
      subst e1
      cases v <;> rfl

theorem mixKind_int (prog : Program) (w : World) (i : Int) (t : Tok) : (mixKind prog w).is (.inl i) (.int i t) = true := keyIs_int i t
theorem mixKind_str (prog : Program) (w : World) (x : Str) (t : Tok) : (mixKind prog w).is (.inr x) (.str x t) = true := keyIs_str x t
end L2

namespace L2
open PySem PySem.Spec PyProof.Rows

/-- a value, without the heap -/
inductive V where
  | non | bl (b : Bool) | int (i : Int) | str (x : Str) | byt (b : Array UInt8) | flt (b : UInt64) | ref (a : Addr) | ty (n : String)
  deriving DecidableEq

def RelV : V → Value → Prop
  | .non, u => u = Value.none
  | .bl b, u => u = Value.bool b
  | .int i, u => ∃ t, u = Value.int i t
  | .str x, u => ∃ t, u = Value.str x t
  | .byt b, u => ∃ t, u = Value.bytes b t
  | .flt b, u => ∃ t, u = Value.float b t
  | .ref a, u => u = Value.ref a
  | .ty n, u => u = Value.type n

abbrev Vals : List V → List Value → Prop := Paired RelV
theorem Vals.length {xs : List V} {us : List Value} (r : Vals xs us) : xs.length = us.length := Paired.length r
theorem Vals.get : ∀ {xs : List V} {us : List Value} {i : Nat} {x : V}, Vals xs us → xs[i]? = some x → ∃ u, us[i]? = some u ∧ RelV x u
  | _, _, _, _, .nil, e => by simp at e
  | _, _, 0, _, .cons r _, e => by simp at e; subst e; exact ⟨_, rfl, r⟩
  | _, _, i + 1, x, .cons _ t, e => by
    obtain ⟨u, h1, h2⟩ := Vals.get (i := i) (x := x) t (by simpa using e)
    exact ⟨u, by simpa using h1, h2⟩
theorem Vals.set {x : V} {u : Value} (r : RelV x u) : ∀ {xs : List V} {us : List Value} (i : Nat), Vals xs us → Vals (xs.set i x) (us.set i u)
  | _, _, _, .nil => .nil
  | _, _, 0, .cons _ t => .cons r t
  | _, _, i + 1, .cons q t => .cons q (Vals.set r i t)
theorem Vals.append : ∀ {xs ys : List V} {us ws : List Value}, Vals xs us → Vals ys ws → Vals (xs ++ ys) (us ++ ws)
  | _, _, _, _, .nil, s => s
  | _, _, _, _, .cons r t, s => .cons r (Vals.append t s)
theorem Vals.take : ∀ {xs : List V} {us : List Value} (n : Nat), Vals xs us → Vals (xs.take n) (us.take n)
  | _, _, 0, _ => .nil
  | _, _, _ + 1, .nil => .nil
  | _, _, n + 1, .cons r t => .cons r (Vals.take n t)
theorem Vals.drop : ∀ {xs : List V} {us : List Value} (n : Nat), Vals xs us → Vals (xs.drop n) (us.drop n)
  | _, _, 0, r => r
  | _, _, _ + 1, .nil => .nil
  | _, _, n + 1, .cons _ t => Vals.drop n t
theorem Vals.none_of : ∀ {xs : List V} {us : List Value} {i : Nat}, Vals xs us → xs[i]? = none → us[i]? = none := fun {xs us i} r e => by
  have h1 := r.length
  have h2 : xs.length ≤ i := List.getElem?_eq_none_iff.mp e
  exact List.getElem?_eq_none_iff.mpr (by omega)

def RelO : Option V → Option Value → Prop
  | some v, some u => RelV v u
  | none, none => True
  | _, _ => False
def KV {κ : Type} : List (κ × V) → List (κ × Value) → Prop := Paired fun (p : κ × V) (q : κ × Value) => p.1 = q.1 ∧ RelV p.2 q.2

/-- a key of a dict (00_mix): an int or a text -/
def kV : Key → V
  | .inl i => .int i
  | .inr x => .str x

/-- what stands at a tracked address -/
inductive HO where
  /-- a list -/
  | lst (xs : List V)
  /-- a tuple (never changes) -/
  | tup (xs : List V)
  /-- a dict whose keys are ints and texts; one whose keys are tuples of ints and texts (the empty one is both) -/
  | dK (kvs : List (Key × V)) | dT (kvs : List (List Key × V))
  /-- a set of ints: its members, its size -/
  | set (S : Int → Bool) (n : Nat)
  /-- an instance of the class at C, its dict at dx, its attributes -/
  | ins (C dx : Addr) (fs : List (Str × V))
  /-- the dict of the instance at x -/
  | own (x : Addr)
  /-- the dict of an exception -/
  | xd (fs : List (Str × V))
  /-- a bound method, f of x -/
  | met (f x : Addr)
  /-- a range object lo, lo + 1, .. below hi -/
  | rng (lo hi : Int)
  /-- a thing that is known to the object (the script; a dict while a loop walks it): read, never written while it is so -/
  | frz (o : Obj) (u : HO)
  /-- a code object's table -/
  | tbl (ps : Array Value)
  /-- any other thing, by what is true of its one object (a def of one's own: SetO a S n := HO.ext fun h => ..) -/
  | ext (φ : Heap → Prop)

abbrev Hp := Addr → Option HO
def upd (H : Hp) (a : Addr) (o : HO) : Hp := fun b => if b = a then some o else H b
theorem upd_same {H : Hp} {a : Addr} {o : HO} : upd H a o a = some o := by unfold upd; rw [if_pos rfl]
theorem upd_ne {H : Hp} {a b : Addr} {o : HO} (h : b ≠ a) : upd H a o b = H b := by unfold upd; rw [if_neg h]
/-- two objects of different content stand apart -/
theorem ne_of {H : Hp} {a b : Addr} {o u : HO} (h : H a = some o) (h' : H b = some u) (d : o ≠ u) : a ≠ b := by
  intro e; subst e; rw [h] at h'; exact d (Option.some.inj h')
theorem ne_of_none {H : Hp} {a b : Addr} {o : HO} (h : H a = some o) (h' : H b = none) : a ≠ b := by
  intro e; subst e; rw [h] at h'; cases h'

section
variable (P : Program) (w : World)
def ObjOk (H : Hp) (h : Heap) (a : Addr) : HO → Prop
  | .lst xs => xs.length ≤ sizeLine ∧ ∃ (its : List Value) (n : Nat), Vals xs its ∧ h.get? a = some { cls := .type "list", data := .seq its.toArray n }
  | .tup xs => xs.length ≤ sizeLine ∧ ∃ its : List Value, Vals xs its ∧ IsTup h a its.toArray
  | .dK kvs => kvs.length ≤ sizeLine ∧ (a == sysModules) = false ∧ ∃ vs, KV kvs vs ∧ h.DictOf (mixKind P w) a vs
  | .dT kvs => kvs.length ≤ sizeLine ∧ (a == sysModules) = false ∧ ∃ xs : List (List Key × Addr × Value),
      Paired (fun (p : List Key × V) (q : List Key × Addr × Value) => p.1 = q.1 ∧ H q.2.1 = some (.tup (p.1.map kV)) ∧ RelV p.2 q.2.2) kvs xs ∧
      ∃ o es ep, h.get? a = some o ∧ o.ExactDict ∧ o.data = .dict es ep ∧ es.toList = xs.map (entryOfKey (tupleKind (mixKind P w))) ∧ (xs.map (·.1)).Nodup
  | .set S n => h.SetOf (intKind P w) a S n
  | .ins C dx fs => H dx = some (.own a) ∧ fs.length ≤ 1000 ∧ dx ≠ a ∧ h.get? a = some (PySem.W.instObj C dx) ∧
      ∃ mA, h.Ns1 dx mA ∧ (∀ f, RelO (fs.lookup f) (mA f)) ∧ PySem.Within mA (fs.map (·.1))
  | .own _ => ∃ o, h.get? a = some o
  | .xd fs => ∃ mA, h.Ns1 a mA ∧ ∀ f, RelO (fs.lookup f) (mA f)
  | .rng lo hi => ∃ t u v, h.get? a = some { cls := .type "range", data := .fields #[.int lo t, .int hi u, .int 1 v] }
  | .frz o u => h.get? a = some o ∧ ObjOk H h a u
  | .tbl ps => h.get? a = some { cls := .none, data := .fields ps }
  | .met f x => h.get? a = some (PySem.W.methodObj (.ref f) (.ref x))
  | .ext φ => φ h ∧ (∃ o, h.get? a = some o) ∧ ∀ h1 h2 : Heap, φ h1 → (∀ o, h1.get? a = some o → h2.get? a = some o) → φ h2
/-- the abstract heap is held -/
def HOk (H : Hp) (h : Heap) : Prop := ∀ a o, H a = some o → ObjOk P w H h a o
end

section
variable {P : Program} {w : World} {H H' : Hp} {h h' : Heap} {a : Addr} {o : HO}
theorem ObjOk.lt (x : ObjOk P w H h a o) : a < h.objs.size := by
  cases o with
  | lst xs => obtain ⟨_, _, _, _, e⟩ := x; exact Heap.lt_size e
  | tup xs => obtain ⟨_, _, _, p⟩ := x; exact p.lt
  | dK kvs => obtain ⟨_, _, _, _, o, _, _, e, _⟩ := x; exact Heap.lt_size e
  | dT kvs => obtain ⟨_, _, _, _, o, _, _, e, _⟩ := x; exact Heap.lt_size e
  | set S n => obtain ⟨o, _, _, _, e, _⟩ := x; exact Heap.lt_size e
  | ins C dx fs => obtain ⟨_, _, _, e, _⟩ := x; exact Heap.lt_size e
  | own y => obtain ⟨_, e⟩ := x; exact Heap.lt_size e
  | xd fs => obtain ⟨_, ⟨_, _, _, e, _⟩, _⟩ := x; exact Heap.lt_size e
  | rng lo hi => obtain ⟨_, _, _, e⟩ := x; exact Heap.lt_size e
  | frz ob u => obtain ⟨e, _⟩ := x; exact Heap.lt_size e
  | tbl ps => exact Heap.lt_size (show h.get? a = some _ from x)
  | met f y => exact Heap.lt_size (show h.get? a = some _ from x)
  | ext φ => obtain ⟨_, ⟨_, e⟩, _⟩ := x; exact Heap.lt_size e
theorem Paired.mapP {α β : Type} {F G : α → β → Prop} : ∀ {l₁ : List α} {l₂ : List β}, Paired F l₁ l₂ → (∀ a b, F a b → G a b) → Paired G l₁ l₂
  | _, _, .nil, _ => .nil
  | _, _, .cons r t, f => .cons (f _ _ r) (Paired.mapP t f)
/-- what an object's description leans on: its own object, its own dict, the tuples -/
theorem ObjOk.stay (x : ObjOk P w H h a o) (k : ∀ b u, (b = a ∨ H b = some (.own a)) → h.get? b = some u → h'.get? b = some u)
    (ho : ∀ b, H b = some (.own a) → H' b = some (.own a)) (ht : ∀ b xs, H b = some (.tup xs) → H' b = some (.tup xs)) : ObjOk P w H' h' a o := by
  induction o with
  | lst xs => obtain ⟨z, its, n, r, e⟩ := x; exact ⟨z, its, n, r, k _ _ (.inl rfl) e⟩
  | tup xs => obtain ⟨z, its, r, ob, e, c⟩ := x; exact ⟨z, its, r, ob, k _ _ (.inl rfl) e, c⟩
  | dK kvs => obtain ⟨z, y, vs, r, ob, es, ep, e, c⟩ := x; exact ⟨z, y, vs, r, ob, es, ep, k _ _ (.inl rfl) e, c⟩
  | dT kvs =>
    obtain ⟨z, y, xs, r, ob, es, ep, e, c⟩ := x
    exact ⟨z, y, xs, Paired.mapP r fun p q z => ⟨z.1, ht _ _ z.2.1, z.2.2⟩, ob, es, ep, k _ _ (.inl rfl) e, c⟩
  | set S n => obtain ⟨ob, es, ep, t, e, c⟩ := x; exact ⟨ob, es, ep, t, k _ _ (.inl rfl) e, c⟩
  | ins C dx fs =>
    obtain ⟨d, z, ne, e, mA, ⟨od, es, ep, e2, c⟩, r⟩ := x
    exact ⟨ho _ d, z, ne, k _ _ (.inl rfl) e, mA, ⟨od, es, ep, k _ _ (.inr d) e2, c⟩, r⟩
  | own y => obtain ⟨ob, e⟩ := x; exact ⟨ob, k _ _ (.inl rfl) e⟩
  | xd fs => obtain ⟨mA, ⟨od, es, ep, e, c⟩, r⟩ := x; exact ⟨mA, ⟨od, es, ep, k _ _ (.inl rfl) e, c⟩, r⟩
  | rng lo hi => obtain ⟨t, u, v, e⟩ := x; exact ⟨t, u, v, k _ _ (.inl rfl) e⟩
  | frz ob u ih => obtain ⟨e, q⟩ := x; exact ⟨k _ _ (.inl rfl) e, ih q⟩
  | tbl ps =>
    have e : h.get? a = some { cls := .none, data := .fields ps } := x
    show h'.get? a = some { cls := .none, data := .fields ps }
    exact k a _ (.inl rfl) e
  | met f y =>
    have e : h.get? a = some (PySem.W.methodObj (.ref f) (.ref y)) := x
    show h'.get? a = some (PySem.W.methodObj (.ref f) (.ref y))
    exact k a _ (.inl rfl) e
  | ext φ => obtain ⟨p, ⟨o, e⟩, st⟩ := x; exact ⟨st _ _ p fun o q => k _ _ (.inl rfl) q, ⟨o, k _ _ (.inl rfl) e⟩, st⟩
theorem HOk.lt (x : HOk P w H h) (e : H a = some o) : a < h.objs.size := (x a o e).lt
theorem HOk.fresh (x : HOk P w H h) (e : h.objs.size ≤ a) : H a = none := by
  cases q : H a with
  | none => rfl
  | some u => exact absurd (Nat.lt_of_lt_of_le (x.lt q) e) (Nat.lt_irrefl _)
/-- every object of the heap is kept -/
theorem HOk.kept (x : HOk P w H h) (k : ∀ b u, h.get? b = some u → h'.get? b = some u) : HOk P w H h' := fun a o e =>
  (x a o e).stay (fun b u _ q => k b u q) (fun _ q => q) fun _ _ q => q
/-- a new object is laid and tracked -/
theorem HOk.laid (x : HOk P w H h) (k : ∀ b u, h.get? b = some u → h'.get? b = some u) (hp : h.objs.size ≤ a) (new : ObjOk P w (upd H a o) h' a o) : HOk P w (upd H a o) h' := fun b u e => by
  have hn := x.fresh hp
  by_cases hb : b = a
  · subst hb; rw [upd_same] at e; cases e; exact new
  · rw [upd_ne hb] at e
    exact (x b u e).stay (fun c v _ q => k c v q) (fun c q => by rw [upd_ne (ne_of_none q hn)]; exact q) fun c xs q => by rw [upd_ne (ne_of_none q hn)]; exact q
end

/-- what may be read as u: it is u, or a known u -/
def Rd (H : Hp) (a : Addr) (u : HO) : Prop := H a = some u ∨ ∃ o, H a = some (.frz o u)
theorem Rd.of {H : Hp} {a : Addr} {u : HO} (h : H a = some u) : Rd H a u := .inl h
theorem Rd.ok {P : Program} {w : World} {H : Hp} {h : Heap} {a : Addr} {u : HO} (r : Rd H a u) (x : HOk P w H h) : ObjOk P w H h a u := by
  rcases r with r | ⟨o, r⟩
  · exact x a u r
  · obtain ⟨_, q⟩ := x a _ r
    exact q
/-- what may be written -/
def Mut : Option HO → Prop
  | some (.lst _) => True
  | some (.dK _) => True
  | some (.dT _) => True
  | some (.set _ _) => True
  | some (.ins _ _ _) => True
  | some (.ext _) => True
  | _ => False
section
variable {P : Program} {w : World} {H : Hp} {h h' : Heap} {x e : Addr} {o' : HO}
/-- the object at e is changed: x itself, or the dict of the instance x -/
theorem HOk.write (ok : HOk P w H h) (mu : Mut (H x)) (he : e = x ∨ H e = some (.own x)) (k : ∀ b u, b ≠ e → h.get? b = some u → h'.get? b = some u) (heo : ∃ u, h'.get? e = some u)
    (new : ObjOk P w (upd H x o') h' x o') : HOk P w (upd H x o') h' := fun b u q => by
  have nown : ∀ c y, H c = some (.own y) → c ≠ x := fun c y r z => by subst z; rw [r] at mu; exact mu
  have ntup : ∀ c xs, H c = some (.tup xs) → c ≠ x := fun c xs r z => by subst z; rw [r] at mu; exact mu
  by_cases hb : b = x
  · subst hb; rw [upd_same] at q; cases q; exact new
  · rw [upd_ne hb] at q
    by_cases hbe : b = e
    · have q' : H b = some (.own x) := by
        rcases he with z | z
        · exact absurd (hbe.trans z) hb
        · rw [hbe]; exact z
      rw [q] at q'; cases q'
      obtain ⟨v, hv⟩ := heo
      exact ⟨v, by rw [hbe]; exact hv⟩
    · refine (ok b u q).stay (fun c v hc r => k c v ?_ r) (fun c r => by rw [upd_ne (nown c b r)]; exact r) fun c xs r => by rw [upd_ne (ntup c xs r)]; exact r
      rcases hc with rfl | hc
      · exact hbe
      · rintro rfl
        rcases he with z | z
        · exact nown c b hc z
        · rw [hc] at z; cases z; exact hb rfl
end

/-! ### kept unless tracked; of the frames at fs (the callers') the slots may change (an exception that passes writes there); of the records at ex (iterators) nothing is said -/
structure Un (fs ex : List Addr) (H H' : Hp) (h h' : Heap) : Prop where
  keep : ∀ b o, h.get? b = some o → H b = none → b ∉ fs → b ∉ ex → h'.get? b = some o
  slot : ∀ b o, h.get? b = some o → H b = none → b ∈ fs → b ∉ ex → ∃ sl, h'.get? b = some { o with slots := sl }
  free : ∀ b o, h.get? b = some o → H b = none → b ∉ ex → H' b = none
  there : ∀ b o, h.get? b = some o → b ∉ ex → ∃ o', h'.get? b = some o'
  tups : ∀ b xs, H b = some (.tup xs) → H' b = some (.tup xs)
  frzs : ∀ b o u, H b = some (.frz o u) → H' b = some (.frz o u)
  tbls : ∀ b ps, H b = some (.tbl ps) → ∃ more, H' b = some (.tbl (ps ++ more))
section
variable {fs fs' ex ex' : List Addr} {H H1 H2 : Hp} {h h1 h2 h' : Heap} {a x e : Addr} {o : HO}
theorem Un.any (u : Un fs ex H H1 h h1) {b : Addr} {ob : Obj} (q : h.get? b = some ob) (n : H b = none) (hx : b ∉ ex) : ∃ sl, h1.get? b = some { ob with slots := sl } := by
  by_cases hb : b ∈ fs
  · exact u.slot b ob q n hb hx
  · exact ⟨ob.slots, u.keep b ob q n hb hx⟩
theorem Un.trans (a : Un fs ex H H1 h h1) (b : Un fs ex H1 H2 h1 h2) : Un fs ex H H2 h h2 where
  keep := fun c ob q n hc hx => b.keep c ob (a.keep c ob q n hc hx) (a.free c ob q n hx) hc hx
  slot := fun c ob q n hc hx => by
    obtain ⟨sl, e1⟩ := a.slot c ob q n hc hx
    obtain ⟨sl', e2⟩ := b.slot c _ e1 (a.free c ob q n hx) hc hx
    exact ⟨sl', e2⟩
  free := fun c ob q n hx => by
    obtain ⟨o', e1⟩ := a.there c ob q hx
    exact b.free c o' e1 (a.free c ob q n hx) hx
  there := fun c ob q hx => by
    obtain ⟨o', e1⟩ := a.there c ob q hx
    exact b.there c o' e1 hx
  tups := fun c xs q => b.tups c xs (a.tups c xs q)
  frzs := fun c ob xs q => b.frzs c ob xs (a.frzs c ob xs q)
  tbls := fun c ps q => by
    obtain ⟨m1, e1⟩ := a.tbls c ps q
    obtain ⟨m2, e2⟩ := b.tbls c _ e1
    exact ⟨m1 ++ m2, by rw [e2, Array.append_assoc]⟩
theorem Un.kept (k : ∀ b u, h.get? b = some u → h'.get? b = some u) : Un fs ex H H h h' :=
  ⟨fun b ob q _ _ _ => k b ob q, fun b ob q _ _ _ => ⟨ob.slots, k b ob q⟩, fun _ _ _ n _ => n, fun b ob q _ => ⟨ob, k b ob q⟩, fun _ _ q => q, fun _ _ _ q => q, fun _ ps q => ⟨#[], by rw [q]; simp⟩⟩
theorem Un.refl : Un fs ex H H h h := Un.kept fun _ _ q => q
theorem Un.laid (k : ∀ b u, h.get? b = some u → h'.get? b = some u) (hp : h.objs.size ≤ a) (hn : H a = none) : Un fs ex H (upd H a o) h h' where
  keep := fun b u q _ _ _ => k b u q
  slot := fun b u q _ _ _ => ⟨u.slots, k b u q⟩
  free := fun b u q n _ => by rw [upd_ne (Nat.ne_of_lt (Nat.lt_of_lt_of_le (Heap.lt_size q) hp))]; exact n
  there := fun b u q _ => ⟨u, k b u q⟩
  tups := fun b xs q => by rw [upd_ne (ne_of_none q hn)]; exact q
  frzs := fun b u xs q => by rw [upd_ne (ne_of_none q hn)]; exact q
  tbls := fun b ps q => ⟨#[], by rw [upd_ne (ne_of_none q hn), q]; simp⟩
theorem Un.write (mu : Mut (H x)) (he : e = x ∨ H e = some (.own x)) (k : ∀ b u, b ≠ e → h.get? b = some u → h'.get? b = some u) (heo : ∃ u, h'.get? e = some u) : Un fs ex H (upd H x o) h h' := by
  have hx : ∀ b, H b = none → b ≠ x := fun b n z => by subst z; rw [n] at mu; exact mu
  have hb : ∀ b, H b = none → b ≠ e := fun b n z => by
    subst z
    rcases he with r | r
    · exact hx b n r
    · rw [n] at r; cases r
  have hm : ∀ b u, H b = some u → ¬ Mut (some u) → b ≠ x := fun b u q nm z => by subst z; rw [q] at mu; exact nm mu
  refine ⟨fun b u q n _ _ => k b u (hb b n) q, fun b u q n _ _ => ⟨u.slots, k b u (hb b n) q⟩, fun b u q n _ => by rw [upd_ne (hx b n)]; exact n, fun b u q _ => ?_,
    fun b xs q => by rw [upd_ne (hm b _ q fun z => z)]; exact q, fun b u xs q => by rw [upd_ne (hm b _ q fun z => z)]; exact q, fun b ps q => ⟨#[], by rw [upd_ne (hm b _ q fun z => z), q]; simp⟩⟩
  by_cases hbe : b = e
  · subst hbe; exact heo
  · exact ⟨u, k b u hbe q⟩
theorem Un.mono (u : Un fs ex H H1 h h1) (hs : ∀ b ∈ fs, b ∈ fs') (hx : ∀ b ∈ ex, b ∈ ex') : Un fs' ex' H H1 h h1 :=
  ⟨fun b ob q n hb he => u.keep b ob q n (fun z => hb (hs b z)) fun z => he (hx b z), fun _ _ q n _ he => u.any q n fun z => he (hx _ z), fun b ob q n he => u.free b ob q n fun z => he (hx b z), fun b ob q he => u.there b ob q fun z => he (hx b z), u.tups, u.frzs, u.tbls⟩
end

/-! ### the heap without what is tracked -/
def trk (h : Heap) (H : Hp) : List Addr := (List.range h.objs.size).filter fun a => (H a).isSome
def hidT (h : Heap) (H : Hp) : Heap := PySem.W.hideAll h (trk h H)
theorem hidT_size (h : Heap) (H : Hp) : (hidT h H).objs.size = h.objs.size := PySem.W.hideAll_size _ _
theorem hidT_get {h : Heap} {H : Hp} {b : Addr} {o : Obj} (e : h.get? b = some o) (n : H b = none) : (hidT h H).get? b = some o :=
  PySem.W.hideAll_get _ e fun hm => by
    have q : (H b).isSome = true := (List.mem_filter.mp hm).2
    rw [n] at q; simp at q
theorem of_hidT {h : Heap} {H : Hp} {b : Addr} {o : Obj} (e : (hidT h H).get? b = some o) : h.get? b = some o ∧ H b = none := by
  have e' : h.get? b = some o := PySem.W.of_hideAll (trk h H) e
  refine ⟨e', ?_⟩
  cases q : H b with
  | none => rfl
  | some x =>
    have hm : b ∈ trk h H := List.mem_filter.mpr ⟨List.mem_range.mpr (Heap.lt_size e'), by simp [q]⟩
    have z : (hidT h H).get? b = none := PySem.W.hideAll_none (trk h H) hm
    rw [z] at e; cases e

/-! ### OpenK's ledger, filled with every new object but one -/
def allNews (g h : Heap) (L : Addr) : List (Addr × Obj) := (List.range h.objs.size).filterMap fun a => if a = L ∨ (g.get? a).isSome = true then none else (h.get? a).map fun o => (a, o)
def rest (g h : Heap) (L d : Addr) : List (Addr × Obj) := (allNews g h L).filter fun p => decide (p.1 ≠ d)
end L2

namespace L2
open PySem PySem.Spec PyProof.Rows

/-- the module's facts, over the base: the heap at the law's entry without what is tracked there -/
structure Mod (K : PySem.W.Frag) (mg : Str → Option Value) (base : Heap) : Prop where
  kin : K.In base
  glob : base.Ns mainGlobals mg
  blt : ∃ mb, base.Ns builtinsNs mb ∧ ∀ x : Str, x ≠ "__name__" → mb x = bootBuiltins x
  nolimit : base.NoLimit

/-- the context: a def's body (or a comprehension's block) running. base: fixed through the whole law; s₀, H₀: the entry; outer: the frames whose slots others may change (a def's callers); stack: all frames that run;
   ex: iterators that were made ahead of the entry and are walked here (a comprehension's); fn: the names whose cells were made at the entry (a def: all; a comprehension's block: its own); calm: not within an except suite; pn: pins that every state bears; xe: what is wanted of an exception that leaves the code -/
structure Cx where
  prog : Program
  w : World
  K : PySem.W.Frag
  mg : Str → Option Value
  base : Heap
  A : Around
  N : List Str
  s₀ : Shared
  H₀ : Hp
  env : Env
  outer : List Env
  stack : List Env
  ex : List Addr
  fn : Str → Bool
  calm : Bool
  pn : List (Addr × Obj)
  xe : Value → Shared → Prop
/-- the callers' frames -/
def frs (l : List Env) : List Addr := l.filterMap (·.frame)
abbrev Cx.fs (X : Cx) : List Addr := frs X.outer

def Vis (sc : Scope) (x : Str) : Prop := sc.names.lookup x = some .local ∨ sc.names.lookup x = some .cell ∨ sc.names.lookup x = some .free
def Loc (sc : Scope) (x : Str) : Prop := sc.names.lookup x = some .local ∨ sc.names.lookup x = some .cell
def Look (env : Env) (h : Heap) (m : Str → Option Value) (x : Str) (u : Value) : Prop :=
  (env.kindOf x = some .local ∧ m x = some u) ∨ ((env.kindOf x = some .cell ∨ env.kindOf x = some .free) ∧ ∃ c, env.cells.lookup x = some c ∧ h.IsCell c (some u))

structure Cx.Ok (X : Cx) : Prop where
  mod : Mod X.K X.mg X.base
  kind : X.env.scope.kind = .function
  glob : X.env.globals = mainGlobals
  blt : X.env.builtins = builtinsNs
  above : X.s₀.heap.objs.size ≤ X.env.locals
  inj : ∀ x y c, X.env.cells.lookup x = some c → X.env.cells.lookup y = some c → x = y
  has : ∀ x, (X.env.kindOf x = some .cell ∨ X.env.kindOf x = some .free) → ∃ c, X.env.cells.lookup x = some c
  cab : ∀ x c, X.fn x = true → X.env.cells.lookup x = some c → X.s₀.heap.objs.size ≤ c
  hd : X.calm = true → X.A.handled = none
  frames : X.A.frames = some X.stack
  stk : X.stack = X.outer ∨ (X.stack = X.env :: X.outer ∧ X.env.frame = some X.env.locals)
  exf : ∀ b ∈ X.ex, b ≠ X.env.locals ∧ ∀ x c, X.env.cells.lookup x = some c → c ≠ b
  bs : ∀ b o, X.base.get? b = some o → X.s₀.heap.get? b = some o ∧ X.H₀ b = none
  bsz : X.base.objs.size ≤ X.s₀.heap.objs.size
  noex : ∀ b o, X.base.get? b = some o → b ∉ X.ex
  exfs : ∀ b ∈ X.ex, b ∉ X.fs
  funs : X.s₀.heap.FunFrames X.base X.outer
  frf : ∀ b ∈ X.fs, X.H₀ b = none

structure Inv (X : Cx) (pins : List (Addr × Obj)) (σ : List (Option V)) (H : Hp) (s : Shared) : Prop where
  ok : X.Ok
  os : s.os = X.s₀.os
  bare : AllBare s.gens
  base : Un X.fs X.ex X.H₀ H X.s₀.heap s.heap
  loc : ∃ m, s.heap.Ns X.env.locals m ∧ ∀ (i : Nat) (x : Str) (v : V), X.N[i]? = some x → σ[i]? = some (some v) → Vis X.env.scope x → ∃ u, RelV v u ∧ Look X.env s.heap m x u
  cell : ∀ x c, X.env.cells.lookup x = some c → ∃ v, s.heap.IsCell c v
  free : H X.env.locals = none
  freeC : ∀ x c, X.env.cells.lookup x = some c → H c = none
  pin : ∀ p ∈ X.pn ++ pins, s.heap.get? p.1 = some p.2 ∧ H p.1 = none ∧ p.1 ≠ X.env.locals ∧ p.1 ∉ X.fs ∧ ∀ v, p.2.data ≠ .cell v
  hok : HOk X.prog X.w H s.heap
  len : σ.length = X.N.length

section
variable {X : Cx} {pins : List (Addr × Obj)} {σ : List (Option V)} {H H' : Hp} {s : Shared} {h' : Heap}

theorem Cx.Ok.nofr (ok : X.Ok) {b : Addr} {o : Obj} (e : X.base.get? b = some o) : b ∉ X.fs := fun hb => by
  have := (ok.funs.mem hb).1
  rw [e] at this; cases this
theorem Inv.bs (I : Inv X pins σ H s) : ∀ b o, X.base.get? b = some o → s.heap.get? b = some o ∧ H b = none := fun b o e =>
  ⟨I.base.keep b o (I.ok.bs b o e).1 (I.ok.bs b o e).2 (I.ok.nofr e) (I.ok.noex b o e), I.base.free b o (I.ok.bs b o e).1 (I.ok.bs b o e).2 (I.ok.noex b o e)⟩
theorem Inv.bk (I : Inv X pins σ H s) : ∀ b o, X.base.get? b = some o → s.heap.get? b = some o := fun b o e => (I.bs b o e).1
theorem Inv.mod (I : Inv X pins σ H s) : Mod X.K X.mg X.base := I.ok.mod
theorem Inv.kIn (I : Inv X pins σ H s) : X.K.In s.heap := I.ok.mod.kin.keeps I.bk
theorem Inv.nolimit (I : Inv X pins σ H s) : s.heap.NoLimit := I.ok.mod.nolimit.keeps I.bk
/-- the frame over the base: for OpenK's rules (K.In X.base is I.mod.kin) -/
theorem Inv.fr (I : Inv X pins σ H s) : ∃ m, Fr X.base X.env.locals s.heap m :=
  let ⟨m, hn, _⟩ := I.loc
  ⟨m, hn, I.bk, Nat.le_trans I.ok.bsz I.ok.above⟩
theorem Inv.lt (I : Inv X pins σ H s) : X.env.locals < s.heap.objs.size := let ⟨_, hn, _⟩ := I.loc; hn.lt
theorem Inv.sz (I : Inv X pins σ H s) : X.s₀.heap.objs.size ≤ s.heap.objs.size := Nat.le_trans I.ok.above (Nat.le_of_lt I.lt)
theorem Inv.nofs (I : Inv X pins σ H s) {a : Addr} (h : s.heap.objs.size ≤ a) : a ∉ X.fs := fun hb => by
  obtain ⟨_, o, ho, _⟩ := I.ok.funs.mem hb
  exact absurd (Nat.lt_of_lt_of_le (Heap.lt_size ho) (Nat.le_trans I.sz h)) (Nat.lt_irrefl _)
theorem Inv.cne (I : Inv X pins σ H s) : ∀ x c, X.env.cells.lookup x = some c → c ≠ X.env.locals := fun x c e z => by
  obtain ⟨v, o, ho, hd⟩ := I.cell x c e
  obtain ⟨m, ⟨o', es, ep, ho', hd', _⟩, _⟩ := I.loc
  rw [z, ho'] at ho; cases ho; rw [hd'] at hd; cases hd
theorem Inv.funs (I : Inv X pins σ H s) : s.heap.FunFrames X.base X.outer := by
  have all : ∀ (l : List Env), (∀ b ∈ frs l, b ∈ X.fs) → X.s₀.heap.FunFrames X.base l → s.heap.FunFrames X.base l := by
    intro l
    induction l with
    | nil => intro _ _; trivial
    | cons env r ih =>
      intro hs hl
      obtain ⟨hk, ⟨L, o, hf, hn, ho, hd⟩, hr⟩ := hl
      have hL : L ∈ X.fs := hs L (by unfold frs; rw [List.filterMap_cons, hf]; exact List.mem_cons_self)
      obtain ⟨sl, e⟩ := I.base.slot L o ho (I.ok.frf L hL) hL fun z => I.ok.exfs L z hL
      exact ⟨hk, ⟨L, _, hf, hn, e, hd⟩, ih (fun b hb => hs b (by unfold frs; rw [List.filterMap_cons, hf]; exact List.mem_cons_of_mem _ hb)) hr⟩
  exact all X.outer (fun _ hb => hb) I.ok.funs

/-- the frames that run, for a call -/
theorem Inv.stack (I : Inv X pins σ H s) : s.heap.FunFrames X.base X.stack := by
  rcases I.ok.stk with e | ⟨e, hf⟩
  · rw [e]; exact I.funs
  · rw [e]
    obtain ⟨m, hn, _⟩ := I.loc
    refine .cons (by rw [I.ok.kind]; decide) hf hn ?_ I.funs
    exact Heap.get?_none_of_le (Nat.le_trans I.ok.bsz I.ok.above)
theorem Inv.stkSub (I : Inv X pins σ H s) : ∀ b ∈ frs X.stack, b ∈ X.env.locals :: X.fs := fun b hb => by
  rcases I.ok.stk with e | ⟨e, hf⟩
  · rw [e] at hb; exact List.mem_cons_of_mem _ hb
  · rw [e] at hb
    unfold frs at hb
    rw [List.filterMap_cons, hf] at hb
    exact hb
theorem Inv.stkFree (I : Inv X pins σ H s) : ∀ b ∈ frs X.stack, H b = none := fun b hb => by
  rcases List.mem_cons.mp (I.stkSub b hb) with e | hb
  · rw [e]; exact I.free
  · obtain ⟨_, o, ho, _⟩ := I.ok.funs.mem hb
    exact I.base.free b o ho (I.ok.frf b hb) fun z => I.ok.exfs b z hb

/-- THE STEP: the untracked objects but the frame and the records at ch are kept (the callers' frames up to slots), the frame's map is kept, the new abstract heap is held -/
theorem Inv.step {g' : Array GenState} {t' : Nat} {d' : Drawn} {ch : List Addr} (I : Inv X pins σ H s)
    (hch : ∀ b ∈ ch, (b ∈ X.ex ∨ X.s₀.heap.objs.size ≤ b) ∧ b ≠ X.env.locals ∧ (∀ x c, X.env.cells.lookup x = some c → c ≠ b) ∧ ∀ p ∈ X.pn ++ pins, p.1 ≠ b)
    (keep : ∀ b o, b ≠ X.env.locals → b ∉ X.fs → b ∉ ch → s.heap.get? b = some o → H b = none → h'.get? b = some o)
    (slot : ∀ b o, b ≠ X.env.locals → b ∈ X.fs → b ∉ ch → s.heap.get? b = some o → H b = none → ∃ sl, h'.get? b = some { o with slots := sl }) (free : ∀ b o, b ∉ ch → s.heap.get? b = some o → H b = none → H' b = none)
    (there : ∀ b o, b ∉ ch → s.heap.get? b = some o → ∃ o', h'.get? b = some o')
    (tups : ∀ b xs, H b = some (.tup xs) → H' b = some (.tup xs)) (frzs : ∀ b o u, H b = some (.frz o u) → H' b = some (.frz o u)) (tbls : ∀ b ps, H b = some (.tbl ps) → ∃ more, H' b = some (.tbl (ps ++ more)))
    (ns : ∀ m, s.heap.Ns X.env.locals m → h'.Ns X.env.locals m) (hok : HOk X.prog X.w H' h') (hg : AllBare g') :
    Inv X pins σ H' { s with heap := h', gens := g', drawn := d', toks := t' } := by
  have neL : ∀ b o, X.s₀.heap.get? b = some o → b ≠ X.env.locals := fun b o e => Nat.ne_of_lt (Nat.lt_of_lt_of_le (Heap.lt_size e) I.ok.above)
  have neC : ∀ b o, X.s₀.heap.get? b = some o → b ∉ X.ex → b ∉ ch := fun b o e hx hb => by
    rcases (hch b hb).1 with z | z
    · exact hx z
    · exact absurd (Nat.lt_of_lt_of_le (Heap.lt_size e) z) (Nat.lt_irrefl _)
  have cellK : ∀ x c, X.env.cells.lookup x = some c → ∀ v, s.heap.IsCell c v → h'.IsCell c v := fun x c e v ⟨o, ho, hd⟩ => by
    have nch : c ∉ ch := fun z => (hch c z).2.2.1 x c e rfl
    by_cases hc : c ∈ X.fs
    · obtain ⟨sl, q⟩ := slot c o (I.cne x c e) hc nch ho (I.freeC x c e)
      exact ⟨_, q, hd⟩
    · exact ⟨o, keep c o (I.cne x c e) hc nch ho (I.freeC x c e), hd⟩
  refine ⟨I.ok, I.os, hg, ⟨fun b o e n hb hx => ?_, fun b o e n hb hx => ?_, fun b o e n hx => ?_, fun b o e hx => ?_, fun b xs e => tups b xs (I.base.tups b xs e), fun b o xs e => frzs b o xs (I.base.frzs b o xs e), fun b ps e => ?_⟩, ?_, fun x c e => ?_, ?_, fun x c e => ?_, fun p hp => ?_, hok, I.len⟩
  · exact keep b o (neL b o e) hb (neC b o e hx) (I.base.keep b o e n hb hx) (I.base.free b o e n hx)
  · obtain ⟨sl, e1⟩ := I.base.slot b o e n hb hx
    obtain ⟨sl', e2⟩ := slot b _ (neL b o e) hb (neC b o e hx) e1 (I.base.free b o e n hx)
    exact ⟨sl', e2⟩
  · obtain ⟨o', e1⟩ := I.base.there b o e hx
    exact free b o' (neC b o e hx) e1 (I.base.free b o e n hx)
  · obtain ⟨o', e1⟩ := I.base.there b o e hx
    exact there b o' (neC b o e hx) e1
  · obtain ⟨m1, e1⟩ := I.base.tbls b ps e
    obtain ⟨m2, e2⟩ := tbls b _ e1
    exact ⟨m1 ++ m2, by rw [e2, Array.append_assoc]⟩
  · obtain ⟨m, hn, hl⟩ := I.loc
    refine ⟨m, ns m hn, fun i x v e1 e2 e3 => ?_⟩
    obtain ⟨u, r, l⟩ := hl i x v e1 e2 e3
    refine ⟨u, r, ?_⟩
    rcases l with l | ⟨k, c, e, z⟩
    · exact .inl l
    · exact .inr ⟨k, c, e, cellK x c e _ z⟩
  · obtain ⟨v, z⟩ := I.cell x c e
    exact ⟨v, cellK x c e v z⟩
  · obtain ⟨m, ⟨o, _, _, ho, _⟩, _⟩ := I.loc
    exact free _ o (fun z => (hch _ z).2.1 rfl) ho I.free
  · obtain ⟨v, o, ho, hd⟩ := I.cell x c e
    exact free c o (fun z => (hch c z).2.2.1 x c e rfl) ho (I.freeC x c e)
  · obtain ⟨e, n, ne, nf, d⟩ := I.pin p hp
    have nch : p.1 ∉ ch := fun z => (hch p.1 z).2.2.2 p hp rfl
    exact ⟨keep p.1 p.2 ne nf nch e n, free p.1 p.2 nch e n, ne, nf, d⟩
/-- .. where the frame's own object is kept too -/
theorem Inv.un {t' : Nat} (I : Inv X pins σ H s) (u : Un X.fs [] H H' s.heap h') (hok : HOk X.prog X.w H' h') : Inv X pins σ H' { s with heap := h', toks := t' } := by
  obtain ⟨m, ⟨o, es, ep, ho, r⟩, _⟩ := id I.loc
  obtain ⟨sl, hL⟩ := u.any ho I.free (by simp)
  exact I.step (g' := s.gens) (d' := s.drawn) (ch := []) (fun _ z => nomatch z) (fun b o _ hb _ e n => u.keep b o e n hb (by simp)) (fun b o _ hb _ e n => u.slot b o e n hb (by simp)) (fun b o _ e n => u.free b o e n (by simp)) (fun b o _ e => u.there b o e (by simp)) u.tups u.frzs u.tbls (fun m' hm => by
    obtain ⟨o', es', ep', ho', r'⟩ := hm
    rw [ho] at ho'; cases ho'
    exact ⟨_, es', ep', hL, r'⟩) hok I.bare
/-- behind a call (or a comprehension's block): the slots of this frame may have changed too, the records at ch may have turned -/
theorem Inv.call {g' : Array GenState} {t' : Nat} {d' : Drawn} {ch : List Addr} (I : Inv X pins σ H s) (u : Un (frs X.stack) ch H H' s.heap h') (hok : HOk X.prog X.w H' h') (hg : AllBare g')
    (hch : ∀ b ∈ ch, (b ∈ X.ex ∨ X.s₀.heap.objs.size ≤ b) ∧ b ≠ X.env.locals ∧ (∀ x c, X.env.cells.lookup x = some c → c ≠ b) ∧ ∀ p ∈ X.pn ++ pins, p.1 ≠ b) :
    Inv X pins σ H' { s with heap := h', gens := g', drawn := d', toks := t' } := by
  obtain ⟨m, ⟨o, es, ep, ho, r⟩, _⟩ := id I.loc
  obtain ⟨sl, hL⟩ := u.any ho I.free fun z => (hch _ z).2.1 rfl
  exact I.step (ch := ch) hch (fun b o hL hb hc e n => u.keep b o e n (fun z => (List.mem_cons.mp (I.stkSub b z)).elim hL hb) hc) (fun b o _ _ hc e n => u.any e n hc) (fun b o hc e n => u.free b o e n hc) (fun b o hc e => u.there b o e hc) u.tups u.frzs u.tbls (fun m' hm => by
    obtain ⟨o', es', ep', ho', r'⟩ := hm
    rw [ho] at ho'; cases ho'
    exact ⟨_, es', ep', hL, r'⟩) hok hg
/-- an untracked record of ours (an iterator) has turned -/
theorem Inv.turned {t' : Nat} {it : Addr} (I : Inv X pins σ H s) (k : ∀ b o, b ≠ it → s.heap.get? b = some o → h'.get? b = some o) (hn : H it = none) (hL : it ≠ X.env.locals)
    (h1 : it ∈ X.ex ∨ X.s₀.heap.objs.size ≤ it) (h2 : ∀ x c, X.env.cells.lookup x = some c → c ≠ it) (h3 : ∀ p ∈ X.pn ++ pins, p.1 ≠ it) : Inv X pins σ H { s with heap := h', toks := t' } := by
  have nit : ∀ b u, H b = some u → b ≠ it := fun b u e z => by rw [z, hn] at e; cases e
  refine I.step (g' := s.gens) (d' := s.drawn) (ch := [it]) (fun b hb => ?_) (fun b o _ _ hc e _ => k b o (fun z => hc (by simp [z])) e) (fun b o _ _ hc e _ => ⟨o.slots, k b o (fun z => hc (by simp [z])) e⟩) (fun _ _ _ _ n => n)
    (fun b o hc e => ⟨o, k b o (fun z => hc (by simp [z])) e⟩) (fun _ _ e => e) (fun _ _ _ e => e) (fun b ps e => ⟨#[], by rw [e]; simp⟩) (fun m hm => ?_) (fun b u e => ?_) I.bare
  · have e : b = it := by simpa using hb
    subst e
    exact ⟨h1, hL, h2, h3⟩
  · obtain ⟨o, es, ep, ho, r⟩ := hm
    exact ⟨o, es, ep, k _ o (Ne.symm hL) ho, r⟩
  · refine (I.hok b u e).stay (fun c v hc q => k c v ?_ q) (fun _ q => q) fun _ _ q => q
    rcases hc with z | z
    · rw [z]; exact nit b u e
    · exact nit c _ z
theorem Inv.tok (I : Inv X pins σ H s) (t : Nat) : Inv X pins σ H { s with toks := t } := I.un (h' := s.heap) (t' := t) Un.refl I.hok
/-- all objects kept -/
theorem Inv.kept {t' : Nat} (I : Inv X pins σ H s) (k : ∀ b u, s.heap.get? b = some u → h'.get? b = some u) : Inv X pins σ H { s with heap := h', toks := t' } := I.un (Un.kept k) (I.hok.kept k)
/-- a new object laid and tracked -/
theorem Inv.laid {a : Addr} {o : HO} {t' : Nat} (I : Inv X pins σ H s) (k : ∀ b u, s.heap.get? b = some u → h'.get? b = some u) (hp : s.heap.objs.size ≤ a) (new : ObjOk X.prog X.w (upd H a o) h' a o) :
    Inv X pins σ (upd H a o) { s with heap := h', toks := t' } := I.un (Un.laid k hp (I.hok.fresh hp)) (I.hok.laid k hp new)
/-- an object written -/
theorem Inv.write {x e : Addr} {o : HO} {t' : Nat} (I : Inv X pins σ H s) (mu : Mut (H x)) (he : e = x ∨ H e = some (.own x)) (k : ∀ b u, b ≠ e → s.heap.get? b = some u → h'.get? b = some u) (heo : ∃ u, h'.get? e = some u)
    (new : ObjOk X.prog X.w (upd H x o) h' x o) : Inv X pins σ (upd H x o) { s with heap := h', toks := t' } := I.un (Un.write mu he k heo) (I.hok.write mu he k heo new)
/-- forgetting slots, pins -/
theorem Inv.weak {σ' : List (Option V)} (I : Inv X pins σ H s) (hl : σ'.length = σ.length) (w : ∀ (i : Nat) v, σ'[i]? = some (some v) → σ[i]? = some (some v)) : Inv X pins σ' H s :=
  ⟨I.ok, I.os, I.bare, I.base, let ⟨m, hn, hl'⟩ := I.loc; ⟨m, hn, fun i x v e1 e2 e3 => hl' i x v e1 (w i v e2) e3⟩, I.cell, I.free, I.freeC, I.pin, I.hok, hl.trans I.len⟩
theorem Inv.pins_of {pins' : List (Addr × Obj)} (I : Inv X pins σ H s) (h : ∀ p ∈ pins', s.heap.get? p.1 = some p.2 ∧ H p.1 = none ∧ p.1 ≠ X.env.locals ∧ p.1 ∉ X.fs ∧ ∀ v, p.2.data ≠ .cell v) : Inv X pins' σ H s :=
  ⟨I.ok, I.os, I.bare, I.base, I.loc, I.cell, I.free, I.freeC, fun p hp => (List.mem_append.mp hp).elim (fun z => I.pin p (List.mem_append_left _ z)) (h p), I.hok, I.len⟩

theorem nodup_ix {N : List Str} (hN : N.Nodup) {i j : Nat} {x : Str} (a : N[i]? = some x) (b : N[j]? = some x) : i = j := by
  obtain ⟨h1, e1⟩ := List.getElem?_eq_some_iff.mp a
  obtain ⟨h2, e2⟩ := List.getElem?_eq_some_iff.mp b
  exact (List.getElem_inj hN).mp (e1.trans e2.symm)

/-- a name is stored; what changed -/
theorem store_ok2 {M : Model} {A : Around} {E : Value → Shared → Prop} {i : Nat} {x : Str} {v : V} {u : Value} {Q : Unit → Shared → Prop} (I : Inv X pins σ H s) (hN : X.N.Nodup) (hi : X.N[i]? = some x) (hx : Loc X.env.scope x) (r : RelV v u)
    (h : ∀ s', Inv X pins (σ.set i (some v)) H s' → (∃ a, Heap.SameBut a s.heap s'.heap ∧ (a = X.env.locals ∨ X.env.cells.lookup x = some a)) → Q () s') (hf : X.fn x = true ∨ X.env.scope.names.lookup x = some .local := by first | exact .inl rfl | exact .inr rfl | assumption) : wpAny M A (storeName X.env x u) Q E s := by
  obtain ⟨m, hn, hl⟩ := id I.loc
  have hcls : (X.env.scope.kind == .class || (X.env.scope.kind == .module && X.env.locals != X.env.globals)) = false := by rw [I.ok.kind]; rfl
  have hiσ : i < σ.length := by rw [I.len]; exact (List.getElem?_eq_some_iff.mp hi).1
  have cne := I.cne
  have tracked : ∀ {a : Addr} {h' : Heap}, (∃ o, s.heap.get? a = some o ∧ H a = none) → Heap.SameBut a s.heap h' → HOk X.prog X.w H h' := fun {a h'} ha hs b ob e => by
    obtain ⟨_, _, hfree⟩ := ha
    refine (I.hok b ob e).stay (fun c w' hc q => (hs.2 c ?_).trans q) (fun _ q => q) fun _ _ q => q
    rintro rfl
    rcases hc with rfl | hc
    · rw [hfree] at e; cases e
    · rw [hfree] at hc; cases hc
  rcases hx with hk | hk
  · refine wpAny_storeName_local hk hn (fun h' hn' hs => ?_) hcls
    obtain ⟨oL, _, _, hoL, _⟩ := id hn
    refine h _ ⟨I.ok, I.os, I.bare, ⟨fun b o e n hb hx => ?_, fun b o e n hb hx => ?_, I.base.free, fun b o e hx => ?_, I.base.tups, I.base.frzs, I.base.tbls⟩, ⟨_, hn', fun j y v' e1 e2 e3 => ?_⟩, fun y c e => ?_, I.free, I.freeC, fun p hp => ?_, tracked ⟨oL, hoL, I.free⟩ hs, by simpa using I.len⟩ ⟨_, hs, .inl rfl⟩
    · exact (hs.2 b (Nat.ne_of_lt (Nat.lt_of_lt_of_le (Heap.lt_size e) I.ok.above))).trans (I.base.keep b o e n hb hx)
    · obtain ⟨sl, e1⟩ := I.base.slot b o e n hb hx
      exact ⟨sl, (hs.2 b (Nat.ne_of_lt (Nat.lt_of_lt_of_le (Heap.lt_size e) I.ok.above))).trans e1⟩
    · obtain ⟨o', e1⟩ := I.base.there b o e hx
      exact ⟨o', (hs.2 b (Nat.ne_of_lt (Nat.lt_of_lt_of_le (Heap.lt_size e) I.ok.above))).trans e1⟩
    · by_cases hj : j = i
      · subst hj
        rw [hi] at e1; cases e1
        rw [List.getElem?_set_self hiσ] at e2
        cases e2
        exact ⟨u, r, .inl ⟨hk, by simp⟩⟩
      · rw [List.getElem?_set_ne (Ne.symm hj)] at e2
        obtain ⟨u', r', q⟩ := hl j y v' e1 e2 e3
        refine ⟨u', r', ?_⟩
        rcases q with ⟨k, e⟩ | ⟨k, c, e, z⟩
        · refine .inl ⟨k, ?_⟩
          have : y ≠ x := fun e => hj (nodup_ix hN e1 (e ▸ hi))
          simp [this, e]
        · exact .inr ⟨k, c, e, z.sameBut hs (cne y c e)⟩
    · obtain ⟨w', z⟩ := I.cell y c e
      exact ⟨w', z.sameBut hs (cne y c e)⟩
    · obtain ⟨e, n, ne, nf, d⟩ := I.pin p hp
      exact ⟨(hs.2 p.1 ne).trans e, n, ne, nf, d⟩
  · have hfn : X.fn x = true := by
      rcases hf with z | z
      · exact z
      · rw [z] at hk; cases hk
    obtain ⟨c, hc⟩ := I.ok.has x (.inl hk)
    obtain ⟨w', z⟩ := I.cell x c hc
    refine wpAny_storeName_cell I.ok.kind hk hc z (fun h' hc' hs => ?_)
    obtain ⟨oc, hoc, hocd⟩ := id z
    refine h { s with heap := h' } ⟨I.ok, I.os, I.bare, ⟨fun b o e n hb hx => ?_, fun b o e n hb hx => ?_, I.base.free, fun b o e hx => ?_, I.base.tups, I.base.frzs, I.base.tbls⟩, ⟨m, hn.sameBut hs (Ne.symm (cne x c hc)), fun j y v' e1 e2 e3 => ?_⟩, fun y c' e => ?_, I.free, I.freeC, fun p hp => ?_, tracked ⟨oc, hoc, I.freeC x c hc⟩ hs, by simpa using I.len⟩ ⟨c, hs, .inr hc⟩
    · exact (hs.2 b (Nat.ne_of_lt (Nat.lt_of_lt_of_le (Heap.lt_size e) (I.ok.cab x c hfn hc)))).trans (I.base.keep b o e n hb hx)
    · obtain ⟨sl, e1⟩ := I.base.slot b o e n hb hx
      exact ⟨sl, (hs.2 b (Nat.ne_of_lt (Nat.lt_of_lt_of_le (Heap.lt_size e) (I.ok.cab x c hfn hc)))).trans e1⟩
    · obtain ⟨o', e1⟩ := I.base.there b o e hx
      exact ⟨o', (hs.2 b (Nat.ne_of_lt (Nat.lt_of_lt_of_le (Heap.lt_size e) (I.ok.cab x c hfn hc)))).trans e1⟩
    · by_cases hj : j = i
      · subst hj
        rw [hi] at e1; cases e1
        rw [List.getElem?_set_self hiσ] at e2
        cases e2
        exact ⟨u, r, .inr ⟨.inl hk, c, hc, hc'⟩⟩
      · rw [List.getElem?_set_ne (Ne.symm hj)] at e2
        obtain ⟨u', r', q⟩ := hl j y v' e1 e2 e3
        refine ⟨u', r', ?_⟩
        rcases q with q | ⟨k, c', e, z'⟩
        · exact .inl q
        · refine .inr ⟨k, c', e, z'.sameBut hs ?_⟩
          rintro rfl
          exact hj (nodup_ix hN e1 (I.ok.inj _ _ _ e hc ▸ hi))
    · by_cases hcc : c' = c
      · subst hcc; exact ⟨_, hc'⟩
      · obtain ⟨w2, z2⟩ := I.cell y c' e
        exact ⟨w2, z2.sameBut hs hcc⟩
    · obtain ⟨e, n, ne, nf, d⟩ := I.pin p hp
      refine ⟨(hs.2 p.1 ?_).trans e, n, ne, nf, d⟩
      intro q
      rw [q, hoc] at e
      have q' : oc = p.2 := Option.some.inj e
      exact d w' (by rw [← q']; exact hocd)
theorem store_ok {M : Model} {A : Around} {E : Value → Shared → Prop} {i : Nat} {x : Str} {v : V} {u : Value} {Q : Unit → Shared → Prop} (I : Inv X pins σ H s) (hN : X.N.Nodup) (hi : X.N[i]? = some x) (hx : Loc X.env.scope x) (r : RelV v u)
    (h : ∀ s', Inv X pins (σ.set i (some v)) H s' → Q () s') (hf : X.fn x = true ∨ X.env.scope.names.lookup x = some .local := by first | exact .inl rfl | exact .inr rfl | assumption) : wpAny M A (storeName X.env x u) Q E s :=
  store_ok2 I hN hi hx r (fun s' I' _ => h s' I') hf
/-- behind a call or a block, the state as it is -/
theorem Inv.call' {s' : Shared} {ch : List Addr} (I : Inv X pins σ H s) (ho : s'.os = s.os) (u : Un (frs X.stack) ch H H' s.heap s'.heap) (hok : HOk X.prog X.w H' s'.heap) (hg : AllBare s'.gens)
    (hch : ∀ b ∈ ch, (b ∈ X.ex ∨ X.s₀.heap.objs.size ≤ b) ∧ b ≠ X.env.locals ∧ (∀ x c, X.env.cells.lookup x = some c → c ≠ b) ∧ ∀ p ∈ X.pn ++ pins, p.1 ≠ b) : Inv X pins σ H' s' := by
  obtain ⟨h', g', d', t', o'⟩ := s'
  have e : o' = s.os := ho
  subst e
  exact I.call (g' := g') (t' := t') (d' := d') u hok hg hch
end

/-! ### the judgements -/
/-- an exception: its class, its own dict's address (where it has one), the abstract heap behind it -/
abbrev XK := Value → Option Addr → Hp → Prop
abbrev St := List (Option V)
abbrev VK := V → Hp → Prop
/-- an expression's reading; a test's; an argument list's -/
abbrev TE := St → Hp → VK → Prop
abbrev TT := St → Hp → (Bool → Hp → Prop) → Prop
abbrev TA := St → Hp → (List V → Hp → Prop) → Prop
/-- what is wanted behind a statement -/
structure Ends where
  nx : St → Hp → Prop
  rt : VK
  bk : St → Hp → Prop := fun _ _ => False
  ct : St → Hp → Prop := fun _ _ => False
abbrev TS := Ends → St → Hp → Prop

def EP (X : Cx) (pins : List (Addr × Obj)) (σ : St) (Q : VK) (u : Value) (s' : Shared) : Prop := ∃ v H', Inv X pins σ H' s' ∧ RelV v u ∧ Q v H'
def TP (X : Cx) (pins : List (Addr × Obj)) (σ : St) (Q : Bool → Hp → Prop) (b : Bool) (s' : Shared) : Prop := ∃ H', Inv X pins σ H' s' ∧ Q b H'
def AP (X : Cx) (pins : List (Addr × Obj)) (σ : St) (Q : List V → Hp → Prop) (us : List Value) (s' : Shared) : Prop := ∃ vs H', Inv X pins σ H' s' ∧ Vals vs us ∧ Q vs H'
def SP (X : Cx) (pins : List (Addr × Obj)) (D : Ends) (f : Flow) (s' : Shared) : Prop :=
  match f with
  | .next => ∃ σ' H', Inv X pins σ' H' s' ∧ D.nx σ' H'
  | .brk => ∃ σ' H', Inv X pins σ' H' s' ∧ D.bk σ' H'
  | .cont => ∃ σ' H', Inv X pins σ' H' s' ∧ D.ct σ' H'
  | .ret u => ∃ v σ' H', Inv X pins σ' H' s' ∧ RelV v u ∧ D.rt v H'

def PE (X : Cx) (e : Expr) (t : TE) : Prop :=
  ∀ (pins : List (Addr × Obj)) (s : Shared) (σ : St) (H : Hp) (Q : VK), Inv X pins σ H s → t σ H Q → wpAny (model X.prog X.w) X.A (eval e X.env) (EP X pins σ Q) X.xe s
def PT (X : Cx) (e : Expr) (t : TT) : Prop :=
  ∀ (pins : List (Addr × Obj)) (s : Shared) (σ : St) (H : Hp) (Q : Bool → Hp → Prop), Inv X pins σ H s → t σ H Q → wpAny (model X.prog X.w) X.A (isTrue e X.env (eval e X.env)) (TP X pins σ Q) X.xe s
/-- a test whatever its 'whole' is (and, or) -/
def PW (X : Cx) (e : Expr) (t : TT) : Prop :=
  ∀ (whole : Sem Value) (pins : List (Addr × Obj)) (s : Shared) (σ : St) (H : Hp) (Q : Bool → Hp → Prop), Inv X pins σ H s → t σ H Q → wpAny (model X.prog X.w) X.A (isTrue e X.env whole) (TP X pins σ Q) X.xe s
theorem PW.pt {X : Cx} {e : Expr} {t : TT} (h : PW X e t) : PT X e t := h _
/-- an argument list (no star), from the left -/
def PA (X : Cx) (es : List Expr) (t : TA) : Prop :=
  ∀ (pos : Pos) (pins : List (Addr × Obj)) (s : Shared) (σ : St) (H : Hp) (Q : List V → Hp → Prop), Inv X pins σ H s → t σ H Q → wpAny (model X.prog X.w) X.A (spliced (backTo pos (starEach es X.env))) (AP X pins σ Q) X.xe s
def PS (X : Cx) (st : Stmt) (t : TS) : Prop :=
  ∀ (pins : List (Addr × Obj)) (s : Shared) (σ : St) (H : Hp) (D : Ends), Inv X pins σ H s → t D σ H → wpAny (model X.prog X.w) X.A (exec st X.env) (SP X pins D) X.xe s
def PSs (X : Cx) (st : List Stmt) (t : TS) : Prop :=
  ∀ (pins : List (Addr × Obj)) (s : Shared) (σ : St) (H : Hp) (D : Ends), Inv X pins σ H s → t D σ H → wpAny (model X.prog X.w) X.A (execs st X.env) (SP X pins D) X.xe s
/-- weaken the end -/
theorem thn {α : Type} {t : Sem α} {Q Q' : α → Shared → Prop} {M : Model} {A : Around} {E : Value → Shared → Prop} {s : Shared} (h : wpAny M A t Q E s) (hQ : ∀ a s, Q a s → Q' a s) : wpAny M A t Q' E s := wpAny_mono h hQ fun _ _ x => x
end L2

namespace L2
open PySem PySem.Spec PyProof.Rows
section
variable {X : Cx}

/-! ### names and constants -/
def tVar (i : Nat) : TE := fun σ H Q => ∃ v, σ[i]? = some (some v) ∧ Q v H
def tC (v : V) : TE := fun _ H Q => Q v H
theorem pe_var {i : Nat} {x : Str} {pos : Pos} (hN : X.N[i]? = some x) (hv : Vis X.env.scope x) (hd : (x == ("__debug__" : Str)) = false := by decide) (hcd : (x == ("__classdict__" : Str)) = false := by decide) : PE X (.Name x pos) (tVar i) := by
  intro pins s σ H Q I h
  obtain ⟨v, e, h⟩ := h
  obtain ⟨m, hn, hl⟩ := I.loc
  obtain ⟨u, r, l⟩ := hl i x v hN e hv
  have fin : EP X pins σ Q u s := ⟨v, H, I, r, h⟩
  rcases l with ⟨hk, hm⟩ | ⟨hk, c, hc, hcell⟩
  · exact wpAny_Name (wpAny_loadName_local I.ok.kind hk hn hm fin) hd
  · rcases hk with hk | hk
    · exact wpAny_Name (wpAny_loadName_cell I.ok.kind hk hc hcell fin) hd
    · exact wpAny_Name (wpAny_loadName_free I.ok.kind hk hc hcell fin hcd) hd
theorem pe_int {i j pos} : PE X (.Constant (.int i) j pos) (tC (.int i)) := fun _ _ _ H _ I h => wpAny_Constant_int ⟨.int i, H, I.tok _, ⟨_, rfl⟩, h⟩
theorem pe_bl {b j pos} : PE X (.Constant (.bool b) j pos) (tC (.bl b)) := fun _ _ _ H _ I h => Constant_bool ⟨.bl b, H, I, rfl, h⟩
theorem pe_non {j pos} : PE X (.Constant .none j pos) (tC .non) := fun _ _ _ H _ I h => Constant_none ⟨.non, H, I, rfl, h⟩
theorem pe_str {x j pos} : PE X (.Constant (.str x) j pos) (tC (.str x)) := fun _ _ _ H _ I h => Calls.Constant_str ⟨.str x, H, I.tok _, ⟨_, rfl⟩, h⟩

/-- a global name of the def -/
def Gl (X : Cx) (x : Str) : Prop := X.env.kindOf x = some .globalImplicit
theorem ld_glob {E : Value → Shared → Prop} {pins : List (Addr × Obj)} {s : Shared} {σ : St} {H : Hp} {x : Str} {u : Value} {pos : Pos} {Q : Value → Shared → Prop} (I : Inv X pins σ H s) (hg : Gl X x) (hm : X.mg x = some u) (h : Q u s)
    (hd : (x == ("__debug__" : Str)) = false := by decide) : wpAny (model X.prog X.w) X.A (eval (.Name x pos) X.env) Q E s :=
  Calls.Name_function_global I.ok.kind hg (Calls.loadGlobal_global (by rw [I.ok.glob]; exact I.mod.glob.keeps I.bk) hm h) hd
theorem ld_blt {E : Value → Shared → Prop} {pins : List (Addr × Obj)} {s : Shared} {σ : St} {H : Hp} {x : Str} {u : Value} {pos : Pos} {Q : Value → Shared → Prop} (I : Inv X pins σ H s) (hg : Gl X x) (hm : X.mg x = none) (hv : bootBuiltins x = some u) (h : Q u s)
    (hn : x ≠ "__name__" := by decide) (hd : (x == ("__debug__" : Str)) = false := by decide) : wpAny (model X.prog X.w) X.A (eval (.Name x pos) X.env) Q E s := by
  obtain ⟨mb, h1, h2⟩ := I.mod.blt
  exact Calls.Name_function_global I.ok.kind hg (Calls.loadGlobal_builtin (by rw [I.ok.glob]; exact I.mod.glob.keeps I.bk) hm (by rw [I.ok.blt]; exact h1.keeps I.bk) ((h2 x hn).trans hv) h) hd
theorem pe_bltn {x : Str} {v : V} {u : Value} {pos : Pos} (hg : Gl X x) (hm : X.mg x = none) (hv : bootBuiltins x = some u) (r : RelV v u) (hn : x ≠ "__name__" := by decide) (hd : (x == ("__debug__" : Str)) = false := by decide) : PE X (.Name x pos) (tC v) :=
  fun _ _ _ H _ I h => ld_blt I hg hm hv ⟨v, H, I, r, h⟩ hn hd

/-! ### arithmetic -/
variable {a b : Expr} {ta tb : TE} {pos : Pos}
/-! ### comparisons -/
def PC (X : Cx) (op : CmpOp) (a b : Expr) (t : TE) : Prop :=
  ∀ (pins : List (Addr × Obj)) (s : Shared) (σ : St) (H : Hp) (Q : VK), Inv X pins σ H s → t σ H Q →
    wpAny (model X.prog X.w) X.A (eval a X.env) (fun v s₁ => wpAny (model X.prog X.w) X.A (eval b X.env) (fun u s₂ => wpAny (model X.prog X.w) X.A (compareOp op v u) (EP X pins σ Q) X.xe s₂) X.xe s₁) X.xe s
/-- a comparison as a value, as a test -/
def tB (t : TE) : TT := fun σ H Q => t σ H fun x H1 => ∃ c, x = .bl c ∧ Q c H1
/-- an expression whose value is a bool, as a test -/
theorem pt_val {e : Expr} {t : TE} (h : PE X e t) (he : ∀ whole, isTrue e X.env whole = (do let v ← whole; standAt e.pos; holding [v] (truthy v)) := by intro _; rfl) : PT X e (tB t) := by
  intro pins s σ H Q I hw
  refine isTrue_plain (thn (h pins s σ H _ I hw) fun v s1 ⟨x, H1, I1, r1, q1⟩ => ?_) (he _)
  obtain ⟨d, rfl, q⟩ := q1
  cases r1
  exact wpAny_truthy_bool ⟨H1, I1, q⟩

/-! ### and, or, not -/
variable {tA tB' : TT} {rest : List Expr}
def tAnd (t u : TT) : TT := fun σ H Q => t σ H fun c H1 => if c = true then u σ H1 Q else Q false H1
def tOr (t u : TT) : TT := fun σ H Q => t σ H fun c H1 => if c = true then Q true H1 else u σ H1 Q
def tNot (t : TT) : TT := fun σ H Q => t σ H fun c H1 => Q (!c) H1
theorem pw_and1 (ha : PT X a tA) : PW X (.BoolOp .And [a] pos) tA := by
  intro wh pins s σ H Q I h
  refine isTrue_and (thn (ha pins s σ H Q I h) fun c s1 e => ?_)
  cases c with
  | true => exact isTrue_and_nil e
  | false => exact e
theorem pw_or1 (ha : PT X a tA) : PW X (.BoolOp .Or [a] pos) tA := by
  intro wh pins s σ H Q I h
  refine isTrue_or (thn (ha pins s σ H Q I h) fun c s1 e => ?_)
  cases c with
  | false => exact isTrue_or_nil e
  | true => exact e
theorem pw_and (ha : PT X a tA) (hb : PW X (.BoolOp .And (b :: rest) pos) tB') : PW X (.BoolOp .And (a :: b :: rest) pos) (tAnd tA tB') := by
  intro wh pins s σ H Q I h
  refine isTrue_and (thn (ha pins s σ H _ I h) fun c s1 ⟨H1, I1, q1⟩ => ?_)
  cases c with
  | true => exact hb wh pins s1 σ H1 Q I1 q1
  | false => exact ⟨H1, I1, q1⟩
theorem pw_or (ha : PT X a tA) (hb : PW X (.BoolOp .Or (b :: rest) pos) tB') : PW X (.BoolOp .Or (a :: b :: rest) pos) (tOr tA tB') := by
  intro wh pins s σ H Q I h
  refine isTrue_or (thn (ha pins s σ H _ I h) fun c s1 ⟨H1, I1, q1⟩ => ?_)
  cases c with
  | true => exact ⟨H1, I1, q1⟩
  | false => exact hb wh pins s1 σ H1 Q I1 q1
theorem pt_not (ha : PT X a tA) : PT X (.UnaryOp .Not a pos) (tNot tA) := by
  intro pins s σ H Q I h
  exact isTrue_not (ha pins s σ H (fun c H1 => Q (!c) H1) I h)
/-- .. as values (bools) -/
def tAndV (ta tb : TE) : TE := fun σ H Q => ta σ H fun x H1 => ∃ c, x = .bl c ∧ if c = true then tb σ H1 Q else Q (.bl false) H1
def tOrV (ta tb : TE) : TE := fun σ H Q => ta σ H fun x H1 => ∃ c, x = .bl c ∧ if c = true then Q (.bl true) H1 else tb σ H1 Q
def tNotV (ta : TE) : TE := fun σ H Q => ta σ H fun x H1 => ∃ c, x = .bl c ∧ Q (.bl (!c)) H1
theorem pe_one {op} {t : TE} (h : PE X a t) : PE X (.BoolOp op [a] pos) t := fun pins s σ H Q I hw => BoolOp_one (h pins s σ H Q I hw)
theorem pe_and (ha : PE X a ta) (hb : PE X (.BoolOp .And (b :: rest) pos) tb) : PE X (.BoolOp .And (a :: b :: rest) pos) (tAndV ta tb) := by
  intro pins s σ H Q I h
  refine BoolOp_and (thn (ha pins s σ H _ I h) fun v s1 ⟨x, H1, I1, r1, q1⟩ => ?_)
  obtain ⟨c, rfl, q1⟩ := q1
  cases r1
  refine wpAny_truthy_bool ?_
  cases c with
  | true => exact hb pins s1 σ H1 Q I1 q1
  | false => exact ⟨.bl false, H1, I1, rfl, q1⟩
theorem pe_not (ha : PE X a ta) : PE X (.UnaryOp .Not a pos) (tNotV ta) := by
  intro pins s σ H Q I h
  refine UnaryOp_ (thn (ha pins s σ H _ I h) fun v s1 ⟨x, H1, I1, r1, q1⟩ => ?_)
  obtain ⟨c, rfl, q1⟩ := q1
  cases r1
  exact not_of (wpAny_truthy_bool ⟨.bl (!c), H1, I1, rfl, q1⟩)
/-- a if t else b -/
def tIf (t : TT) (ta tb : TE) : TE := fun σ H Q => t σ H fun c H1 => if c = true then ta σ H1 Q else tb σ H1 Q
end
end L2

namespace L2
open PySem PySem.Spec PyProof.Rows

/-! ### a list, a tuple that is read: tracked, frozen, or an object of the module -/
def SqL (K : PySem.W.Frag) (H : Hp) (a : Addr) (xs : List V) : Prop :=
  Rd H a (.lst xs) ∨
    ∃ (o : Obj) (its : Array Value) (n : Nat), K.lookup a = some o ∧ o.cls = .type "list" ∧ o.dict = none ∧ o.data = .seq its n ∧ its.size ≤ sizeLine ∧ Vals xs its.toList
def SqT (K : PySem.W.Frag) (H : Hp) (a : Addr) (xs : List V) : Prop :=
  Rd H a (.tup xs) ∨
    ∃ (o : Obj) (its : Array Value) (n : Nat), K.lookup a = some o ∧ o.cls = .type "tuple" ∧ o.data = .seq its n ∧ its.size ≤ sizeLine ∧ Vals xs its.toList
def absV : Value → Option V
  | .none => some .non
  | .bool b => some (.bl b)
  | .int i _ => some (.int i)
  | .str x _ => some (.str x)
  | .bytes b _ => some (.byt b)
  | .float b _ => some (.flt b)
  | .ref a => some (.ref a)
  | .type n => some (.ty n)
  | _ => none
theorem RelV.abs {x : V} {u : Value} (r : RelV x u) : absV u = some x := by
  cases x with
  | non => cases r; rfl
  | bl _ => cases r; rfl
  | int _ => obtain ⟨t, rfl⟩ := r; rfl
  | str _ => obtain ⟨t, rfl⟩ := r; rfl
  | byt _ => obtain ⟨t, rfl⟩ := r; rfl
  | flt _ => obtain ⟨t, rfl⟩ := r; rfl
  | ref _ => cases r; rfl
  | ty _ => cases r; rfl
theorem RelV.inj {x y : V} {u : Value} (r : RelV x u) (q : RelV y u) : x = y := Option.some.inj (r.abs.symm.trans q.abs)
theorem Vals.inj : ∀ {xs ys : List V} {us : List Value}, Vals xs us → Vals ys us → xs = ys
  | _, _, _, .nil, .nil => rfl
  | _, _, _, .cons r t, .cons r' t' => by rw [r.inj r', Vals.inj t t']
section
variable {X : Cx} {pins : List (Addr × Obj)} {σ : St} {H : Hp} {s : Shared} {a : Addr} {xs ys : List V}
theorem SqL.of {K : PySem.W.Frag} (h : H a = some (.lst xs)) : SqL K H a xs := .inl (.inl h)
theorem SqT.of {K : PySem.W.Frag} (h : H a = some (.tup xs)) : SqT K H a xs := .inl (.inl h)
theorem Inv.list (I : Inv X pins σ H s) (h : SqL X.K H a xs) : ∃ its : List Value, Vals xs its ∧ PlainL s.heap a its.toArray ∧ xs.length ≤ sizeLine := by
  rcases h with h | ⟨o, its, n, hk, hc, hd, hs, hz, r⟩
  · obtain ⟨z, its, n, r, e⟩ := h.ok I.hok
    exact ⟨its, r, ⟨_, n, e, rfl, rfl, rfl⟩, z⟩
  · refine ⟨its.toList, r, ⟨o, n, I.kIn a o hk, hc, hd, by simpa using hs⟩, ?_⟩
    have e := r.length
    simp only [Array.length_toList] at e
    omega
theorem Inv.tuple (I : Inv X pins σ H s) (h : SqT X.K H a xs) : ∃ its : List Value, Vals xs its ∧ IsTup s.heap a its.toArray ∧ xs.length ≤ sizeLine := by
  rcases h with h | ⟨o, its, n, hk, hc, hs, hz, r⟩
  · obtain ⟨z, its, r, p⟩ := h.ok I.hok
    exact ⟨its, r, p, z⟩
  · refine ⟨its.toList, r, ⟨o, I.kIn a o hk, hc, n, by simpa using hs⟩, ?_⟩
    have e := r.length
    simp only [Array.length_toList] at e
    omega
theorem Inv.list_inj (I : Inv X pins σ H s) (h : SqL X.K H a xs) (h' : SqL X.K H a ys) : xs = ys := by
  obtain ⟨its, r, ⟨o, n, e, _, _, d⟩, _⟩ := I.list h
  obtain ⟨its', r', ⟨o', n', e', _, _, d'⟩, _⟩ := I.list h'
  rw [e] at e'; cases e'
  rw [d] at d'
  injection d' with d1 _
  have : its = its' := by simpa using congrArg Array.toList d1
  subst this
  exact r.inj r'
theorem Inv.tuple_inj (I : Inv X pins σ H s) (h : SqT X.K H a xs) (h' : SqT X.K H a ys) : xs = ys := by
  obtain ⟨its, r, ⟨o, e, _, n, d⟩, _⟩ := I.tuple h
  obtain ⟨its', r', ⟨o', e', _, n', d'⟩, _⟩ := I.tuple h'
  rw [e] at e'; cases e'
  rw [d] at d'
  injection d' with d1 _
  have : its = its' := by simpa using congrArg Array.toList d1
  subst this
  exact r.inj r'
end

/-! ### another wish about exceptions -/
abbrev Cx.wish (X : Cx) (E : Value → Shared → Prop) : Cx := { X with xe := E }
/-- no exception leaves -/
abbrev Cx.nox (X : Cx) : Cx := X.wish fun _ _ => False
theorem Cx.Ok.wish {X : Cx} (ok : X.Ok) (E : Value → Shared → Prop) : (X.wish E).Ok :=
  ⟨ok.mod, ok.kind, ok.glob, ok.blt, ok.above, ok.inj, ok.has, ok.cab, ok.hd, ok.frames, ok.stk, ok.exf, ok.bs, ok.bsz, ok.noex, ok.exfs, ok.funs, ok.frf⟩
theorem Cx.Ok.unwish {X : Cx} {E : Value → Shared → Prop} (ok : (X.wish E).Ok) : X.Ok :=
  ⟨ok.mod, ok.kind, ok.glob, ok.blt, ok.above, ok.inj, ok.has, ok.cab, ok.hd, ok.frames, ok.stk, ok.exf, ok.bs, ok.bsz, ok.noex, ok.exfs, ok.funs, ok.frf⟩
section
variable {X : Cx} {pins : List (Addr × Obj)} {σ : St} {H : Hp} {s : Shared} {E : Value → Shared → Prop}
theorem Inv.wish (I : Inv X pins σ H s) (E : Value → Shared → Prop) : Inv (X.wish E) pins σ H s := ⟨I.ok.wish E, I.os, I.bare, I.base, I.loc, I.cell, I.free, I.freeC, I.pin, I.hok, I.len⟩
theorem Inv.unwish (I : Inv (X.wish E) pins σ H s) : Inv X pins σ H s := ⟨I.ok.unwish, I.os, I.bare, I.base, I.loc, I.cell, I.free, I.freeC, I.pin, I.hok, I.len⟩
theorem SP.unwish {D : Ends} {f : Flow} {s' : Shared} (h : SP (X.wish E) pins D f s') : SP X pins D f s' := by
  cases f with
  | next => obtain ⟨σ', H', I, q⟩ := h; exact ⟨σ', H', I.unwish, q⟩
  | brk => obtain ⟨σ', H', I, q⟩ := h; exact ⟨σ', H', I.unwish, q⟩
  | cont => obtain ⟨σ', H', I, q⟩ := h; exact ⟨σ', H', I.unwish, q⟩
  | ret u => obtain ⟨v, σ', H', I, r, q⟩ := h; exact ⟨v, σ', H', I.unwish, r, q⟩
theorem PE.nox {e : Expr} {t : TE} (h : PE X.nox e t) : PE X e t := fun pins s σ H Q I hw =>
  wpAny_mono (h pins s σ H Q (I.wish _) hw) (fun _ _ ⟨v, H', I', r, q⟩ => ⟨v, H', I'.unwish, r, q⟩) fun _ _ z => False.elim z
theorem PT.nox {e : Expr} {t : TT} (h : PT X.nox e t) : PT X e t := fun pins s σ H Q I hw =>
  wpAny_mono (h pins s σ H Q (I.wish _) hw) (fun _ _ ⟨H', I', q⟩ => ⟨H', I'.unwish, q⟩) fun _ _ z => False.elim z
theorem PSs.nox {st : List Stmt} {t : TS} (h : PSs X.nox st t) : PSs X st t := fun pins s σ H D I hw =>
  wpAny_mono (h pins s σ H D (I.wish _) hw) (fun _ _ q => q.unwish) fun _ _ z => False.elim z
end

/-! ### blocks and small statements -/
section
variable {X : Cx} {st : Stmt} {rest : List Stmt} {t u : TS} {e : Expr} {te : TE} {pos : Pos}
def tNext : TS := fun D σ H => D.nx σ H
def tSeq (t u : TS) : TS := fun D σ H => t { D with nx := u D } σ H
theorem pss_nil : PSs X [] tNext := fun _ _ σ H _ I h => wpAny_execs_nil ⟨σ, H, I, h⟩
theorem pss_cons (h1 : PS X st t) (h2 : PSs X rest u) : PSs X (st :: rest) (tSeq t u) := by
  intro pins s σ H D I h
  refine wpAny_execs_cons (thn (h1 pins s σ H { D with nx := u D } I h) fun f s1 q => ?_)
  cases f with
  | next =>
    obtain ⟨σ', H', I', q⟩ := q
    exact h2 pins s1 σ' H' D I' q
  | ret v => exact q
  | brk => exact q
  | cont => exact q
theorem pss_one (h1 : PS X st t) : PSs X [st] t := by
  intro pins s σ H D I h
  refine wpAny_execs_cons (thn (h1 pins s σ H D I h) fun f s1 q => ?_)
  cases f with
  | next => exact wpAny_execs_nil q
  | ret v => exact q
  | brk => exact q
  | cont => exact q
/-- an expression whose value is dropped -/
def tDrop (te : TE) : TS := fun D σ H => te σ H fun _ H1 => D.nx σ H1
def tRet (te : TE) : TS := fun D σ H => te σ H D.rt
theorem ps_ret (he : PE X e te) : PS X (.Return (some e) pos) (tRet te) := by
  intro pins s σ H D I h
  exact wpAny_Return_some (thn (he pins s σ H _ I h) fun v s1 ⟨x, H1, I1, r1, q1⟩ => ⟨x, σ, H1, I1, r1, q1⟩)
def tRetN : TS := fun D _ H => D.rt .non H
def tIfS (c : TT) (t u : TS) : TS := fun D σ H => c σ H fun b H1 => if b = true then t D σ H1 else u D σ H1
theorem ps_if {c : Expr} {a b : List Stmt} {tc : TT} (hc : PT X c tc) (ha : PSs X a t) (hb : PSs X b u) : PS X (.If c a b pos) (tIfS tc t u) := by
  intro pins s σ H D I h
  refine wpAny_If (thn (hc pins s σ H _ I h) fun d s1 ⟨H1, I1, q1⟩ => ?_)
  cases d with
  | true => exact ha pins s1 σ H1 D I1 q1
  | false => exact hb pins s1 σ H1 D I1 q1
end

/-! ### targets -/
abbrev TG := V → St → Hp → (St → Hp → Prop) → Prop
abbrev TGs := List V → St → Hp → (St → Hp → Prop) → Prop
def PG (X : Cx) (target : Expr) (t : TG) : Prop :=
  ∀ (pins : List (Addr × Obj)) (s : Shared) (σ : St) (H : Hp) (v : V) (u : Value) (Q : St → Hp → Prop), Inv X pins σ H s → RelV v u → t v σ H Q →
    wpAny (model X.prog X.w) X.A (assign target X.env u) (fun _ s' => ∃ σ' H', Inv X pins σ' H' s' ∧ Q σ' H') X.xe s
/-- several targets, one after another -/
def PGs (X : Cx) (ts : List Expr) (t : TGs) : Prop :=
  ∀ (pins : List (Addr × Obj)) (s : Shared) (σ : St) (H : Hp) (vs : List V) (us : List Value) (Q : St → Hp → Prop), Inv X pins σ H s → Vals vs us → t vs σ H Q →
    wpAny (model X.prog X.w) X.A (assignInOrder ((assignEach ts X.env).map (·.2)) us) (fun _ s' => ∃ σ' H', Inv X pins σ' H' s' ∧ Q σ' H') X.xe s
/-- a op= b, by values -/
abbrev TIp := V → V → Hp → VK → Prop
section
variable {X : Cx} {pos : Pos}
def gName (i : Nat) : TG := fun v σ H Q => Q (σ.set i (some v)) H
theorem pg_name {i : Nat} {x : Str} (hN : X.N.Nodup) (hi : X.N[i]? = some x) (hx : Loc X.env.scope x) (hf : X.fn x = true ∨ X.env.scope.names.lookup x = some .local := by first | exact .inl rfl | exact .inr rfl | assumption) : PG X (.Name x pos) (gName i) := by
  intro pins s σ H v u Q I r h
  exact wpAny_assign_Name (store_ok I hN hi hx r (fun s' I' => ⟨_, H, I', h⟩) hf)
def gNil : TGs := fun vs σ H Q => vs = [] ∧ Q σ H
def gCons (t : TG) (u : TGs) : TGs := fun vs σ H Q => ∃ v r, vs = v :: r ∧ t v σ H fun σ' H' => u r σ' H' Q
theorem pgs_nil : PGs X [] gNil := by
  intro pins s σ H vs us Q I r h
  obtain ⟨e, h⟩ := h
  subst e
  cases r
  exact assignInOrder_nil ⟨σ, H, I, h⟩
theorem pgs_cons {e : Expr} {es : List Expr} {t : TG} {u : TGs} (h1 : PG X e t) (h2 : PGs X es u)
    (hs : (assignEach (e :: es) X.env).map (·.2) = assign e X.env :: (assignEach es X.env).map (·.2) := by rfl) : PGs X (e :: es) (gCons t u) := by
  intro pins s σ H vs us Q I r h
  obtain ⟨v, vr, e1, h⟩ := h
  subst e1
  cases r with
  | cons r rr =>
    rw [hs]
    refine assignInOrder_cons (thn (h1 pins s σ H _ _ _ I r h) fun _ s1 ⟨σ1, H1, I1, q1⟩ => ?_)
    exact h2 pins s1 σ1 H1 _ _ Q I1 rr q1
/-- (a, b, ..) = a tuple of that length -/
def gTup (K : PySem.W.Frag) (n : Nat) (t : TGs) : TG := fun v σ H Q => ∃ a xs, v = .ref a ∧ SqT K H a xs ∧ xs.length = n ∧ t xs σ H Q
theorem pg_tup {es : List Expr} {k : Nat} {t : TGs} {n : Nat} (hc : X.calm = true) (h : PGs X es t)
    (hn : (assignEach es X.env).length = n := by rfl) (hst : (assignEach es X.env).findIdx? (·.1) = none := by rfl) : PG X (.Tuple es k pos) (gTup X.K n t) := by
  intro pins s σ H v u Q I r hw
  obtain ⟨a, xs, e1, hq, hl, hw⟩ := hw
  subst e1
  cases r
  obtain ⟨its, rv, ht, hz⟩ := I.tuple hq
  refine assign_Tuple_tuple (I.ok.hd hc) ht (by simp [hn, ← hl, rv.length]) hst fun h' hx => ?_
  have I1 : Inv X pins σ H { s with heap := h' } := I.kept (t' := s.toks) fun b o e => hx b o (Nat.ne_of_lt (Heap.lt_size e)) e
  exact h pins _ σ H xs _ Q I1 (by simpa using rv) hw
/-- target = value -/
def tAsg (te : TE) (g : TG) : TS := fun D σ H => te σ H fun x H1 => g x σ H1 D.nx
theorem ps_asg {tg e : Expr} {te : TE} {g : TG} (he : PE X e te) (hg : PG X tg g) (hs : swapsWithSole [tg] e pos.line X.env = pure false := by rfl) (hw : swappedStores [tg] e X.env = pure none := by rfl)
    (h1 : (assignEach [tg] X.env).map (·.2) = [assign tg X.env] := by rfl) : PS X (.Assign [tg] e pos) (tAsg te g) := by
  intro pins s σ H D I h
  refine wpAny_Assign_stores (thn (he pins s σ H _ I h) fun v s1 ⟨x, H1, I1, r1, q1⟩ => ?_) hs hw
  rw [h1]
  exact thn (hg pins s1 σ H1 x v _ I1 r1 q1) fun _ s2 q => q
/-- name = value -/
theorem ps_set {i : Nat} {x : Str} {e : Expr} {te : TE} {pos' : Pos} (hN : X.N.Nodup) (hi : X.N[i]? = some x) (hx : Loc X.env.scope x) (he : PE X e te) (hs : swapsWith e (some (.Name x pos')) pos.line X.env = pure false := by rfl) (hf : X.fn x = true ∨ X.env.scope.names.lookup x = some .local := by first | exact .inl rfl | exact .inr rfl | assumption) :
    PS X (.Assign [.Name x pos'] e pos) (tAsg te (gName i)) := by
  intro pins s σ H D I h
  refine wpAny_Assign_Name (thn (he pins s σ H _ I h) fun v s1 ⟨y, H1, I1, r1, q1⟩ => ?_) hs
  exact store_ok I1 hN hi hx r1 (fun s2 I2 => ⟨_, H1, I2, q1⟩) hf
/-- name op= e -/
def tAug (i : Nat) (te : TE) (ti : TIp) : TS := fun D σ H => ∃ x, σ[i]? = some (some x) ∧ te σ H fun y H1 => ti x y H1 fun z H2 => D.nx (σ.set i (some z)) H2
/-- ints -/
def ipI (f : Int → Int → Int) : TIp := fun x y H Q => ∃ i j, x = .int i ∧ y = .int j ∧ Q (.int (f i j)) H
end

/-! ### while -/
section
variable {X : Cx} {pos : Pos}
end

/-! ### what a loop or a comprehension walks -/
/-- at turn i: it yields x (the heap may grow), or it stops -/
structure It where
  go : Nat → Hp → Prop
  yld : Nat → Hp → V → Hp → Prop
  stop : Nat → Hp → Prop
/-- the iterator's own objects may turn: they are not the frame's, not pinned, younger than the entry (or a comprehension's own) -/
def FpOk (X : Cx) (pins : List (Addr × Obj)) (H : Hp) (b : Addr) : Prop :=
  H b = none ∧ b ≠ X.env.locals ∧ b ∉ X.fs ∧ (b ∈ X.ex ∨ X.s₀.heap.objs.size ≤ b) ∧ (∀ x c, X.env.cells.lookup x = some c → c ≠ b) ∧ ∀ p ∈ X.pn ++ pins, p.1 ≠ b
theorem Inv.fpOk {X : Cx} {pins : List (Addr × Obj)} {σ : St} {H H' : Hp} {s : Shared} {b : Addr} (I : Inv X pins σ H s) (hb : s.heap.objs.size ≤ b) (hn : H' b = none) : FpOk X pins H' b := by
  refine ⟨hn, Nat.ne_of_gt (Nat.lt_of_lt_of_le I.lt hb), I.nofs hb, .inr (Nat.le_trans I.sz hb), fun x c e z => ?_, fun p hp z => ?_⟩
  · obtain ⟨v, q⟩ := I.cell x c e
    exact absurd (Nat.lt_of_lt_of_le q.lt (by rw [z]; exact hb)) (Nat.lt_irrefl _)
  · exact absurd (Nat.lt_of_lt_of_le (Heap.lt_size (I.pin p hp).1) (by rw [z]; exact hb)) (Nat.lt_irrefl _)
structure Turn (P : Program) (w : World) (K : PySem.W.Frag) (tg : Expr) (J : It) (fp : List Addr) (it : Addr) (tn : Nat → Heap → Prop) : Prop where
  mem : it ∈ fp
  obj : ∀ i h, tn i h → ∀ b ∈ fp, ∃ o, h.get? b = some o ∧ ∀ v, o.data ≠ .cell v
  keep : ∀ i h h', tn i h → (∀ b ∈ fp, ∀ o, h.get? b = some o → h'.get? b = some o) → tn i h'
  item : ∀ (X : Cx), X.prog = P → X.w = w → X.K = K → X.calm = true → ∀ (i : Nat) (pins : List (Addr × Obj)) (s : Shared) (σ : St) (H : Hp) (E : Value → Shared → Prop), Inv X pins σ H s → (∀ b ∈ fp, FpOk X pins H b) → tn i s.heap → J.go i H →
    wpAny (model P w) X.A (pyNext (.ref it)) (fun r s1 => ∃ u, r = some u ∧
      wpAny (model P w) X.A (letOwnedTupleGo tg (.ref it) u) (fun _ s2 => ∃ x H', Inv X pins σ H' s2 ∧ RelV x u ∧ J.yld i H x H' ∧ tn (i + 1) s2.heap ∧ ∀ b ∈ fp, H' b = none) E s1) E s
  done : ∀ (X : Cx), X.prog = P → X.w = w → X.K = K → X.calm = true → ∀ (i : Nat) (pins : List (Addr × Obj)) (s : Shared) (σ : St) (H : Hp) (E : Value → Shared → Prop), Inv X pins σ H s → (∀ b ∈ fp, FpOk X pins H b) → tn i s.heap → J.stop i H →
    wpAny (model P w) X.A (pyNext (.ref it)) (fun r s1 => r = none ∧ Inv X pins σ H s1) E s
  self : ∀ (A : Around) (i : Nat) (s : Shared) (Q : Value → Shared → Prop) (E : Value → Shared → Prop), tn i s.heap → Q (.ref it) s → wpAny (model P w) A (pyIter (.ref it)) Q E s
abbrev TI := St → Hp → (It → Hp → Prop) → Prop
/-- an iterator has come -/
def PIE (X : Cx) (pins : List (Addr × Obj)) (σ : St) (tg : Expr) (R : It → Hp → Prop) (itv : Value) (s2 : Shared) : Prop :=
  ∃ (it : Addr) (fp : List Addr) (tn : Nat → Heap → Prop) (J : It) (H' : Hp), itv = .ref it ∧ Inv X pins σ H' s2 ∧ Turn X.prog X.w X.K tg J fp it tn ∧ tn 0 s2.heap ∧ (∀ b ∈ fp, FpOk X pins H' b) ∧ R J H'
def PI (X : Cx) (tg iter : Expr) (wi : TI) : Prop :=
  ∀ (pins : List (Addr × Obj)) (s : Shared) (σ : St) (H : Hp) (R : It → Hp → Prop), Inv X pins σ H s → wi σ H R →
    wpAny (model X.prog X.w) X.A (eval iter X.env) (fun v s1 => wpAny (model X.prog X.w) X.A (pyIter v) (PIE X pins σ tg R) X.xe s1) X.xe s

/-- the step ahead of the store is nothing for an iterator that keeps no tuple -/
theorem go_of {M : Model} {A : Around} {E : Value → Shared → Prop} {s : Shared} {tg : Expr} {it : Addr} {u : Value} {o : Obj} {n : String} {vs : Array Value} {Q : Unit → Shared → Prop} (ho : s.heap.get? it = some o) (hc : o.cls = .type n) (hd : o.data = .fields vs)
    (hn : ["enumerate", "zip", "dict_itemiterator", "dict_reverseitemiterator", "odict_iterator", "itertools.zip_longest", "itertools.pairwise"].contains n = false) (hQ : Q () s) : wpAny M A (letOwnedTupleGo tg (.ref it) u) Q E s := by
  unfold letOwnedTupleGo
  cases tg <;> first
    | exact wpAny_pure hQ
    | (cases u <;> first
        | exact wpAny_pure hQ
        | (refine wpAny_bind (wpAny_load ho ?_)
           rw [hc, hd]
           show wpAny M A (if (["enumerate", "zip", "dict_itemiterator", "dict_reverseitemiterator", "odict_iterator", "itertools.zip_longest", "itertools.pairwise"].contains n && vs[0]? == some (rawInt _)) = true then _ else _) Q E s
           rw [if_neg (by intro h; rw [hn, Bool.false_and] at h; cases h)]
           exact wpAny_pure hQ))

/-- the list at a, as it stands at each turn (a loop may append to it) -/
def Itl (K : PySem.W.Frag) (a : Addr) : It :=
  ⟨fun i H => ∃ xs x, SqL K H a xs ∧ xs[i]? = some x, fun i H x H' => H' = H ∧ ∀ xs, SqL K H a xs → xs[i]? = some x, fun i H => ∃ xs, SqL K H a xs ∧ xs.length ≤ i⟩
def Itt (K : PySem.W.Frag) (a : Addr) : It :=
  ⟨fun i H => ∃ xs x, SqT K H a xs ∧ xs[i]? = some x, fun i H x H' => H' = H ∧ ∀ xs, SqT K H a xs → xs[i]? = some x, fun i H => ∃ xs, SqT K H a xs ∧ xs.length ≤ i⟩
/-- lo, lo + 1, .. (n of them) -/
def Itr (lo : Int) (n : Nat) : It := ⟨fun i _ => i < n, fun i H x H' => H' = H ∧ x = .int (lo + i), fun i _ => n ≤ i⟩
theorem turn_list {P : Program} {w : World} {K : PySem.W.Frag} {tg : Expr} (a it : Addr) : Turn P w K tg (Itl K a) [it] it (fun i h => h.IsListIter it a i) where
  mem := by simp
  obj := fun i h st b hb => by
    have e : b = it := by simpa using hb
    subst e
    obtain ⟨o, e, c, d⟩ := st
    exact ⟨o, e, fun v z => by rw [d] at z; cases z⟩
  keep := fun i h h' st k => st.at fun o e => k it (by simp) o e
  item := by
    intro X hP hw hK hc i pins s σ H E I hf st hg
    subst hP hw hK
    obtain ⟨xs, x, hq, hx⟩ := hg
    obtain ⟨its, rv, p, hz⟩ := I.list hq
    obtain ⟨u, hu, ru⟩ := rv.get hx
    obtain ⟨f0, f1, f2, f3, f4, f5⟩ := hf it (by simp)
    refine wpAny_pyNext_list_item st p.isList (x := u) (by simpa using hu) fun h' st' sb => ?_
    have I1 : Inv X pins σ H { s with heap := h' } := I.turned (t' := s.toks) (fun b o hb e => (sb.2 b hb).trans e) f0 f1 f3 f4 f5
    obtain ⟨o, e, c, d⟩ := id st'
    exact ⟨u, rfl, go_of (s := { s with heap := h' }) e c d (by decide) ⟨x, H, I1, ru, ⟨rfl, fun ys hy => by rw [I.list_inj hy hq]; exact hx⟩, st', fun b hb => (hf b hb).1⟩⟩
  done := by
    intro X hP hw hK hc i pins s σ H E I hf st hg
    subst hP hw hK
    obtain ⟨xs, hq, hx⟩ := hg
    obtain ⟨its, rv, p, hz⟩ := I.list hq
    obtain ⟨f0, f1, f2, f3, f4, f5⟩ := hf it (by simp)
    have hl := rv.length
    exact wpAny_pyNext_list_end (I.ok.hd hc) st p.isList (by simp; omega) fun h' eb => ⟨rfl, I.turned (t' := s.toks) (fun b o hb e => eb b o hb e) f0 f1 f3 f4 f5⟩
  self := fun _ _ _ _ _ st h => wpAny_pyIter_listiter st h
theorem turn_tuple {P : Program} {w : World} {K : PySem.W.Frag} {tg : Expr} (a it : Addr) : Turn P w K tg (Itt K a) [it] it (fun i h => h.IsTupleIter it a i) where
  mem := by simp
  obj := fun i h st b hb => by
    have e : b = it := by simpa using hb
    subst e
    obtain ⟨o, e, c, d⟩ := st
    exact ⟨o, e, fun v z => by rw [d] at z; cases z⟩
  keep := fun i h h' st k => st.at fun o e => k it (by simp) o e
  item := by
    intro X hP hw hK hc i pins s σ H E I hf st hg
    subst hP hw hK
    obtain ⟨xs, x, hq, hx⟩ := hg
    obtain ⟨its, rv, p, hz⟩ := I.tuple hq
    obtain ⟨u, hu, ru⟩ := rv.get hx
    obtain ⟨f0, f1, f2, f3, f4, f5⟩ := hf it (by simp)
    refine wpAny_pyNext_tuple_item st (show s.heap.IsTuple a its.toArray from p) (x := u) (by simpa using hu) fun h' st' sb => ?_
    have I1 : Inv X pins σ H { s with heap := h' } := I.turned (t' := s.toks) (fun b o hb e => (sb.2 b hb).trans e) f0 f1 f3 f4 f5
    obtain ⟨o, e, c, d⟩ := id st'
    exact ⟨u, rfl, go_of (s := { s with heap := h' }) e c d (by decide) ⟨x, H, I1, ru, ⟨rfl, fun ys hy => by rw [I.tuple_inj hy hq]; exact hx⟩, st', fun b hb => (hf b hb).1⟩⟩
  done := by
    intro X hP hw hK hc i pins s σ H E I hf st hg
    subst hP hw hK
    obtain ⟨xs, hq, hx⟩ := hg
    obtain ⟨its, rv, p, hz⟩ := I.tuple hq
    obtain ⟨f0, f1, f2, f3, f4, f5⟩ := hf it (by simp)
    have hl := rv.length
    exact wpAny_pyNext_tuple_end (I.ok.hd hc) st (show s.heap.IsTuple a its.toArray from p) (by simp; omega) fun h' eb => ⟨rfl, I.turned (t' := s.toks) (fun b o hb e => eb b o hb e) f0 f1 f3 f4 f5⟩
  self := fun _ _ _ _ _ st h => wpAny_pyIter_tupleiter st h
end L2

namespace L2
open PySem PySem.Spec PyProof.Rows
section
variable {X : Cx} {tg : Expr}
def iList (K : PySem.W.Frag) (tl : TE) : TI := fun σ H R => tl σ H fun x H1 => ∃ a, x = .ref a ∧ (∃ xs, SqL K H1 a xs) ∧ R (Itl K a) H1
def iTup (K : PySem.W.Frag) (tl : TE) : TI := fun σ H R => tl σ H fun x H1 => ∃ a, x = .ref a ∧ (∃ xs, SqT K H1 a xs) ∧ R (Itt K a) H1
theorem pi_list {l : Expr} {tl : TE} (hl : PE X l tl) : PI X tg l (iList X.K tl) := by
  intro pins s σ H R I h
  refine thn (hl pins s σ H _ I h) fun v s1 ⟨x, H1, I1, r1, q1⟩ => ?_
  obtain ⟨a, e, ⟨xs, hq⟩, q⟩ := q1
  subst e
  cases r1
  obtain ⟨its, rv, p, hz⟩ := I1.list hq
  refine wpAny_pyIter_list p.isList ?_
  refine ⟨s1.heap.objs.size, [s1.heap.objs.size], _, _, H1, rfl, I1.kept (t' := s1.toks) fun b o e => Heap.get?_push_of_some _ e, turn_list a _, ⟨_, Heap.get?_push_size _ rfl, rfl, rfl⟩, fun b hb => ?_, q⟩
  have e : b = s1.heap.objs.size := by simpa using hb
  subst e
  exact I1.fpOk (Nat.le_refl _) (I1.hok.fresh (Nat.le_refl _))
theorem pi_tup {l : Expr} {tl : TE} (hl : PE X l tl) : PI X tg l (iTup X.K tl) := by
  intro pins s σ H R I h
  refine thn (hl pins s σ H _ I h) fun v s1 ⟨x, H1, I1, r1, q1⟩ => ?_
  obtain ⟨a, e, ⟨xs, hq⟩, q⟩ := q1
  subst e
  cases r1
  obtain ⟨its, rv, p, hz⟩ := I1.tuple hq
  refine wpAny_pyIter_tuple (show s1.heap.IsTuple a its.toArray from p) ?_
  refine ⟨s1.heap.objs.size, [s1.heap.objs.size], _, _, H1, rfl, I1.kept (t' := s1.toks) fun b o e => Heap.get?_push_of_some _ e, turn_tuple a _, ⟨_, Heap.get?_push_size _ rfl, rfl, rfl⟩, fun b hb => ?_, q⟩
  have e : b = s1.heap.objs.size := by simpa using hb
  subst e
  exact I1.fpOk (Nat.le_refl _) (I1.hok.fresh (Nat.le_refl _))
def iRng1 (ta : TA) : TI := fun σ H R => ta σ H fun vs H1 => ∃ j : Int, vs = [.int j] ∧ -(2 ^ 62) ≤ j ∧ j < 2 ^ 62 ∧ R (Itr 0 j.toNat) H1
def iRng2 (ta : TA) : TI := fun σ H R => ta σ H fun vs H1 => ∃ i j : Int, vs = [.int i, .int j] ∧ (-(2 ^ 62) ≤ i ∧ i < 2 ^ 62 ∧ -(2 ^ 62) ≤ j ∧ j < 2 ^ 62) ∧ R (Itr i (j - i).toNat) H1
/-! ### for -/
/-- W: the invariant by the turn and a measure; N: what the body is to reach -/
def tFor (wi : TI) (g : TG) (tb : TS) : TS := fun D σ H => wi σ H fun J H1 => ∃ W : Nat → Nat → St → Hp → Prop, (∃ m, W 0 m σ H1) ∧ ∀ i m σ H, W i m σ H →
  (J.stop i H ∧ D.nx σ H) ∨ (J.go i H ∧ ∃ N : St → Hp → Prop, (∀ σ' H', N σ' H' → ∃ m', m' < m ∧ W (i + 1) m' σ' H') ∧ ∀ x H', J.yld i H x H' → g x σ H' fun σ2 H2 => tb { D with nx := N, ct := N, bk := D.nx } σ2 H2)
/-- the records at fp as they stand -/
def pinsAt (fp : List Addr) (h : Heap) : List (Addr × Obj) := fp.filterMap fun b => (h.get? b).map fun o => (b, o)
theorem mem_pinsAt {fp : List Addr} {h : Heap} {b : Addr} {o : Obj} (hb : b ∈ fp) (e : h.get? b = some o) : (b, o) ∈ pinsAt fp h := List.mem_filterMap.mpr ⟨b, hb, by rw [e]; rfl⟩
theorem of_pinsAt {fp : List Addr} {h : Heap} {p : Addr × Obj} (hp : p ∈ pinsAt fp h) : p.1 ∈ fp ∧ h.get? p.1 = some p.2 := by
  obtain ⟨b, hb, e⟩ := List.mem_filterMap.mp hp
  cases q : h.get? b with
  | none => rw [q] at e; cases e
  | some o =>
    rw [q] at e
    have e' : (b, o) = p := Option.some.inj e
    subst e'
    exact ⟨hb, q⟩
theorem Inv.pinned {pins : List (Addr × Obj)} {σ : St} {H : Hp} {s : Shared} {fp : List Addr} (I : Inv X pins σ H s) (hf : ∀ b ∈ fp, FpOk X pins H b) (ho : ∀ b ∈ fp, ∃ o, s.heap.get? b = some o ∧ ∀ v, o.data ≠ .cell v) : Inv X (pins ++ pinsAt fp s.heap) σ H s :=
  I.pins_of fun p hp => (List.mem_append.mp hp).elim (fun z => I.pin p (List.mem_append_right _ z)) fun z => by
    obtain ⟨hb, e⟩ := of_pinsAt z
    obtain ⟨f0, f1, f2, _⟩ := hf p.1 hb
    obtain ⟨o, e', d⟩ := ho p.1 hb
    rw [e] at e'; cases e'
    exact ⟨e, f0, f1, f2, d⟩
theorem Inv.unpinned {pins pl : List (Addr × Obj)} {σ : St} {H : Hp} {s : Shared} (I : Inv X (pins ++ pl) σ H s) : Inv X pins σ H s := I.pins_of fun p hp => I.pin p (List.mem_append_right _ (List.mem_append_left _ hp))
theorem ps_for {iter : Expr} {body : List Stmt} {wi : TI} {g : TG} {tb : TS} {pos : Pos} (hp : PassesOwn (model X.prog X.w) X.A X.env X.xe) (hc : X.calm = true) (hi : PI X tg iter wi) (hg : PG X tg g) (hb : PSs X body tb)
    (hs : ∀ x, foldedSetIterable iter X.env x = pure x := by intro _; rfl) : PS X (.For tg iter body [] pos) (tFor wi g tb) := by
  intro pins s σ H D I h
  refine wpAny_For (thn (hi pins s σ H _ I h) fun v s1 h1 => thn h1 fun itv s2 h2 => ?_) hs
  obtain ⟨it, fp, tn, J, H2, e, I2, T, st2, f2, W, ⟨m0, w0⟩, turn⟩ := h2
  subst e
  -- what stays true of the iterator's objects through the loop
  have stat : ∀ {H' : Hp}, (∀ b ∈ fp, H' b = none) → ∀ b ∈ fp, FpOk X pins H' b := fun hn b hb => ⟨hn b hb, (f2 b hb).2⟩
  refine codeAny_forLoop_any (fun n s' => ∃ i σ' H', Inv X pins σ' H' s' ∧ tn i s'.heap ∧ (∀ b ∈ fp, H' b = none) ∧ W i n σ' H') ?_ m0 ⟨0, σ, H2, I2, st2, fun b hb => (f2 b hb).1, w0⟩
  rintro n s3 ⟨i, σ3, H3, I3, st3, fr3, w3⟩
  rcases turn i n σ3 H3 w3 with ⟨stop, qn⟩ | ⟨go, N, hN, step⟩
  · refine wpAny_passesOwn hp (thn (T.done X rfl rfl rfl hc i pins s3 σ3 H3 X.xe I3 (stat fr3) st3 stop) fun r s4 ⟨hr, I4⟩ => ?_)
    subst hr
    exact wpAny_execs_nil ⟨σ3, H3, I4, qn⟩
  · refine wpAny_passesOwn hp (thn (T.item X rfl rfl rfl hc i pins s3 σ3 H3 X.xe I3 (stat fr3) st3 go) fun r s4 ⟨u, hr, h4⟩ => ?_)
    subst hr
    refine wpAny_passesOwn hp (thn h4 fun _ s5 ⟨x, H5, I5, r5, y5, st5, fr5⟩ => ?_)
    have I5' := I5.pinned (stat fr5) (T.obj _ _ st5)
    refine wpAny_passesOwn hp (thn (hg _ s5 σ3 H5 x u _ I5' r5 (step x H5 y5)) fun _ s6 ⟨σ6, H6, I6, q6⟩ => ?_)
    refine wpAny_passesOwn hp (thn (hb _ s6 σ6 H6 _ I6 q6) fun f s7 q7 => ?_)
    have again : ∀ {σ7 : St} {H7 : Hp}, Inv X (pins ++ pinsAt fp s5.heap) σ7 H7 s7 → N σ7 H7 → ∃ m, m < n ∧ ∃ i σ' H', Inv X pins σ' H' s7 ∧ tn i s7.heap ∧ (∀ b ∈ fp, H' b = none) ∧ W i m σ' H' := fun {σ7 H7} I7 n7 => by
      obtain ⟨m', hm, w7⟩ := hN σ7 H7 n7
      refine ⟨m', hm, i + 1, σ7, H7, I7.unpinned, T.keep _ _ _ st5 fun b hb o e => (I7.pin (b, o) (List.mem_append_right _ (List.mem_append_right _ (mem_pinsAt hb e)))).1, fun b hb => ?_, w7⟩
      obtain ⟨o, e, d⟩ := T.obj _ _ st5 b hb
      exact (I7.pin (b, o) (List.mem_append_right _ (List.mem_append_right _ (mem_pinsAt hb e)))).2.1
    cases f with
    | next => obtain ⟨σ7, H7, I7, n7⟩ := q7; exact again I7 n7
    | cont => obtain ⟨σ7, H7, I7, n7⟩ := q7; exact again I7 n7
    | brk => obtain ⟨σ7, H7, I7, q7⟩ := q7; exact ⟨σ7, H7, I7.unpinned, q7⟩
    | ret v => obtain ⟨x7, σ7, H7, I7, r7, q7⟩ := q7; exact ⟨x7, σ7, H7, I7.unpinned, r7, q7⟩
end

/-! ### the forms one uses -/
/-- over a list that the body leaves as it is -/
theorem for_list {K : PySem.W.Frag} {a : Addr} {xs : List V} {g : TG} {tb : TS} {D : Ends} {σ : St} {H : Hp} (Pv : Nat → St → Hp → Prop) (h0 : Pv 0 σ H) (hl : ∀ i σ H, i ≤ xs.length → Pv i σ H → SqL K H a xs)
    (hs : ∀ i x σ H, xs[i]? = some x → Pv i σ H → g x σ H fun σ2 H2 => tb { D with nx := Pv (i + 1), ct := Pv (i + 1), bk := D.nx } σ2 H2) (hd : ∀ σ H, Pv xs.length σ H → D.nx σ H) :
    ∃ W : Nat → Nat → St → Hp → Prop, (∃ m, W 0 m σ H) ∧ ∀ i m σ H, W i m σ H →
      ((Itl K a).stop i H ∧ D.nx σ H) ∨ ((Itl K a).go i H ∧ ∃ N : St → Hp → Prop, (∀ σ' H', N σ' H' → ∃ m', m' < m ∧ W (i + 1) m' σ' H') ∧ ∀ x H', (Itl K a).yld i H x H' → g x σ H' fun σ2 H2 => tb { D with nx := N, ct := N, bk := D.nx } σ2 H2) := by
  refine ⟨fun i m σ H => m = xs.length - i ∧ i ≤ xs.length ∧ Pv i σ H, ⟨xs.length, by simp, Nat.zero_le _, h0⟩, ?_⟩
  rintro i m σ H ⟨rfl, hi, p⟩
  have q := hl i σ H hi p
  by_cases hlt : i < xs.length
  · refine .inr ⟨⟨xs, xs[i], q, by simp [hlt]⟩, Pv (i + 1), fun σ' H' p' => ⟨xs.length - (i + 1), by omega, rfl, hlt, p'⟩, fun x H' y => ?_⟩
    obtain ⟨e, y⟩ := y
    subst e
    exact hs i x σ _ (y xs q) p
  · have e : i = xs.length := by omega
    subst e
    exact .inl ⟨⟨xs, q, Nat.le_refl _⟩, hd σ H p⟩
end L2

namespace L2
open PySem PySem.Spec PyProof.Rows

abbrev R2 := V → V → Hp → VK → Prop
/-- a two-place operation on values: f is binaryOp op, inplaceOp op or compareOp op -/
def OpR (X : Cx) (f : Value → Value → Sem Value) (r : R2) : Prop :=
  ∀ (pins : List (Addr × Obj)) (s : Shared) (σ : St) (H : Hp) (x y : V) (v u : Value) (Q : VK), Inv X pins σ H s → RelV x v → RelV y u → r x y H Q →
    wpAny (model X.prog X.w) X.A (f v u) (EP X pins σ Q) X.xe s
/-- a one-place operation -/
def UnR (X : Cx) (f : Value → Sem Value) (r : V → Hp → VK → Prop) : Prop :=
  ∀ (pins : List (Addr × Obj)) (s : Shared) (σ : St) (H : Hp) (x : V) (v : Value) (Q : VK), Inv X pins σ H s → RelV x v → r x H Q →
    wpAny (model X.prog X.w) X.A (f v) (EP X pins σ Q) X.xe s
/-- a call of a value that is known (a builtin, a type) with values -/
def CallR (X : Cx) (f : Value) (r : List V → Hp → VK → Prop) : Prop :=
  ∀ (pins : List (Addr × Obj)) (s : Shared) (σ : St) (H : Hp) (xs : List V) (us : List Value) (Q : VK), Inv X pins σ H s → Vals xs us → r xs H Q →
    wpAny (model X.prog X.w) X.A (call f us) (EP X pins σ Q) X.xe s
def tOp (r : R2) (ta tb : TE) : TE := fun σ H Q => ta σ H fun x H1 => tb σ H1 fun y H2 => r x y H2 Q
def tUn (r : V → Hp → VK → Prop) (ta : TE) : TE := fun σ H Q => ta σ H fun x H1 => r x H1 Q
/-- ints in, under C, and a value out -/
def rI (C : Int → Int → Prop) (g : Int → Int → V) : R2 := fun x y H Q => ∃ i j, x = .int i ∧ y = .int j ∧ C i j ∧ Q (g i j) H
def rI0 (g : Int → Int → V) : R2 := fun x y H Q => ∃ i j, x = .int i ∧ y = .int j ∧ Q (g i j) H
def rU (g : Int → V) : V → Hp → VK → Prop := fun x H Q => ∃ i, x = .int i ∧ Q (g i) H

section
variable {X : Cx} {a b c : Expr} {ta tb tc : TE} {pos : Pos}

theorem binT (ha : PE X a ta) (hb : PE X b tb) {pins : List (Addr × Obj)} {s : Shared} {σ : St} {H : Hp} {R : V → V → Hp → Prop} (I : Inv X pins σ H s)
    (h : ta σ H fun x H1 => tb σ H1 fun y H2 => R x y H2) {Q : Value → Shared → Prop} {f : Value → Value → Sem Value}
    (hf : ∀ v u s2 x y H2, Inv X pins σ H2 s2 → RelV x v → RelV y u → R x y H2 → wpAny (model X.prog X.w) X.A (f v u) Q X.xe s2) :
    wpAny (model X.prog X.w) X.A (eval a X.env) (fun v s₁ => wpAny (model X.prog X.w) X.A (eval b X.env) (fun u s₂ => wpAny (model X.prog X.w) X.A (f v u) Q X.xe s₂) X.xe s₁) X.xe s := by
  refine thn (ha pins s σ H _ I h) fun v s1 ⟨x, H1, I1, r1, q1⟩ => ?_
  refine thn (hb pins s1 σ H1 _ I1 q1) fun u s2 ⟨y, H2, I2, r2, q2⟩ => ?_
  exact hf v u s2 x y H2 I2 r1 r2 q2

theorem pe_op {op : Operator} {r : R2} (ho : OpR X (binaryOp op) r) (ha : PE X a ta) (hb : PE X b tb) : PE X (.BinOp a op b pos) (tOp r ta tb) := by
  intro pins s σ H Q I h
  exact wpAny_BinOp (binT ha hb I h fun v u s2 x y H2 I2 rx ry q => ho pins s2 σ H2 x y v u Q I2 rx ry q)
theorem pe_un {op : UnaryOp} {r : V → Hp → VK → Prop} (ho : UnR X (unaryOp op) r) (ha : PE X a ta) : PE X (.UnaryOp op a pos) (tUn r ta) := by
  intro pins s σ H Q I h
  exact UnaryOp_ (thn (ha pins s σ H _ I h) fun v s1 ⟨x, H1, I1, r1, q1⟩ => ho pins s1 σ H1 x v Q I1 r1 q1)
/-! ### ints -/
theorem opI {f : Value → Value → Sem Value} {C : Int → Int → Prop} {g : Int → Int → Int}
    (rule : ∀ (i j : Int) (t u : Tok) (s : Shared) (Q : Value → Shared → Prop) (E : Value → Shared → Prop), C i j → Q (.int (g i j) s.toks) { s with toks := s.toks + 1 } → wpAny (model X.prog X.w) X.A (f (.int i t) (.int j u)) Q E s) :
    OpR X f (rI C fun i j => .int (g i j)) := by
  intro pins s σ H x y v u Q I rx ry h
  obtain ⟨i, j, rfl, rfl, hc, q⟩ := h
  obtain ⟨t, rfl⟩ := rx
  obtain ⟨t', rfl⟩ := ry
  exact rule i j t t' s _ _ hc ⟨.int (g i j), H, I.tok _, ⟨_, rfl⟩, q⟩
theorem opI0 {f : Value → Value → Sem Value} {g : Int → Int → Int}
    (rule : ∀ (i j : Int) (t u : Tok) (s : Shared) (Q : Value → Shared → Prop) (E : Value → Shared → Prop), Q (.int (g i j) s.toks) { s with toks := s.toks + 1 } → wpAny (model X.prog X.w) X.A (f (.int i t) (.int j u)) Q E s) :
    OpR X f (rI0 fun i j => .int (g i j)) := by
  intro pins s σ H x y v u Q I rx ry h
  obtain ⟨i, j, rfl, rfl, q⟩ := h
  obtain ⟨t, rfl⟩ := rx
  obtain ⟨t', rfl⟩ := ry
  exact rule i j t t' s _ _ ⟨.int (g i j), H, I.tok _, ⟨_, rfl⟩, q⟩
theorem opB0 {f : Value → Value → Sem Value} {g : Int → Int → Bool}
    (rule : ∀ (i j : Int) (t u : Tok) (s : Shared) (Q : Value → Shared → Prop) (E : Value → Shared → Prop), Q (.bool (g i j)) s → wpAny (model X.prog X.w) X.A (f (.int i t) (.int j u)) Q E s) :
    OpR X f (rI0 fun i j => .bl (g i j)) := by
  intro pins s σ H x y v u Q I rx ry h
  obtain ⟨i, j, rfl, rfl, q⟩ := h
  obtain ⟨t, rfl⟩ := rx
  obtain ⟨t', rfl⟩ := ry
  exact rule i j t t' s _ _ ⟨.bl (g i j), H, I, rfl, q⟩

def CDiv (i j : Int) : Prop := 0 < j ∧ j < 1073741824
def CPow (i j : Int) : Prop := 0 ≤ j ∧ j ≤ 1000000 ∧ i.natAbs < 2 ^ 64
def CMul (i j : Int) : Prop := (-(2 ^ 64) < i ∧ i < 2 ^ 64) ∨ (-(2 ^ 64) < j ∧ j < 2 ^ 64)
theorem CMul.ok {i j : Int} (h : CMul i j) : IntMulOk i j := by
  rcases h with ⟨h1, h2⟩ | ⟨h1, h2⟩
  · exact .of_left (intBits_le_64 h1 h2)
  · exact .of_right (intBits_le_64 h1 h2)
theorem op_add : OpR X (binaryOp .Add) (rI0 fun i j => .int (i + j)) := opI0 fun _ _ _ _ _ _ _ q => add_int q
theorem op_sub : OpR X (binaryOp .Sub) (rI0 fun i j => .int (i - j)) := opI0 fun _ _ _ _ _ _ _ q => sub_int q
/-- // by a positive divisor -/
theorem op_fdiv : OpR X (binaryOp .FloorDiv) (rI CDiv fun i j => .int (i / j)) := opI fun i j _ _ _ _ _ hc q => by
  have h1 : (0 : Int) < j := hc.1
  have h2 : j < 1073741824 := hc.2
  exact floordiv_int (by omega) (by rw [Int.fdiv_eq_ediv_of_nonneg i (by omega)]; exact q) (.inl (PyProof.noPylong_small (by omega)))
/-- % by a positive divisor of any size -/
theorem op_mod : OpR X (binaryOp .Mod) (rI (fun _ j => 0 < j) fun i j => .int (i % j)) := opI fun i j _ _ _ _ _ hc q => by
  have h1 : (0 : Int) < j := hc
  exact mod_int' (by omega) (by rw [Int.fmod_eq_emod_of_nonneg i (by omega)]; exact q)
theorem op_pow : OpR X (binaryOp .Pow) (rI CPow fun i j => .int (i ^ j.toNat)) := opI fun _ _ _ _ _ _ _ hc q => pow_int_small hc.1 hc.2.1 hc.2.2 q
theorem unI {f : Value → Sem Value} {g : Int → Int}
    (rule : ∀ (i : Int) (t : Tok) (s : Shared) (Q : Value → Shared → Prop) (E : Value → Shared → Prop), Q (.int (g i) s.toks) { s with toks := s.toks + 1 } → wpAny (model X.prog X.w) X.A (f (.int i t)) Q E s) :
    UnR X f (rU fun i => .int (g i)) := by
  intro pins s σ H x v Q I rx h
  obtain ⟨i, rfl, q⟩ := h
  obtain ⟨t, rfl⟩ := rx
  exact rule i t s _ _ ⟨.int (g i), H, I.tok _, ⟨_, rfl⟩, q⟩
theorem un_neg : UnR X (unaryOp .USub) (rU fun i => .int (-i)) := unI fun _ _ _ _ _ q => neg_int q
/-! ### bools among ints: n += (a < b) -/
end

/-! ### comparisons -/
/-- the scalars that == tells apart as data does -/
def scal : V → V → Bool
  | .non, .non => true | .non, .int _ => true | .int _, .non => true | .non, .bl _ => true | .bl _, .non => true | .non, .str _ => true | .str _, .non => true
  | .int _, .int _ => true | .bl _, .bl _ => true | .str _, .str _ => true | .byt _, .byt _ => true
  | .int _, .str _ => true | .str _, .int _ => true | .bl _, .str _ => true | .str _, .bl _ => true
  | _, _ => false
def rEq : R2 := fun x y H Q => scal x y = true ∧ Q (.bl (decide (x = y))) H
def rNe : R2 := fun x y H Q => scal x y = true ∧ Q (.bl (!decide (x = y))) H

theorem dec_int {i j : Int} : decide (V.int i = V.int j) = (i == j) := by
  rw [Bool.eq_iff_iff]
  simp
theorem dec_bl {i j : Bool} : decide (V.bl i = V.bl j) = (i == j) := by
  rw [Bool.eq_iff_iff]
  simp
theorem dec_str {i j : Str} : decide (V.str i = V.str j) = (i == j) := by
  rw [Bool.eq_iff_iff]
  simp
theorem dec_byt {i j : Array UInt8} : decide (V.byt i = V.byt j) = (i.toList == j.toList) := by
  rw [Bool.eq_iff_iff]
  cases i
  cases j
  simp

section
variable {X : Cx} {a b c : Expr} {ta tb tc : TE} {pos : Pos}
theorem fin_bl {pins : List (Addr × Obj)} {σ : St} {H : Hp} {s : Shared} {Q : VK} {k k' : Bool} (I : Inv X pins σ H s) (q : Q (.bl k) H) (e : k = k') : EP X pins σ Q (.bool k') s := by
  subst e
  exact ⟨.bl k, H, I, rfl, q⟩
theorem op_eq : OpR X (compareOp .Eq) rEq := by
  intro pins s σ H x y v u Q I rx ry h
  obtain ⟨hs, q⟩ := h
  cases x with
  | non =>
    cases rx
    cases y with
    | non => cases ry; exact PySem.EqNone.eq_none_none (fin_bl I q (by simp))
    | bl j => cases ry; exact PySem.EqNone.eq_none_bool (fin_bl I q (by simp))
    | int j => obtain ⟨t', rfl⟩ := ry; exact PySem.EqNone.eq_none_int (fin_bl I q (by simp))
    | str j => obtain ⟨t', rfl⟩ := ry; exact PySem.EqNone.eq_none_str (fin_bl I q (by simp))
    | _ => exact absurd (show false = true from hs) Bool.false_ne_true
  | bl i =>
    cases rx
    cases y with
    | non => cases ry; exact PySem.EqNone.eq_bool_none (fin_bl I q (by simp))
    | bl j => cases ry; exact eq_bool (fin_bl I q dec_bl)
    | str j => obtain ⟨t', rfl⟩ := ry; exact PySem.EqMixed.eq_bool_str (fin_bl I q (by simp))
    | _ => exact absurd (show false = true from hs) Bool.false_ne_true
  | int i =>
    obtain ⟨t, rfl⟩ := rx
    cases y with
    | non => cases ry; exact PySem.EqNone.eq_int_none (fin_bl I q (by simp))
    | int j => obtain ⟨t', rfl⟩ := ry; exact eq_int (fin_bl I q dec_int)
    | str j => obtain ⟨t', rfl⟩ := ry; exact PySem.EqMixed.eq_int_str (fin_bl I q (by simp))
    | _ => exact absurd (show false = true from hs) Bool.false_ne_true
  | str i =>
    obtain ⟨t, rfl⟩ := rx
    cases y with
    | non => cases ry; exact PySem.EqNone.eq_str_none (fin_bl I q (by simp))
    | bl j => cases ry; exact PySem.EqMixed.eq_str_bool (fin_bl I q (by simp))
    | int j => obtain ⟨t', rfl⟩ := ry; exact PySem.EqMixed.eq_str_int (fin_bl I q (by simp))
    | str j => obtain ⟨t', rfl⟩ := ry; exact eq_str (fin_bl I q dec_str)
    | _ => exact absurd (show false = true from hs) Bool.false_ne_true
  | byt i =>
    obtain ⟨t, rfl⟩ := rx
    cases y with
    | byt j => obtain ⟨t', rfl⟩ := ry; exact PySem.W.eq_bytes (fin_bl I q dec_byt)
    | _ => exact absurd (show false = true from hs) Bool.false_ne_true
  | _ => cases y <;> exact absurd (show false = true from hs) Bool.false_ne_true
theorem op_lt : OpR X (compareOp .Lt) (rI0 fun i j => .bl (decide (i < j))) := opB0 fun _ _ _ _ _ _ _ q => lt_int q
theorem op_gt : OpR X (compareOp .Gt) (rI0 fun i j => .bl (decide (j < i))) := opB0 fun _ _ _ _ _ _ _ q => gt_int q
/-- is None, is not None: the right side a value none -/
theorem op_isN : OpR X (compareOp .Is) (fun x y H Q => y = .non ∧ Q (.bl (decide (x = .non))) H) := by
  intro pins s σ H x y v u Q I rx ry h
  obtain ⟨rfl, q⟩ := h
  cases ry
  refine is_none_gen (fin_bl I q ?_)
  cases x <;> first
    | (cases rx; rfl)
    | (obtain ⟨t, rfl⟩ := rx; rfl)
/-- two rules for one operation: by cases -/
theorem OpR.or {f : Value → Value → Sem Value} {r r' : R2} (h : OpR X f r) (h' : OpR X f r') : OpR X f (fun x y H Q => r x y H Q ∨ r' x y H Q) := by
  intro pins s σ H x y v u Q I rx ry q
  rcases q with q | q
  · exact h pins s σ H x y v u Q I rx ry q
  · exact h' pins s σ H x y v u Q I rx ry q

theorem nomark (b : Expr) {op : CmpOp} (h : op ≠ .In := by decide) (h2 : op ≠ .NotIn := by decide) : behindInMarks op b = false := by
  have e1 : (op == CmpOp.In) = false := by cases op <;> first | rfl | exact absurd rfl h
  have e2 : (op == CmpOp.NotIn) = false := by cases op <;> first | rfl | exact absurd rfl h2
  cases b <;> simp [behindInMarks, e1, e2]
/-- a comparison as a value; hm: nomark b, or (for in, not in) by with_unfolding_all rfl -/
theorem pe_cmpR {op : CmpOp} {r : R2} (ho : OpR X (compareOp op) r) (ha : PE X a ta) (hb : PE X b tb) (hm : behindInMarks op b = false) : PE X (.Compare a [op] [b] pos) (tOp r ta tb) := by
  intro pins s σ H Q I h
  exact wpAny_Compare1 (binT ha hb I h fun v u s2 x y H2 I2 rx ry q => ho pins s2 σ H2 x y v u Q I2 rx ry q) hm
/-- a reading of a value as a test -/
def tTest (t : TE) : TT := fun σ H Q => t σ H fun x H' => ∃ k, x = .bl k ∧ Q k H'
theorem pt_cmpR {op : CmpOp} {r : R2} (ho : OpR X (compareOp op) r) (ha : PE X a ta) (hb : PE X b tb) (hm : behindInMarks op b = false) : PT X (.Compare a [op] [b] pos) (tTest (tOp r ta tb)) := by
  intro pins s σ H Q I h
  refine wpAny_isTrue_Compare1 (thn (ha pins s σ H _ I h) fun v s1 ⟨x, H1, I1, r1, q1⟩ => thn (hb pins s1 σ H1 _ I1 q1) fun u s2 ⟨y, H2, I2, r2, q2⟩ =>
    thn (ho pins s2 σ H2 x y v u _ I2 r1 r2 q2) fun c s3 ⟨z, H3, I3, r3, k, e, q3⟩ => ?_) hm
  subst e
  cases r3
  exact wpAny_truthy_bool ⟨H3, I3, q3⟩
/-- a op1 b op2 c -/
def tChain (r r' : R2) (ta tb tc : TE) : TE := fun σ H Q => ta σ H fun x H1 => tb σ H1 fun y H2 => r x y H2 fun z H3 => ∃ k, z = .bl k ∧
  (if k = true then tc σ H3 fun w' H4 => r' y w' H4 Q else Q (.bl false) H3)
/-! ### truth -/
theorem line63 : (sizeLine : Nat) < 2 ^ 63 := by rw [sizeLine_eq]; decide
/-! ### strs and bytes -/
/-! ### scalar builtins, by CallR -/
theorem vals1 {x : V} {us : List Value} (r : Vals [x] us) : ∃ u, us = [u] ∧ RelV x u := by
  cases r with
  | cons r1 r2 => cases r2; exact ⟨_, rfl, r1⟩
theorem vals2 {x y : V} {us : List Value} (r : Vals [x, y] us) : ∃ u w', us = [u, w'] ∧ RelV x u ∧ RelV y w' := by
  cases r with
  | cons r1 r2 =>
    cases r2 with
    | cons r3 r4 => cases r4; exact ⟨_, _, rfl, r1, r3⟩
theorem call_min2 (hc : X.calm = true) : CallR X (.builtin "min") (fun xs H Q => ∃ i j, xs = [.int i, .int j] ∧ Q (.int (if j < i then j else i)) H) := by
  intro pins s σ H xs us Q I r h
  obtain ⟨i, j, rfl, q⟩ := h
  obtain ⟨u, w', rfl, ⟨t, rfl⟩, ⟨t', rfl⟩⟩ := vals2 r
  refine min_two_ints (I.ok.hd hc) fun h' tk k => ⟨_, H, I.kept k, ?_, q⟩
  by_cases hj : j < i
  · rw [if_pos hj, if_pos hj]; exact ⟨_, rfl⟩
  · rw [if_neg hj, if_neg hj]; exact ⟨_, rfl⟩
end
end L2

namespace L2
open PySem PySem.Spec PyProof.Rows

/-! ### an instance, its attributes a map -/
structure ObjM (h : Heap) (x dx C : Addr) (mA : Str → Option Value) : Prop where
  obj : h.get? x = some (PySem.W.instObj C dx)
  ns : h.Ns1 dx mA
  ne : dx ≠ x

theorem lookIn_ns {h : Heap} {dx : Addr} {mA : Str → Option Value} (n : h.Ns1 dx mA) : ∃ od, h.get? dx = some od ∧ ∀ name, PySem.W.lookIn name od = some (mA name) := by
  obtain ⟨o, es, ep, ho, hd, hk, _, hm⟩ := n
  refine ⟨o, ho, fun name => ?_⟩
  have e := hm name
  unfold nsFind findBy at e
  rw [← Array.find?_toList] at e
  unfold PySem.W.lookIn
  rw [hd]
  dsimp only
  split
  · rename_i y q
    rw [q] at e
    exact congrArg some e
  · rename_i q
    rw [q] at e
    have a : es.toList.any (·.refKey) = false := by
      rw [List.any_eq_false]
      intro y hy
      obtain ⟨z, t, hkey⟩ := hk y (Array.mem_toList_iff.mp hy)
      simp [DictEntry.refKey, hkey]
    have a' : ¬ es.toList.any (·.refKey) = true := by rw [a]; exact Bool.false_ne_true
    rw [if_neg a']
    exact congrArg some e

theorem ObjM.look {h : Heap} {x dx C : Addr} {mA : Str → Option Value} (I : ObjM h x dx C mA) : ∃ od, PySem.W.InstAt h x (PySem.W.instObj C dx) C (some od) ∧ ∀ name, PySem.W.lookIn name od = some (mA name) :=
  let ⟨od, ho, hl⟩ := lookIn_ns I.ns
  ⟨od, ⟨I.obj, rfl, rfl, ho⟩, hl⟩

section
variable {prog : Program} {w : World} {A : Around} {E : Value → Shared → Prop} {s : Shared} {K : PySem.W.Frag} {x dx C f : Addr} {mA : Str → Option Value} {name : Str} {v : Value}

theorem get_map {expr : Bool} {Q : Value → Shared → Prop} (X : K.In s.heap) (I : ObjM s.heap x dx C mA) (hg : PySem.W.plainGet K C name = true) (hh : PySem.W.hasDictIn K C = true)
    (ha : PySem.W.findIn K (.ref C) name = some none) (hv : mA name = some v) (hv' : PySem.W.handedIn v = true) (h : Q v { s with toks := s.toks + 1 }) :
    wpAny (model prog w) A (getAttr (.ref x) name expr) Q E s := by
  obtain ⟨od, J, hl⟩ := I.look
  exact PySem.W.get_value X J (PySem.W.plainGet_of hg).1 (PySem.W.findObj_own hh ha rfl (by rw [hl, hv])) hv' h

theorem get_meth {pl : Sem Bool} {Q : Value × List Value → Shared → Prop} (X : K.In s.heap) (I : ObjM s.heap x dx C mA) (hg : PySem.W.plainGet K C name = true)
    (hf : PySem.W.findIn K (.ref C) name = some (some (.ref f))) (ht : PySem.W.isFn K (.ref f) = true) (hv : mA name = none) (h : Q (.ref f, [.ref x]) s) :
    wpAny (model prog w) A (getMethod (.ref x) name pl) Q E s := by
  obtain ⟨od, J, hl⟩ := I.look
  exact PySem.W.method_fn X J (PySem.W.plainGet_of hg).1 (PySem.W.plainGet_of hg).2 hf (beq_iff_eq.mp ht) (by show (PySem.W.lookIn name od).map (·.isSome) = some false; rw [hl, hv]; rfl) h

theorem set_map {ns : List Str} {Q : Unit → Shared → Prop} (X : K.In s.heap) (I : ObjM s.heap x dx C mA)
    (hs : PySem.W.findIn K (.ref C) "__setattr__" = some (some (.builtin "object.__setattr__"))) (hp : PySem.W.plainOver K C = true) (ht : PySem.W.takerIn K C name = some none) (hh : PySem.W.hasDictIn K C = true)
    (hw : PySem.Within mA ns) (hsz : ns.length ≤ sizeLine)
    (h : ∀ h', ObjM h' x dx C (fun y => if y = name then some v else mA y) → Heap.SameBut dx s.heap h' → Q () { s with heap := h', toks := s.toks + 2 }) :
    wpAny (model prog w) A (setAttr (.ref x) name v) Q E s := by
  obtain ⟨od, J, hl⟩ := I.look
  refine PySem.W.set_plain X J hs (PySem.W.osa_open (s := { s with toks := s.toks + 1 }) (r := none) X J hp ht fun b => ?_)
  obtain ⟨cd, hc, hd'⟩ := PySem.W.any_some hh
  have hx : s.heap.get? x = some ⟨.ref C, some dx, .plain, #[]⟩ := I.obj
  refine wpAny_bind (wpAny_pure (wpAny_bind (wpAny_bind (wpAny_loadPart hx (wpAny_bind (PySem.W.Looks.here (s := { s with toks := s.toks + 1 }) (PySem.W.looks_clsIn X hc) ?_))))))
  rw [hd']
  refine wpAny_pure (a := some dx) (wpAny_bind (wpAny_pure (wpAny_bind ?_)))
  refine wpAny_nsSet1 (s := { s with toks := s.toks + 1 }) I.ns fun h' hn2 hs2 => ?_
  obtain ⟨oD, esD, epD, hoD, hdD, hcD⟩ := hn2.count (PySem.Within.cons name v hw)
  refine wpAny_bind (wpAny_lookBehind hoD (by rw [hdD]; exact pastItsLine_dict (Nat.le_trans hcD (by rw [List.length_cons]; omega))) ?_)
  exact wpAny_pure (h _ ⟨(hs2.2 _ (Ne.symm I.ne)).trans I.obj, hn2, I.ne⟩ hs2)

/-- C(..): the dict at the heap's end, the instance behind it; then its __init__ -/
theorem make_map {R : Result → Shared → Prop} {vs : List Value} {kw : List (Str × Value)} (X : K.In s.heap) (hm : PySem.W.makesIn K C = true)
    (hi : PySem.W.findIn K (.ref C) "__init__" = some (some (.ref f))) (hf : PySem.W.typeIn K (.ref f) = some (.type "function"))
    (h : codeAny (model prog w) (A.under (.builtin "type.__call__" ⟨.ref C :: vs, kw⟩)) (.call (.ref f) ⟨.ref (s.heap.objs.size + 1) :: vs, kw⟩) (PySem.W.InitBack (s.heap.objs.size + 1) R)
      { s with heap := (s.heap.push PySem.W.emptyDict).push (PySem.W.instObj C s.heap.objs.size) }) :
    codeAny (model prog w) A (.call (.ref C) ⟨vs, kw⟩) R s := by
  obtain ⟨hh, g, d, t, os⟩ := s
  exact PySem.W.make_core (PySem.W.makes_of X hm) (PySem.W.looks_findIn X hi) (fun self => PySem.W.bind_fn X self hf) (.inl rfl) h
end

/-! ### the attributes as a list of pairs -/
def putF (f : Str) (v : V) : List (Str × V) → List (Str × V)
  | [] => [(f, v)]
  | (g, x) :: r => if g = f then (g, v) :: r else (g, x) :: putF f v r
theorem lookup_putF (f g : Str) (v : V) : ∀ fs : List (Str × V), (putF f v fs).lookup g = if g = f then some v else fs.lookup g
  | [] => by
    show List.lookup g [(f, v)] = _
    by_cases h : g = f
    · have hb : (g == f) = true := beq_iff_eq.mpr h
      simp only [List.lookup, hb, if_pos h]
    · have hb : (g == f) = false := beq_eq_false_iff_ne.mpr h
      simp only [List.lookup, hb, if_neg h]
  | (k, x) :: r => by
    have ih := lookup_putF f g v r
    rw [show putF f v ((k, x) :: r) = (if k = f then (k, v) :: r else (k, x) :: putF f v r) from rfl]
    by_cases hk : k = f
    · rw [if_pos hk]
      by_cases h : g = k
      · have hb : (g == k) = true := beq_iff_eq.mpr h
        simp only [List.lookup, hb, if_pos (h.trans hk)]
      · have hb : (g == k) = false := beq_eq_false_iff_ne.mpr h
        simp only [List.lookup, hb, if_neg (fun e : g = f => h (e.trans hk.symm))]
    · rw [if_neg hk]
      by_cases h : g = k
      · have hb : (g == k) = true := beq_iff_eq.mpr h
        simp only [List.lookup, hb, if_neg (fun e : g = f => hk (h.symm.trans e))]
      · have hb : (g == k) = false := beq_eq_false_iff_ne.mpr h
        simp only [List.lookup, hb]
        exact ih
theorem keys_putF (f : Str) (v : V) : ∀ fs : List (Str × V), f ∈ (putF f v fs).map (·.1) ∧ ∀ g, g ∈ fs.map (·.1) → g ∈ (putF f v fs).map (·.1)
  | [] => ⟨by simp [putF], fun g h => by simp at h⟩
  | (k, x) :: r => by
    obtain ⟨i1, i2⟩ := keys_putF f v r
    rw [show putF f v ((k, x) :: r) = (if k = f then (k, v) :: r else (k, x) :: putF f v r) from rfl]
    by_cases hk : k = f
    · rw [if_pos hk]
      subst hk
      exact ⟨by simp, fun g h => by simpa using h⟩
    · rw [if_neg hk]
      refine ⟨?_, fun g h => ?_⟩
      · rw [List.map_cons]
        exact List.mem_cons_of_mem _ i1
      · rw [List.map_cons] at h ⊢
        rcases List.mem_cons.mp h with e | e
        · exact List.mem_cons.mpr (.inl e)
        · exact List.mem_cons_of_mem _ (i2 g e)
theorem length_putF (f : Str) (v : V) : ∀ fs : List (Str × V), (putF f v fs).length ≤ fs.length + 1
  | [] => by simp [putF]
  | (k, x) :: r => by
    have ih := length_putF f v r
    rw [show putF f v ((k, x) :: r) = (if k = f then (k, v) :: r else (k, x) :: putF f v r) from rfl]
    by_cases hk : k = f
    · rw [if_pos hk, List.length_cons, List.length_cons]; omega
    · rw [if_neg hk, List.length_cons, List.length_cons]; omega

theorem RelO.some_of {v : V} {o : Option Value} (r : RelO (some v) o) : ∃ u, o = some u ∧ RelV v u := by
  cases o with
  | none => exact (show False from r).elim
  | some u => exact ⟨u, rfl, r⟩
theorem RelO.none_of {o : Option Value} (r : RelO none o) : o = none := by
  cases o with
  | none => rfl
  | some u => exact (show False from r).elim
theorem handed_of {v : V} {u : Value} (r : RelV v u) : PySem.W.handedIn u = true := by
  cases v with
  | non => cases (show u = Value.none from r); rfl
  | bl b => cases (show u = Value.bool b from r); rfl
  | int i => obtain ⟨t, e⟩ := (show ∃ t, u = Value.int i t from r); cases e; rfl
  | str x => obtain ⟨t, e⟩ := (show ∃ t, u = Value.str x t from r); cases e; rfl
  | byt b => obtain ⟨t, e⟩ := (show ∃ t, u = Value.bytes b t from r); cases e; rfl
  | flt b => obtain ⟨t, e⟩ := (show ∃ t, u = Value.float b t from r); cases e; rfl
  | ref a => cases (show u = Value.ref a from r); rfl
  | ty n => cases (show u = Value.type n from r); rfl

section
variable {P : Program} {w : World} {H H' : Hp} {h h' : Heap} {a C dx : Addr} {fs fs' : List (Str × V)}
theorem ins_get (hok : HOk P w H h) (e : H a = some (.ins C dx fs)) : ∃ mA, ObjM h a dx C mA ∧ (∀ f, RelO (fs.lookup f) (mA f)) ∧ PySem.Within mA (fs.map (·.1)) ∧ fs.length ≤ 1000 ∧ H dx = some (.own a) := by
  obtain ⟨d, z, ne, ob, mA, n, r, q⟩ := (show ObjOk P w H h a (.ins C dx fs) from hok a _ e)
  exact ⟨mA, ⟨ob, n, ne⟩, r, q, z, d⟩
end

/-! ### what of the text a class must have -/
structure Cls (K : PySem.W.Frag) (C : Addr) : Prop where
  pg : PySem.W.plainGet K C Str.empty = true
  hd : PySem.W.hasDictIn K C = true
  po : PySem.W.plainOver K C = true
  sa : PySem.W.findIn K (.ref C) "__setattr__" = some (some (.builtin "object.__setattr__"))
theorem Cls.get {K : PySem.W.Frag} {C : Addr} (c : Cls K C) (f : Str) : PySem.W.plainGet K C f = true := c.pg
/-- no class of it has the name -/
def NoAttr (K : PySem.W.Frag) (C : Addr) (f : Str) : Prop := PySem.W.findIn K (.ref C) f = some none
theorem NoAttr.taker {K : PySem.W.Frag} {C : Addr} {f : Str} (n : NoAttr K C f) : PySem.W.takerIn K C f = some none := by
  unfold PySem.W.takerIn
  rw [show PySem.W.findIn K (.ref C) f = some none from n]
  rfl
/-- a constant of the class -/
structure Con (K : PySem.W.Frag) (C : Addr) (f : Str) (v : V) (u : Value) : Prop where
  at_ : PySem.W.findIn K (.ref C) f = some (some u)
  rel : RelV v u
  get : PySem.W.specialIn K u "__get__" = some none
  cp : PySem.W.copiedNames.contains f = false
/-- a method: a plain def of the class or of one above it -/
structure Meth (K : PySem.W.Frag) (C : Addr) (m : Str) (f : Addr) : Prop where
  at_ : PySem.W.findIn K (.ref C) m = some (some (.ref f))
  fn : PySem.W.isFn K (.ref f) = true
  kp : PySem.W.keepIn K (.ref f) = true

section
variable {X : Cx} {pins : List (Addr × Obj)} {σ : St} {H : Hp} {s : Shared} {a C dx : Addr} {fs : List (Str × V)} {f : Str} {v : V} {A : Around} {E : Value → Shared → Prop}

theorem getattr_ok {b : Bool} {Q : Value → Shared → Prop} (I : Inv X pins σ H s) (e : H a = some (.ins C dx fs)) (c : Cls X.K C) (n : NoAttr X.K C f) (l : fs.lookup f = some v)
    (h : ∀ u s', Inv X pins σ H s' → RelV v u → Q u s') : wpAny (model X.prog X.w) A (getAttr (.ref a) f b) Q E s := by
  obtain ⟨mA, O, r, _, _, _⟩ := ins_get I.hok e
  obtain ⟨u, hu, ru⟩ := RelO.some_of (v := v) (o := mA f) (by rw [← l]; exact r f)
  exact get_map I.kIn O (c.get f) c.hd n hu (handed_of ru) (h u _ (I.tok _) ru)

theorem getmeth_ok {m : Str} {g : Addr} {pl : Sem Bool} {Q : Value × List Value → Shared → Prop} (I : Inv X pins σ H s) (e : H a = some (.ins C dx fs)) (c : Cls X.K C) (k : Meth X.K C m g) (l : fs.lookup m = none)
    (h : Q (.ref g, [.ref a]) s) : wpAny (model X.prog X.w) A (getMethod (.ref a) m pl) Q E s := by
  obtain ⟨mA, O, r, _, _, _⟩ := ins_get I.hok e
  have hn : mA m = none := RelO.none_of (by rw [← l]; exact r m)
  exact get_meth I.kIn O (c.get m) k.at_ k.fn hn h

theorem setattr_ok {y : V} {u : Value} {Q : Unit → Shared → Prop} (I : Inv X pins σ H s) (e : H a = some (.ins C dx fs)) (c : Cls X.K C) (n : NoAttr X.K C f) (hl : fs.length < 1000) (ry : RelV y u)
    (h : ∀ s', Inv X pins σ (upd H a (.ins C dx (putF f y fs))) s' → Q () s') : wpAny (model X.prog X.w) A (setAttr (.ref a) f u) Q E s := by
  obtain ⟨mA, O, r, wi, _, ho⟩ := ins_get I.hok e
  have hz : (fs.map (·.1)).length ≤ sizeLine := by rw [List.length_map, sizeLine_eq]; omega
  refine set_map I.kIn O c.sa c.po n.taker c.hd wi hz fun h' O' sb => h _ ?_
  have hd : ∃ o, h'.get? dx = some o := let ⟨o, _, _, e', _⟩ := O'.ns; ⟨o, e'⟩
  refine I.write (x := a) (e := dx) (by rw [e]; exact True.intro) (.inr ho) (fun b q hb z => (sb.2 b hb).trans z) hd ?_
  refine ⟨by rw [upd_ne O.ne]; exact ho, ?_, O.ne, O'.obj, _, O'.ns, fun g => ?_, fun g hg => ?_⟩
  · have := length_putF f y fs; omega
  · show RelO ((putF f y fs).lookup g) (if g = f then some u else mA g)
    rw [lookup_putF]
    by_cases q : g = f
    · rw [if_pos q, if_pos q]; exact ry
    · rw [if_neg q, if_neg q]; exact r g
  · by_cases q : g = f
    · rw [q]; exact (keys_putF f y fs).1
    · refine (keys_putF f y fs).2 g (wi g fun z => hg ?_)
      show (if g = f then some u else mA g) = none
      rw [if_neg q]; exact z

/-- a new instance, tracked, without attributes -/
theorem Inv.made (I : Inv X pins σ H s) : Inv X pins σ (upd (upd H s.heap.objs.size (.own (s.heap.objs.size + 1))) (s.heap.objs.size + 1) (.ins C s.heap.objs.size []))
    { s with heap := (s.heap.push PySem.W.emptyDict).push (PySem.W.instObj C s.heap.objs.size) } := by
  have e1 : (s.heap.push PySem.W.emptyDict).get? s.heap.objs.size = some PySem.W.emptyDict := Heap.get?_push_size s.heap rfl
  have e2 : ((s.heap.push PySem.W.emptyDict).push (PySem.W.instObj C s.heap.objs.size)).get? (s.heap.objs.size + 1) = some (PySem.W.instObj C s.heap.objs.size) := by
    have := Heap.get?_push_size (s.heap.push PySem.W.emptyDict) (o := PySem.W.instObj C s.heap.objs.size) rfl
    rwa [Heap.size_push] at this
  have e3 : (s.heap.push PySem.W.emptyDict).Ns s.heap.objs.size (fun _ => none) := ⟨PySem.W.emptyDict, #[], _, e1, rfl, (fun e he => absurd he (by simp)), fun _ => rfl⟩
  have I1 := I.laid (a := s.heap.objs.size) (o := .own (s.heap.objs.size + 1)) (h' := s.heap.push PySem.W.emptyDict) (t' := s.toks) (fun b u q => Heap.get?_push_of_some _ q) (Nat.le_refl _) ⟨_, e1⟩
  refine I1.laid (a := s.heap.objs.size + 1) (o := .ins C s.heap.objs.size []) (t' := s.toks) (fun b u q => Heap.get?_push_of_some _ q) (Nat.le_of_eq (Heap.size_push _ _)) ?_
  have ne : s.heap.objs.size ≠ s.heap.objs.size + 1 := Nat.ne_of_lt (Nat.lt_succ_self _)
  refine ⟨by rw [upd_ne ne, upd_same], Nat.zero_le _, ne, e2, fun _ => none, (Heap.Ns1.of_empty e3).at fun o q => Heap.get?_push_of_some _ q, fun _ => True.intro, fun y hy => absurd rfl hy⟩

/-- e.f where nothing but the object is asked: through attributeBase (super) and the last hold -/
theorem attr_of {prog : Program} {w : World} {env : Env} {e : Expr} {f : Str} {pos : Pos} {s : Shared} {Q : Value → Shared → Prop} (hb : attributeBase e f env (eval e env) = eval e env)
    (h : wpAny (model prog w) A (eval e env) (fun o s₁ => wpAny (model prog w) A (getAttr o f true) Q E s₁) E s) : wpAny (model prog w) A (eval (.Attribute e f pos) env) Q E s :=
  Attribute_any_ h (by rw [arm_eval_Attribute, hb])
end

/-! ### readings and rules -/
/-- e.f, an attribute of the instance -/
def tFld (K : PySem.W.Frag) (ta : TE) (f : Str) : TE := fun σ H Q => ta σ H fun x H1 => ∃ a C dx fs v, x = .ref a ∧ H1 a = some (.ins C dx fs) ∧ Cls K C ∧ NoAttr K C f ∧ fs.lookup f = some v ∧ Q v H1
/-- e.f = value -/
def sFld (K : PySem.W.Frag) (ta tv : TE) (f : Str) : TS := fun D σ H => tv σ H fun y H1 => ta σ H1 fun x H2 => ∃ a C dx fs, x = .ref a ∧ H2 a = some (.ins C dx fs) ∧ Cls K C ∧ NoAttr K C f ∧ fs.length < 1000 ∧
  D.nx σ (upd H2 a (.ins C dx (putF f y fs)))
/-- an augmented operator on two values -/
def InOp (X : Cx) (op : Operator) (rd : V → V → Hp → VK → Prop) : Prop :=
  ∀ (pins : List (Addr × Obj)) (s : Shared) (σ : St) (H : Hp) (x y : V) (u v : Value) (Q : VK), Inv X pins σ H s → RelV x u → RelV y v → rd x y H Q → wpAny (model X.prog X.w) X.A (inplaceOp op u v) (EP X pins σ Q) X.xe s
/-- e.f op= value -/
def sFldAug (K : PySem.W.Frag) (ta tv : TE) (rd : V → V → Hp → VK → Prop) (f : Str) : TS := fun D σ H => ta σ H fun x H1 => ∃ a C dx fs v, x = .ref a ∧ H1 a = some (.ins C dx fs) ∧ Cls K C ∧ NoAttr K C f ∧ fs.lookup f = some v ∧
  tv σ H1 fun y H2 => rd v y H2 fun z H3 => ∃ dx' fs', H3 a = some (.ins C dx' fs') ∧ fs'.length < 1000 ∧ D.nx σ (upd H3 a (.ins C dx' (putF f z fs')))

section
variable {X : Cx} {o e value : Expr} {f : Str} {pos pos' tpos : Pos} {ta tv : TE}
theorem pe_fld (he : PE X e ta) (hb : attributeBase e f X.env (eval e X.env) = eval e X.env) : PE X (.Attribute e f pos) (tFld X.K ta f) := by
  intro pins s σ H Q I h
  refine attr_of hb (thn (he pins s σ H _ I h) fun u s1 ⟨x, H1, I1, rx, a, C, dx, fs, v, ex, ea, c, n, l, q⟩ => ?_)
  subst ex
  obtain rfl : u = Value.ref a := rx
  exact getattr_ok I1 ea c n l fun u' s2 I2 ru => ⟨v, H1, I2, ru, q⟩
theorem ps_fld (ha : PE X o ta) (hv : PE X value tv) (hs : swapsWith value (some (.Attribute o f pos')) pos.line X.env = pure false) : PS X (.Assign [.Attribute o f pos'] value pos) (sFld X.K ta tv f) := by
  intro pins s σ H D I h
  refine plainObj_wpAny_Assign_Attribute (thn (hv pins s σ H _ I h) fun u s1 ⟨y, H1, I1, ry, q⟩ => thn (ha pins s1 σ H1 _ I1 q) fun ov s2 ⟨x, H2, I2, rx, a, C, dx, fs, ex, ea, c, n, l, q2⟩ => ?_) hs
  subst ex
  obtain rfl : ov = Value.ref a := rx
  exact setattr_ok I2 ea c n l ry fun s3 I3 => ⟨σ, _, I3, q2⟩
theorem ps_fldaug {op : Operator} {rd : V → V → Hp → VK → Prop} (ha : PE X o ta) (hv : PE X value tv) (hop : InOp X op rd) : PS X (.AugAssign (.Attribute o f tpos) op value pos) (sFldAug X.K ta tv rd f) := by
  intro pins s σ H D I h
  refine wpAny_AugAssign_AttributeAny (thn (ha pins s σ H _ I h) fun ov s1 ⟨x, H1, I1, rx, a, C, dx, fs, v, ex, ea, c, n, l, q⟩ => ?_)
  subst ex
  obtain rfl : ov = Value.ref a := rx
  refine getattr_ok I1 ea c n l fun u s2 I2 ru => thn (hv pins s2 σ H1 _ I2 q) fun w3 s3 ⟨y, H2, I3, ry, q3⟩ => thn (hop pins s3 σ H2 v y u w3 _ I3 ru ry q3) fun w4 s4 ⟨z, H3, I4, rz, dx', fs', ea', l', q4⟩ => ?_
  exact setattr_ok I4 ea' c n l' rz fun s5 I5 => ⟨σ, _, I5, q4⟩
def rAdd : V → V → Hp → VK → Prop := fun x y H Q => ∃ i j, x = .int i ∧ y = .int j ∧ Q (.int (i + j)) H
def rSub : V → V → Hp → VK → Prop := fun x y H Q => ∃ i j, x = .int i ∧ y = .int j ∧ Q (.int (i - j)) H
theorem in_add : InOp X .Add rAdd := by
  rintro pins s σ H x y u v Q I rx ry ⟨i, j, rfl, rfl, q⟩
  obtain ⟨t, rfl⟩ := (show ∃ t, u = Value.int i t from rx)
  obtain ⟨t', rfl⟩ := (show ∃ t', v = Value.int j t' from ry)
  exact PyProof.Rows.iadd_int ⟨.int (i + j), H, I.tok _, ⟨_, rfl⟩, q⟩
theorem in_sub : InOp X .Sub rSub := by
  rintro pins s σ H x y u v Q I rx ry ⟨i, j, rfl, rfl, q⟩
  obtain ⟨t, rfl⟩ := (show ∃ t, u = Value.int i t from rx)
  obtain ⟨t', rfl⟩ := (show ∃ t', v = Value.int j t' from ry)
  exact PyProof.Rows.isub_int ⟨.int (i - j), H, I.tok _, ⟨_, rfl⟩, q⟩

end

/-! ### isinstance -/
section
variable {X : Cx} {pins : List (Addr × Obj)} {σ : St} {H : Hp} {s : Shared} {A : Around} {E : Value → Shared → Prop} {Q : Value → Shared → Prop} {c : Value} {b : Bool}
/-- the type of a value, as the fragment's deciders take it; for an instance its class -/
inductive TyOf (K : PySem.W.Frag) (H : Hp) : V → Value → Prop where
  | non : TyOf K H .non (.type "NoneType")
  | bl (x : Bool) : TyOf K H (.bl x) (.type "bool")
  | int (i : Int) : TyOf K H (.int i) (.type "int")
  | str (x : Str) : TyOf K H (.str x) (.type "str")
  | flt (x : UInt64) : TyOf K H (.flt x) (.type "float")
  | lst {a : Addr} {xs : List V} (e : H a = some (.lst xs)) : TyOf K H (.ref a) (.type "list")
  | frz {a : Addr} {o : Obj} {xs : List V} (e : H a = some (.frz o (.lst xs))) : TyOf K H (.ref a) (.type "list")
  | tup {a : Addr} {xs : List V} (e : H a = some (.tup xs)) : TyOf K H (.ref a) (.type "tuple")
  | dK {a : Addr} {kvs : List (Key × V)} (e : H a = some (.dK kvs)) : TyOf K H (.ref a) (.type "dict")
  | dT {a : Addr} {kvs : List (List Key × V)} (e : H a = some (.dT kvs)) : TyOf K H (.ref a) (.type "dict")
  | ins {a C dx : Addr} {fs : List (Str × V)} (e : H a = some (.ins C dx fs)) (cl : Cls K C) (ha : PySem.W.findIn K (.ref C) "__class__" = some (some (.builtin "object.__class__")))
      (hn : PySem.W.specialIn K (.builtin "object.__class__") "__get__" = some (some (.builtin "getset_descriptor.__get__"))) (htk : PySem.W.takesIn K (.builtin "object.__class__") = some true)
      (hm : PySem.W.mroIn K C (.type "object") = some true) : TyOf K H (.ref a) (.ref C)
/-- isinstance(x, c) for one class c, a built-in or an own one: kitOne's answer -/
theorem isinst_ok {x : V} {u t : Value} (I : Inv X pins σ H s) (rx : RelV x u) (ty : TyOf X.K H x t) (e : PySem.W.kitOne X.K t c = some b) (h : ∀ tk, Q (.bool b) { s with toks := tk }) :
    wpAny (model X.prog X.w) A (call (.builtin "isinstance") [u, c]) Q E s := by
  cases ty with
  | non => cases (show u = Value.none from rx); exact PySem.W.kia_one PySem.W.kitx_none I.kIn True.intro e (fun z => nomatch z) h
  | bl y => cases (show u = Value.bool y from rx); exact PySem.W.kia_one PySem.W.kitx_bool I.kIn True.intro e (fun z => nomatch z) h
  | int i => obtain ⟨t, q⟩ := (show ∃ t, u = Value.int i t from rx); cases q; exact PySem.W.kia_one PySem.W.kitx_int I.kIn True.intro e (fun z => nomatch z) h
  | str y => obtain ⟨t, q⟩ := (show ∃ t, u = Value.str y t from rx); cases q; exact PySem.W.kia_one PySem.W.kitx_str I.kIn True.intro e (fun z => nomatch z) h
  | flt y => obtain ⟨t, q⟩ := (show ∃ t, u = Value.float y t from rx); cases q; exact PySem.W.kia_one PySem.W.kitx_float I.kIn True.intro e (fun z => nomatch z) h
  | @lst a xs ea =>
    cases (show u = Value.ref a from rx)
    obtain ⟨_, _, n, _, h1⟩ := (show ObjOk X.prog X.w H s.heap a (.lst xs) from I.hok a _ ea)
    exact PySem.W.kia_one PySem.W.kitx_list I.kIn ⟨_, h1, rfl⟩ e (fun z => nomatch z) h
  | @frz a ob xs ea =>
    cases (show u = Value.ref a from rx)
    obtain ⟨_, _, _, n, _, h1⟩ := (show ObjOk X.prog X.w H s.heap a (.frz ob (.lst xs)) from I.hok a _ ea)
    exact PySem.W.kia_one PySem.W.kitx_list I.kIn ⟨_, h1, rfl⟩ e (fun z => nomatch z) h
  | @tup a xs ea =>
    cases (show u = Value.ref a from rx)
    obtain ⟨_, _, _, p⟩ := (show ObjOk X.prog X.w H s.heap a (.tup xs) from I.hok a _ ea)
    obtain ⟨o, h1, h2, _⟩ := p
    exact PySem.W.kia_one PySem.W.kitx_tuple I.kIn ⟨o, h1, h2⟩ e (fun z => nomatch z) h
  | @dK a kvs ea =>
    cases (show u = Value.ref a from rx)
    obtain ⟨_, _, vs, _, p⟩ := (show ObjOk X.prog X.w H s.heap a (.dK kvs) from I.hok a _ ea)
    obtain ⟨o, es, ep, h1, h2, _⟩ := p
    exact PySem.W.kia_one PySem.W.kitx_dict I.kIn ⟨o, h1, h2.1⟩ e (fun z => nomatch z) h
  | @dT a kvs ea =>
    cases (show u = Value.ref a from rx)
    obtain ⟨_, _, xs, _, o, es, ep, h1, h2, _⟩ := (show ObjOk X.prog X.w H s.heap a (.dT kvs) from I.hok a _ ea)
    exact PySem.W.kia_one PySem.W.kitx_dict I.kIn ⟨o, h1, h2.1⟩ e (fun z => nomatch z) h
  | @ins a C dx fs ea cl ha hn htk hm =>
    cases (show u = Value.ref a from rx)
    obtain ⟨mA, O, _⟩ := ins_get I.hok ea
    obtain ⟨od, J, _⟩ := O.look
    exact PySem.W.kia_one (PySem.W.kitx_own (cl.get _) cl.hd ha hn htk hm) I.kIn J e (fun z => nomatch z) h
end
end L2

namespace L2
open PySem PySem.Spec PyProof.Rows

/-! ### room -/
structure Room (k : Nat) (A : Around) : Prop where
  hd : A.handled = none
  dp : A.depth + 3 * k + 5 < recursionLimit
  un : A.units + 16 * k + 200 < cLine
theorem Room.mono {j k : Nat} {A : Around} (r : Room k A) (h : j ≤ k) : Room j A := ⟨r.hd, by have := r.dp; omega, by have := r.un; omega⟩
theorem Room.deeper {k : Nat} {A : Around} (r : Room (k + 1) A) (env : Env) : Room k (A.deeper env) :=
  ⟨r.hd, by have := r.dp; show A.depth + 1 + 3 * k + 5 < _; omega, by have := r.un; show A.units + 3 + 16 * k + 200 < _; omega⟩
theorem Room.in1 {k : Nat} {A : Around} (r : Room (k + 1) A) : Room k A.in1 :=
  ⟨r.hd, by have := r.dp; show A.depth + 3 * k + 5 < _; omega, by have := r.un; show A.units + 1 + 16 * k + 200 < _; omega⟩
theorem make_depth {A : Around} {C : Addr} {us : List Value} {kw : List (Str × Value)} : (A.under (.builtin "type.__call__" ⟨.ref C :: us, kw⟩)).depth = A.depth + 1 := by
  first | rfl | simp [Around.under, Code.weight, Code.isCreation, Code.isGuard, Code.isCaller, Code.frames, Code.isFrame, guardIds]
theorem make_units {A : Around} {C : Addr} {us : List Value} {kw : List (Str × Value)} : (A.under (.builtin "type.__call__" ⟨.ref C :: us, kw⟩)).units = A.units + 1 := by
  first | rfl | simp [Around.under, Code.cUnits, Code.frames, Code.isFrame]
theorem Room.make {k : Nat} {A : Around} (r : Room (k + 1) A) (C : Addr) (us : List Value) (kw : List (Str × Value)) : Room k (A.under (.builtin "type.__call__" ⟨.ref C :: us, kw⟩)) :=
  ⟨r.hd, by have := r.dp; rw [make_depth]; omega, by have := r.un; rw [make_units]; omega⟩
theorem Room.depth {k : Nat} {A : Around} (r : Room k A) : A.depth < recursionLimit := by have := r.dp; omega
theorem Room.units {k : Nat} {A : Around} (r : Room k A) : A.units + 64 < cLine := by have := r.un; omega
/-! ### argument lists and displays -/
def tNil : TA := fun _ H Q => Q [] H
def tCons (ta : TE) (tr : TA) : TA := fun σ H Q => ta σ H fun x H1 => tr σ H1 fun xs H2 => Q (x :: xs) H2
section
variable {X : Cx} {e : Expr} {es : List Expr} {te : TE} {t : TA} {pos : Pos}
theorem pa_nil : PA X [] tNil := fun _ _ _ _ H Q I h => Calls.spliced_nil ⟨[], H, I, .nil, h⟩
theorem pa_cons (ha : PE X e te) (hr : PA X es t) (hs : starEach (e :: es) X.env = (false, eval e X.env) :: starEach es X.env := by rfl) : PA X (e :: es) (tCons te t) := by
  intro pos pins s σ H Q I h
  rw [hs]
  show wpAny _ _ (spliced ((false, eval e X.env) :: backTo pos (starEach es X.env))) _ _ s
  refine Calls.spliced_cons (thn (ha pins s σ H _ I h) fun u s1 ⟨x, H1, I1, r1, q1⟩ => ?_)
  exact thn (hr pos pins s1 σ H1 _ I1 q1) fun us s2 ⟨xs, H2, I2, r2, q2⟩ => ⟨x :: xs, H2, I2, .cons r1 r2, q2⟩

/-- a tuple, a list of written items -/
def tTup (t : TA) : TE := fun σ H Q => t σ H fun xs H1 => xs.length ≤ sizeLine ∧ ∀ p, H1 p = none → Q (.ref p) (upd H1 p (.tup xs))
def tLst (t : TA) : TE := fun σ H Q => t σ H fun xs H1 => xs.length ≤ sizeLine ∧ ∀ p, H1 p = none → Q (.ref p) (upd H1 p (.lst xs))
end

/-! ### what a def promises -/
/-- a def's promise: the bound arguments in the parameters' order, the heap, the wanted end, the wanted exception -/
abbrev Sp := List V → Hp → VK → XK → Prop
/-- how an exception lies behind a call (file 08 gives it): the callers' frames, abstract heap and state ahead of the call, the wish, the exception, the state -/
abbrev CXT := List Env → Hp → Shared → XK → Value → Shared → Prop

/-- the state at a call -/
structure Env0 (P : Program) (w : World) (K : PySem.W.Frag) (mg : Str → Option Value) (base : Heap) (A : Around) (outer : List Env) (s : Shared) (H : Hp) : Prop where
  frames : A.frames = some outer
  mod : Mod K mg base
  bs : ∀ b o, base.get? b = some o → s.heap.get? b = some o ∧ H b = none
  bsz : base.objs.size ≤ s.heap.objs.size
  funs : s.heap.FunFrames base outer
  frf : ∀ b ∈ frs outer, H b = none
  hok : HOk P w H s.heap
  bare : AllBare s.gens
/-- a call's end -/
def CE (outer : List Env) (P : Program) (w : World) (H : Hp) (s : Shared) (Q : VK) (u : Value) (s' : Shared) : Prop :=
  ∃ v H', s'.os = s.os ∧ AllBare s'.gens ∧ Un (frs outer) [] H H' s.heap s'.heap ∧ HOk P w H' s'.heap ∧ RelV v u ∧ Q v H'
def CR (CX : CXT) (outer : List Env) (P : Program) (w : World) (H : Hp) (s : Shared) (Q : VK) (E : XK) (r : Result) (s' : Shared) : Prop :=
  match r with
  | .ok (.ret u) => CE outer P w H s Q u s'
  | .ok _ => False
  | .error e => CX outer H s E e s'
structure FnOk (P : Program) (w : World) (K : PySem.W.Frag) (mg : Str → Option Value) (base : Heap) (CX : CXT) (k : Nat) (f : Addr) (fd : FuncData) (ps : List Str) (sp : Sp) : Prop where
  len : ∀ vs H Q E, sp vs H Q E → vs.length = ps.length
  run : ∀ (A : Around) (outer : List Env) (s : Shared) (H : Hp) (args : Args) (us : List Value) (vs : List V) (Q : VK) (E : XK), Room k A → Env0 P w K mg base A outer s H → BindsTo s fd args (ps.zip us) → Vals vs us → sp vs H Q E →
    codeAny (model P w) A (.call (.ref f) args) (CR CX outer P w H s Q E) s
theorem FnOk.mono {P : Program} {w : World} {K : PySem.W.Frag} {mg : Str → Option Value} {base : Heap} {CX : CXT} {j k : Nat} {f : Addr} {fd : FuncData} {ps : List Str} {sp : Sp} (F : FnOk P w K mg base CX j f fd ps sp) (h : j ≤ k) :
    FnOk P w K mg base CX k f fd ps sp := ⟨F.len, fun A outer s H args us vs Q E hr => F.run A outer s H args us vs Q E (hr.mono h)⟩
/-- a weaker promise -/
theorem FnOk.imp {P : Program} {w : World} {K : PySem.W.Frag} {mg : Str → Option Value} {base : Heap} {CX : CXT} {k : Nat} {f : Addr} {fd : FuncData} {ps : List Str} {sp sp' : Sp} (F : FnOk P w K mg base CX k f fd ps sp)
    (h : ∀ vs H Q E, sp' vs H Q E → sp vs H Q E) : FnOk P w K mg base CX k f fd ps sp' :=
  ⟨fun vs H Q E q => F.len vs H Q E (h _ _ _ _ q), fun A outer s H args us vs Q E hr he hb hv hs => F.run A outer s H args us vs Q E hr he hb hv (h _ _ _ _ hs)⟩

theorem Env0.make {P : Program} {w : World} {K : PySem.W.Frag} {mg : Str → Option Value} {base : Heap} {A : Around} {outer : List Env} {s : Shared} {H : Hp} (e : Env0 P w K mg base A outer s H) (C : Addr) (us : List Value) (kw : List (Str × Value)) :
    Env0 P w K mg base (A.under (.builtin "type.__call__" ⟨.ref C :: us, kw⟩)) outer s H := ⟨by first | exact e.frames | (simpa [Around.under, Code.envs, Code.isFrame, pushEnvs] using e.frames), e.mod, e.bs, e.bsz, e.funs, e.frf, e.hok, e.bare⟩
theorem Env0.in1 {P : Program} {w : World} {K : PySem.W.Frag} {mg : Str → Option Value} {base : Heap} {A : Around} {outer : List Env} {s : Shared} {H : Hp} (e : Env0 P w K mg base A outer s H) :
    Env0 P w K mg base A.in1 outer s H := ⟨e.frames, e.mod, e.bs, e.bsz, e.funs, e.frf, e.hok, e.bare⟩

section
variable {X : Cx} {pins : List (Addr × Obj)} {σ : St} {H : Hp} {s s' : Shared}
/-- from a body: what a callee wants -/
theorem Inv.env0 (I : Inv X pins σ H s) : Env0 X.prog X.w X.K X.mg X.base X.A X.stack s H :=
  ⟨I.ok.frames, I.ok.mod, I.bs, Nat.le_trans I.ok.bsz I.sz, I.stack, I.stkFree, I.hok, I.bare⟩
/-- behind a call -/
theorem Inv.after {Q : VK} {u : Value} (I : Inv X pins σ H s) (h : CE X.stack X.prog X.w H s Q u s') : EP X pins σ Q u s' := by
  obtain ⟨v, H', os, bare, un, hok, r, q⟩ := h
  obtain ⟨hh, g, d, t, os'⟩ := s'
  obtain rfl : os' = s.os := os
  exact ⟨v, H', I.call (h' := hh) (g' := g) (d' := d) (t' := t) (ch := []) un hok bare (fun b z => absurd z (by simp)), r, q⟩
end

/-! ### calls -/
/-- o.m(..) of an instance of the class at C -/
def tMeth (C : Addr) (m : Str) (sp : Sp) (dvs : List V) (E : XK) (ta : TE) (t : TA) : TE := fun σ H Q => ta σ H fun x H1 => ∃ a dx fs, x = .ref a ∧ H1 a = some (.ins C dx fs) ∧ fs.lookup m = none ∧
  t σ H1 fun vs H2 => sp (x :: (vs ++ dvs)) H2 Q E
/-- C(..): a new instance and its dict, then __init__ -/
def tMake (C : Addr) (sp : Sp) (dvs : List V) (E : XK) (t : TA) : TE := fun σ H Q => t σ H fun vs H1 => ∀ x dx, H1 x = none → H1 dx = none → dx ≠ x →
  sp (.ref x :: (vs ++ dvs)) (upd (upd H1 dx (.own x)) x (.ins C dx [])) (fun v H2 => v = .non ∧ Q (.ref x) H2) E

/-- how the parameters are bound: us the positional arguments, kw the keywords' values by name, ds the defaults that fill up -/
def Binds (K : PySem.W.Frag) (fd : FuncData) (ps : List Str) (ds : List Value) : Prop :=
  ∀ (s : Shared) (us : List Value), K.In s.heap → (us ++ ds).length = ps.length → BindsTo s fd ⟨us, []⟩ (ps.zip (us ++ ds))
/-- every parameter is given -/
theorem Binds.all {K : PySem.W.Frag} {fd : FuncData} {ps : List Str} (h : ∀ us : List Value, us.length = ps.length → bindArgs fd ⟨us, []⟩ = pure (ps.zip us)) : Binds K fd ps [] := fun s us _ hl => by
  rw [List.append_nil] at hl ⊢
  exact .of_eq (h us hl)

/-- an exception of a callee reaches what this body wants of exceptions -/
def Passes (CX : CXT) (X : Cx) (E : XK) : Prop := ∀ (pins : List (Addr × Obj)) (σ : St) (H : Hp) (s : Shared) (e : Value) (s' : Shared), Inv X pins σ H s → CX X.stack H s E e s' → X.xe e s'

section
variable {X : Cx} {CX : CXT} {k : Nat} {f C : Addr} {fd : FuncData} {ps : List Str} {sp : Sp} {dvs : List V} {ds : List Value} {E : XK} {x m : Str} {p pos apos : Pos} {e o : Expr} {es : List Expr} {ta : TE} {t : TA}

/-- the callee runs -/
theorem run_fn {pins : List (Addr × Obj)} {σ : St} {H : Hp} {s : Shared} {Q : VK} {us : List Value} {vs : List V} (F : FnOk X.prog X.w X.K X.mg X.base CX k f fd ps sp) (hr : Room k X.A) (hb : Binds X.K fd ps ds) (hd : Vals dvs ds) (hx : Passes CX X E)
    (I : Inv X pins σ H s) (r : Vals vs us) (h : sp (vs ++ dvs) H Q E) : wpAny (model X.prog X.w) X.A (call (.ref f) us) (EP X pins σ Q) X.xe s := by
  have r2 : Vals (vs ++ dvs) (us ++ ds) := r.append hd
  have hl : (us ++ ds).length = ps.length := by rw [← r2.length]; exact F.len _ _ _ _ h
  refine wpAny_call (codeAny_mono (F.run X.A X.stack s H ⟨us, []⟩ (us ++ ds) (vs ++ dvs) Q E hr I.env0 (hb s us I.kIn hl) r2 h) fun r s' hq => ?_)
  cases r with
  | error e => exact hx pins σ H s e s' I hq
  | ok fl =>
    cases fl with
    | ret u => exact I.after hq
    | next => exact False.elim hq
    | brk => exact False.elim hq
    | cont => exact False.elim hq

/-- o.m(e, ..) -/
theorem pe_meth {pl : Sem Bool} (he : PE X o ta) (c : Cls X.K C) (hm : Meth X.K C m f) (F : FnOk X.prog X.w X.K X.mg X.base CX k f fd ps sp) (hr : Room k X.A) (hb : Binds X.K fd ps ds) (hd : Vals dvs ds) (hx : Passes CX X E) (ha : PA X (e :: es) t)
    (hst : starEach (e :: es) X.env = (false, eval e X.env) :: starEach es X.env := by rfl) (hpl : (backTo pos (starEach es X.env)).any (·.1) = false := by rfl)
    (ht : eval (.Call (.Attribute o m apos) (e :: es) [] pos) X.env = (do
      let ov ← eval o X.env
      standAt apos.atName
      let (f, first) ← holding [ov] (getMethod ov m pl)
      callWith pos f first (backTo pos (starEach (e :: es) X.env)) (backToKw pos (keywordEach [] X.env))) := by rfl) :
    PE X (.Call (.Attribute o m apos) (e :: es) [] pos) (tMeth C m sp dvs E ta t) := by
  intro pins s σ H Q I h
  refine PySem.W.methodCall_KW (pl := pl) (thn (he pins s σ H _ I h) fun u s1 ⟨x, H1, I1, rx, a, dx, fs, ex, ea, l, q⟩ => ?_) ht
  subst ex
  obtain rfl : u = Value.ref a := rx
  refine getmeth_ok I1 ea c hm l ?_
  refine PySem.W.callWith_K (first := [.ref a]) (h₀ := X.base) I.ok.mod.kin hm.kp (thn (ha pos pins s1 σ H1 _ I1 q) fun us s2 ⟨vs, H2, I2, r, q2⟩ => ⟨I2.kIn, ?_⟩) hst hpl
  exact run_fn (us := .ref a :: us) (vs := .ref a :: vs) F hr hb hd hx I2 (.cons rfl r) q2
/-- o.m() -/
theorem pe_meth0 {pl : Sem Bool} (he : PE X o ta) (c : Cls X.K C) (hm : Meth X.K C m f) (F : FnOk X.prog X.w X.K X.mg X.base CX k f fd ps sp) (hr : Room k X.A) (hb : Binds X.K fd ps ds) (hd : Vals dvs ds) (hx : Passes CX X E)
    (ht : eval (.Call (.Attribute o m apos) [] [] pos) X.env = (do
      let ov ← eval o X.env
      standAt apos.atName
      let (f, first) ← holding [ov] (getMethod ov m pl)
      callWith pos f first (backTo pos (starEach [] X.env)) (backToKw pos (keywordEach [] X.env))) := by rfl) :
    PE X (.Call (.Attribute o m apos) [] [] pos) (tMeth C m sp dvs E ta tNil) := by
  intro pins s σ H Q I h
  refine PySem.W.methodCall_KW (pl := pl) (thn (he pins s σ H _ I h) fun u s1 ⟨x, H1, I1, rx, a, dx, fs, ex, ea, l, q⟩ => ?_) ht
  subst ex
  obtain rfl : u = Value.ref a := rx
  refine getmeth_ok I1 ea c hm l ?_
  exact PySem.W.callWith_K0 (first := [.ref a]) I1.kIn hm.kp (run_fn (us := [.ref a]) (vs := [.ref a]) F hr hb hd hx I1 (.cons rfl .nil) q)

/-- what a class must have to be made -/
structure Mk (K : PySem.W.Frag) (C f : Addr) : Prop where
  makes : PySem.W.makesIn K C = true
  init : PySem.W.findIn K (.ref C) "__init__" = some (some (.ref f))
  fn : PySem.W.isFn K (.ref f) = true
  kp : PySem.W.keepIn K (.ref C) = true

theorem run_make {pins : List (Addr × Obj)} {σ : St} {H : Hp} {s : Shared} {Q : VK} {us : List Value} {vs : List V} (M : Mk X.K C f) (F : FnOk X.prog X.w X.K X.mg X.base CX k f fd ps sp) (hr : Room (k + 1) X.A) (hb : Binds X.K fd ps ds) (hd : Vals dvs ds)
    (hx : Passes CX X E) (I : Inv X pins σ H s) (r : Vals vs us)
    (h : ∀ x dx, H x = none → H dx = none → dx ≠ x → sp (.ref x :: (vs ++ dvs)) (upd (upd H dx (.own x)) x (.ins C dx [])) (fun v H2 => v = .non ∧ Q (.ref x) H2) E) :
    wpAny (model X.prog X.w) X.A (call (.ref C) us) (EP X pins σ Q) X.xe s := by
  have hq := h (s.heap.objs.size + 1) s.heap.objs.size (I.hok.fresh (Nat.le_succ _)) (I.hok.fresh (Nat.le_refl _)) (Nat.ne_of_lt (Nat.lt_succ_self _))
  have I2 := Inv.made (C := C) I
  have r2 : Vals (V.ref (s.heap.objs.size + 1) :: (vs ++ dvs)) (Value.ref (s.heap.objs.size + 1) :: (us ++ ds)) := .cons rfl (r.append hd)
  have hl : (Value.ref (s.heap.objs.size + 1) :: us ++ ds).length = ps.length := by
    have e := r2.length
    rw [F.len _ _ _ _ hq] at e
    exact e.symm
  refine wpAny_call (make_map (f := f) I.kIn M.makes M.init (beq_iff_eq.mp M.fn) (codeAny_mono (F.run _ X.stack _ _ ⟨Value.ref (s.heap.objs.size + 1) :: us, []⟩ (Value.ref (s.heap.objs.size + 1) :: (us ++ ds)) _ _ E (hr.make C us [])
    (I2.env0.make C us []) (hb _ (Value.ref (s.heap.objs.size + 1) :: us) I2.kIn hl) r2 hq) fun r s' hq' => ?_))
  cases r with
  | error e => exact hx pins σ _ _ e s' I2 hq'
  | ok fl =>
    cases fl with
    | ret u =>
      obtain ⟨v, H', I3, rv, ev, q3⟩ := I2.after hq'
      subst ev
      exact ⟨rv, ⟨V.ref (s.heap.objs.size + 1), H', I3, rfl, q3⟩⟩
    | next => exact False.elim hq'
    | brk => exact False.elim hq'
    | cont => exact False.elim hq'
theorem pe_make0 (M : Mk X.K C f) (F : FnOk X.prog X.w X.K X.mg X.base CX k f fd ps sp) (hr : Room (k + 1) X.A) (hg : Gl X x) (hm : X.mg x = some (.ref C)) (hb : Binds X.K fd ps ds) (hd : Vals dvs ds) (hx : Passes CX X E)
    (hdb : (x == ("__debug__" : Str)) = false := by decide) : PE X (.Call (.Name x p) [] [] pos) (tMake C sp dvs E tNil) := by
  intro pins s σ H Q I h
  refine wpAny_Call_Name_kw (ld_glob I hg hm ?_ hdb)
  exact PySem.W.callWith_K0 I.kIn M.kp (run_make (us := []) M F hr hb hd hx I .nil h)
end

/-! ### keywords -/
/-- the values of the keywords, from the left -/
def PK (X : Cx) (kws : List Keyword) (t : TA) : Prop :=
  ∀ (pos : Pos) (pins : List (Addr × Obj)) (s : Shared) (σ : St) (H : Hp) (Q : List V → Hp → Prop), Inv X pins σ H s → t σ H Q → wpAny (model X.prog X.w) X.A (evalAll ((backToKw pos (keywordEach kws X.env)).map (·.2))) (AP X pins σ Q) X.xe s
section
variable {X : Cx} {CX : CXT} {k : Nat} {f C : Addr} {fd : FuncData} {ps ks : List Str} {sp : Sp} {E : XK} {x m : Str} {p pos apos kpos : Pos} {e o : Expr} {es : List Expr} {kws : List Keyword} {te ta : TE} {t tk : TA} {nm : Option Str}
/-- how a call with keywords binds: g puts the positional values us and the keywords' values ws (names ks) in the parameters' order, defaults among them -/
structure KBinds (K : PySem.W.Frag) (fd : FuncData) (ps ks : List Str) (g : List Value → List Value → List Value) (gV : List V → List V → List V) : Prop where
  to : ∀ (s : Shared) (us ws : List Value), K.In s.heap → (g us ws).length = ps.length → BindsTo s fd ⟨us, ks.zip ws⟩ (ps.zip (g us ws))
  rel : ∀ {vs : List V} {us : List Value} {zs : List V} {ws : List Value}, Vals vs us → Vals zs ws → Vals (gV vs zs) (g us ws)
variable {g : List Value → List Value → List Value} {gV : List V → List V → List V}
end

/-! ### a def's body keeps its promise -/
/-- names: the parameters first -/
structure FnScope (N P : List Str) (sc : Scope) : Prop where
  kind : sc.kind = .function
  co : sc.isCoroutine = false
  gen : sc.isGenerator = false
  nd : N.Nodup
  pre : N.take P.length = P
  par : ∀ x ∈ P, sc.names.lookup x = some .local ∨ sc.names.lookup x = some .cell
  nofree : ∀ y ∈ sc.names, y.2 ≠ .free

theorem bindL_out {kindOf : Str → Option NameKind} {x : Str} : ∀ {binds : List (Str × Value)} {m : Str → Option Value}, (∀ v, (x, v) ∉ binds) → bindL kindOf binds m x = m x
  | [], _, _ => rfl
  | (n, v) :: r, m, h => by
    unfold bindL
    rw [bindL_out fun w hw => h w (List.mem_cons_of_mem _ hw)]
    split
    · have : x ≠ n := by rintro rfl; exact h v List.mem_cons_self
      simp [this]
    · rfl
theorem bindC_out {kindOf : Str → Option NameKind} {x : Str} : ∀ {binds : List (Str × Value)} {m : Str → Option Value}, (∀ v, (x, v) ∉ binds) → bindC kindOf binds m x = m x
  | [], _, _ => rfl
  | (n, v) :: r, m, h => by
    unfold bindC
    rw [bindC_out fun w hw => h w (List.mem_cons_of_mem _ hw)]
    split
    · rfl
    · have : x ≠ n := by rintro rfl; exact h v List.mem_cons_self
      simp [this]
theorem bindL_get {kindOf : Str → Option NameKind} {x : Str} {v : Value} : ∀ {P : List Str} {vs : List Value} {i : Nat} {m : Str → Option Value}, P.Nodup → P[i]? = some x → vs[i]? = some v → kindOf x = some .local →
    bindL kindOf (P.zip vs) m x = some v
  | [], _, _, _, _, h, _, _ => by simp at h
  | _ :: _, [], _, _, _, _, h, _ => by simp at h
  | p :: P, w :: vs, 0, m, nd, h1, h2, hk => by
    simp at h1 h2; subst h1; subst h2
    show bindL kindOf ((p, w) :: P.zip vs) m p = _
    unfold bindL
    rw [bindL_out fun v hv => (List.nodup_cons.mp nd).1 (List.of_mem_zip hv).1, if_pos hk]
    simp
  | p :: P, w :: vs, i + 1, m, nd, h1, h2, hk => by
    show bindL kindOf ((p, w) :: P.zip vs) m x = _
    unfold bindL
    exact bindL_get (i := i) (List.nodup_cons.mp nd).2 (by simpa using h1) (by simpa using h2) hk
theorem bindC_get {kindOf : Str → Option NameKind} {x : Str} {v : Value} : ∀ {P : List Str} {vs : List Value} {i : Nat} {m : Str → Option Value}, P.Nodup → P[i]? = some x → vs[i]? = some v → kindOf x ≠ some .local →
    bindC kindOf (P.zip vs) m x = some v
  | [], _, _, _, _, h, _, _ => by simp at h
  | _ :: _, [], _, _, _, _, h, _ => by simp at h
  | p :: P, w :: vs, 0, m, nd, h1, h2, hk => by
    simp at h1 h2; subst h1; subst h2
    show bindC kindOf ((p, w) :: P.zip vs) m p = _
    unfold bindC
    rw [bindC_out fun v hv => (List.nodup_cons.mp nd).1 (List.of_mem_zip hv).1, if_neg hk]
    simp
  | p :: P, w :: vs, i + 1, m, nd, h1, h2, hk => by
    show bindC kindOf ((p, w) :: P.zip vs) m x = _
    unfold bindC
    exact bindC_get (i := i) (List.nodup_cons.mp nd).2 (by simpa using h1) (by simpa using h2) hk

/-- the names' values at the entry -/
def start (N : List Str) (vs : List V) : St := vs.map some ++ List.replicate (N.length - vs.length) none

/-- the context of a def's body, at its entry; an exception leaves the frame, then lies as CX says -/
def cxOf (CX : CXT) (P : Program) (w : World) (K : PySem.W.Frag) (mg : Str → Option Value) (base : Heap) (N : List Str) (qual : Str) (scope : Scope) (f : Addr) (cd : Value) (A : Around) (outer : List Env) (s : Shared) (H : Hp) (E : XK) : Cx where
  prog := P
  w := w
  K := K
  mg := mg
  base := base
  A := A.deeper (envOfC qual scope s.heap.objs.size f cd)
  N := N
  s₀ := s
  H₀ := H
  env := envOfC qual scope s.heap.objs.size f cd
  outer := outer
  stack := envOfC qual scope s.heap.objs.size f cd :: outer
  ex := []
  calm := true
  fn := fun _ => true
  pn := []
  xe := fun e s' => wpAny (model P w) (A.deeper (envOfC qual scope s.heap.objs.size f cd)) (leaving (envOfC qual scope s.heap.objs.size f cd) e) (fun _ s'' => CX outer H s E e s'') (fun e' s'' => CX outer H s E e' s'') s'

theorem cell_has {sc : Scope} {n : Nat} {x : Str} (h : sc.names.lookup x = some .cell) : ∃ c, (cellsFrom n sc.names []).lookup x = some c := by
  have q := PySem.W.cellsFrom_some sc.names n [] (.inl h)
  exact Option.isSome_iff_exists.mp q

theorem inv_start {CX : CXT} {P : Program} {w : World} {K : PySem.W.Frag} {mg : Str → Option Value} {base : Heap} {N ps : List Str} {qual : Str} {scope : Scope} {f : Addr} {cd : Value} {A : Around} {outer : List Env} {s s1 : Shared} {H : Hp} {E : XK} {us : List Value} {vs : List V}
    (S : FnScope N ps scope) (hd : A.handled = none) (e0 : Env0 P w K mg base A outer s H) (hl : vs.length = ps.length) (r : Vals vs us)
    (x : InCallC s s.heap.objs.size (bindL (envOfC qual scope s.heap.objs.size f cd).kindOf (ps.zip us) fun _ => none) (cellsFrom (s.heap.objs.size + 1) scope.names []) (bindC (envOfC qual scope s.heap.objs.size f cd).kindOf (ps.zip us) fun _ => none) s1) :
    Inv (cxOf CX P w K mg base N qual scope f cd A outer s H E) [] (start N vs) H s1 := by
  have hpl : ps.length ≤ N.length := by have := congrArg List.length S.pre; rw [List.length_take] at this; omega
  obtain ⟨h1, tk, rfl, hk⟩ := x.done
  have noA : ∀ b : Addr, b ∉ (cxOf CX P w K mg base N qual scope f cd A outer s H E).ex := fun b z => absurd (show b ∈ ([] : List Addr) from z) (by simp)
  refine ⟨⟨e0.mod, S.kind, rfl, rfl, Nat.le_refl _, fun y z c h1 h2 => ?_, fun y hy => ?_, fun y c _ h => ?_, fun _ => hd, Around.frames_deeper e0.frames, .inr ⟨rfl, rfl⟩, fun b z => absurd z (noA b), e0.bs, e0.bsz, fun b _ _ => noA b, fun b z => absurd z (noA b), e0.funs, e0.frf⟩,
    rfl, e0.bare, Un.kept hk, ⟨_, x.toInCall.ns, fun i y v h1 h2 h3 => ?_⟩, fun y c h => ⟨_, x.cell y c h⟩, e0.hok.fresh (Nat.le_refl _), fun y c h => ?_, fun p hp => absurd (show p ∈ ([] : List (Addr × Obj)) from hp) (by simp), e0.hok.kept hk, ?_⟩
  · exact name_of_addr x.apart (PySem.mem_of_lookup h1) (PySem.mem_of_lookup h2)
  · have hy : scope.names.lookup y = some .cell ∨ scope.names.lookup y = some .free := hy
    rcases hy with hy | hy
    · exact cell_has hy
    · exact absurd rfl (S.nofree _ (PySem.mem_of_lookup hy))
  · exact Nat.le_of_lt (x.above y c (PySem.mem_of_lookup h))
  · have hi : i < vs.length := by
      unfold start at h2
      by_cases hi : i < vs.length
      · exact hi
      · rw [List.getElem?_append_right (by simpa using hi)] at h2
        rw [List.getElem?_replicate] at h2
        split at h2 <;> cases h2
    have ha : vs[i]? = some v := by
      unfold start at h2
      rw [List.getElem?_append_left (by simpa using hi), List.getElem?_map] at h2
      cases e : vs[i]? with
      | none => rw [e] at h2; cases h2
      | some a => rw [e] at h2; cases h2; rfl
    obtain ⟨u, hu, rv⟩ := r.get ha
    have hp : ps[i]? = some y := by
      rw [← S.pre, List.getElem?_take_of_lt (by omega)]; exact h1
    have ndP : ps.Nodup := by rw [← S.pre]; exact S.nd.sublist (List.take_sublist _ _)
    refine ⟨u, rv, ?_⟩
    rcases S.par y (List.mem_of_getElem? hp) with k | k
    · exact .inl ⟨k, bindL_get ndP hp hu k⟩
    · obtain ⟨c, e⟩ := cell_has (n := s.heap.objs.size + 1) k
      refine .inr ⟨.inl k, c, e, ?_⟩
      have q := x.cell y c e
      rw [bindC_get ndP hp hu (by show scope.names.lookup y ≠ _; rw [k]; decide)] at q
      exact q
  · exact e0.hok.fresh (Nat.le_of_lt (x.above y c (PySem.mem_of_lookup h)))
  · unfold start
    show _ = N.length
    rw [List.length_append, List.length_map, List.length_replicate]
    omega

/-- THE RULE: a def (or a method) of the text, by its body. The body's reading t is chosen for each entry; it is run at the parameters' values -/
theorem fn_of {CX : CXT} {P : Program} {w : World} {K : PySem.W.Frag} {mg : Str → Option Value} {base : Heap} {k : Nat} {f : Addr} {name qual : Str} {params : Arguments} {body : List Stmt} {scope : Scope} {dV kV doc pm cdv ct oc : Value} {an od : Option Addr}
    {osl : Array (Option Value)} {N ps : List Str} {sp : Sp} (lk : K.lookup f = some ⟨oc, od, .func (PySem.W.fnOf name qual params body scope dV kV doc pm an cdv ct), osl⟩) (hcd : PySem.W.codeIn K cdv qual = true) (S : FnScope N ps scope)
    (len : ∀ vs H Q E, sp vs H Q E → vs.length = ps.length)
    (hbody : ∀ (A : Around) (outer : List Env) (s : Shared) (H : Hp) (vs : List V) (Q : VK) (E : XK), Room k (A.deeper (envOfC qual scope s.heap.objs.size f cdv)) → sp vs H Q E →
      ∃ t, PSs (cxOf CX P w K mg base N qual scope f cdv A outer s H E) body t ∧ t { nx := fun _ H' => Q .non H', rt := Q } (start N vs) H) :
    FnOk P w K mg base CX (k + 1) f (PySem.W.fnOf name qual params body scope dV kV doc pm an cdv ct) ps sp := by
  refine ⟨len, fun A outer s H args us vs Q E hr e0 hb r hsp => ?_⟩
  have hl := len _ _ _ _ hsp
  have KX : K.In s.heap := e0.mod.kin.keeps fun b o e => (e0.bs b o e).1
  have lim : s.heap.NoLimit := e0.mod.nolimit.keeps fun b o e => (e0.bs b o e).1
  have hkind : ∀ y ∈ ps.zip us, scope.names.lookup y.1 = some .local ∨ (scope.names.lookup y.1 = some .cell ∧ ((cellsFrom (s.heap.objs.size + 1) scope.names []).lookup y.1).isSome = true) := fun ⟨n, v⟩ hy => by
    rcases S.par n (List.of_mem_zip hy).1 with q | q
    · exact .inl q
    · exact .inr ⟨q, PySem.W.cellsFrom_some _ _ _ (.inl q)⟩
  refine codeAny_call_function hr.depth (KX _ _ lk) rfl S.co S.gen rfl (PySem.W.codeRec_of KX hcd) (hb _ _ _ _ ?_)
  refine wpAny_newFunctionEnv_cells S.kind hkind fun env he s1 x => ?_
  subst he
  refine ⟨lim.keeps x.toInCall.keep, codeAny_func ?_⟩
  obtain ⟨t, ht, hq⟩ := hbody A outer s H vs Q E (hr.deeper _) hsp
  have I : Inv (cxOf CX P w K mg base N qual scope f cdv A outer s H E) [] (start N vs) H s1 := inv_start S hr.hd e0 hl r x
  refine wpAny_mono (ht [] s1 (start N vs) H _ I hq) (fun fl s' hs => ?_) fun e s' hs => hs
  have fin : ∀ {σ' : St} {H' : Hp} {v : V} {u : Value}, Inv (cxOf CX P w K mg base N qual scope f cdv A outer s H E) [] σ' H' s' → RelV v u → Q v H' → CE outer P w H s Q u s' :=
    fun {σ' H' v u} J rv q => ⟨v, H', J.os, J.bare, J.base, J.hok, rv, q⟩
  cases fl with
  | ret u =>
    obtain ⟨v, σ', H', J, rv, q⟩ := hs
    exact fin J rv q
  | next =>
    obtain ⟨σ', H', J, q⟩ := hs
    exact fin (v := V.non) (u := Value.none) J rfl q
  | brk =>
    obtain ⟨_, _, _, q⟩ := hs
    exact False.elim q
  | cont =>
    obtain ⟨_, _, _, q⟩ := hs
    exact False.elim q
end L2

namespace L2
open PySem PySem.Spec PyProof.Rows
section
variable {X : Cx} {x : Str} {p pos : Pos} {e : Expr} {es : List Expr} {t : TA} {id T : String} {r : List V → Hp → VK → Prop}

def tCB (r : List V → Hp → VK → Prop) (t : TA) : TE := fun σ H Q => t σ H fun vs H1 => r vs H1 Q
/-- f(e, ..), f a built-in function -/
theorem pe_callB (hc : CallR X (.builtin id) r) (hg : Gl X x) (hm : X.mg x = none) (hv : bootBuiltins x = some (.builtin id)) (ha : PA X (e :: es) t) (hn : x ≠ "__name__" := by decide) (hdb : (x == ("__debug__" : Str)) = false := by decide)
    (he : starEach (e :: es) X.env = (false, eval e X.env) :: starEach es X.env := by rfl) (hpl : (backTo pos (starEach es X.env)).any (·.1) = false := by rfl) : PE X (.Call (.Name x p) (e :: es) [] pos) (tCB r t) := by
  intro pins s σ H Q I h
  refine wpAny_Call_Name_kw (ld_blt I hg hm hv ?_ hn hdb)
  exact PyProof.Rows.callWith_builtin1 (thn (ha pos pins s σ H _ I h) fun us s1 ⟨vs, H1, I1, r1, q1⟩ => hc pins s1 σ H1 vs us Q I1 r1 q1) he hpl
/-- T(e, ..), T a built-in type -/
theorem pe_callTy (hc : CallR X (.type T) r) (hg : Gl X x) (hm : X.mg x = none) (hv : bootBuiltins x = some (.type T)) (ha : PA X (e :: es) t) (hn : x ≠ "__name__" := by decide) (hdb : (x == ("__debug__" : Str)) = false := by decide)
    (he : starEach (e :: es) X.env = (false, eval e X.env) :: starEach es X.env := by rfl) (hpl : (backTo pos (starEach es X.env)).any (·.1) = false := by rfl) : PE X (.Call (.Name x p) (e :: es) [] pos) (tCB r t) := by
  intro pins s σ H Q I h
  refine wpAny_Call_Name_kw (ld_blt I hg hm hv ?_ hn hdb)
  exact PyProof.Rows.callWith_type1 (thn (ha pos pins s σ H _ I h) fun us s1 ⟨vs, H1, I1, r1, q1⟩ => hc pins s1 σ H1 vs us Q I1 r1 q1) he hpl
end
end L2

namespace HT
open PySem PyProof.Rows

section
open PySem.SeqAt
open PySem.AutoSeq1 (wpAny_loadPart')
open PySem.MeetsSeq PySem.MeetsSeq2 PySem.MeetsSeq3

end

section
variable {prog : Program} {w : World} {A : Around} {E : Value → Shared → Prop} {s : Shared}

/-! ### t[a:b], not the whole -/
/-- a slice's bound as a place among n (d where it is left out) -/
def sIx (n d : Nat) : Option Int → Nat
  | none => d
  | some v => if v < 0 then (v + (n : Int)).toNat else min v.toNat n
end
end HT

namespace L2
open PySem PySem.Spec PyProof.Rows

/-! ### the parts of a slice -/
abbrev TO := St → Hp → (Option Int → Hp → Prop) → Prop
/-- a slice's part (left out, or an int) -/
def PO (X : Cx) (e : Option Expr) (t : TO) : Prop :=
  ∀ (pins : List (Addr × Obj)) (s : Shared) (σ : St) (H : Hp) (Q : Option Int → Hp → Prop), Inv X pins σ H s → t σ H Q →
    wpAny (model X.prog X.w) X.A (evalPart e X.env) (fun u s' => ∃ o H', Inv X pins σ H' s' ∧ IsPart u o ∧ Q o H') X.xe s
def tNoPart : TO := fun _ H Q => Q none H
def tPart (t : TE) : TO := fun σ H Q => t σ H fun x H1 => ∃ i, x = .int i ∧ Q (some i) H1

section
variable {X : Cx} {e : Expr} {te : TE} {lo hi : Option Expr} {tl th : TO} {pos p2 : Pos}

theorem po_none : PO X none tNoPart := by
  intro pins s σ H Q I h
  rw [evalPart_none]
  exact wpAny_pure ⟨none, H, I, .none, h⟩
theorem po_some (h : PE X e te) : PO X (some e) (tPart te) := by
  intro pins s σ H Q I hw
  rw [evalPart_some]
  refine thn (h pins s σ H _ I hw) fun u s1 ⟨x, H1, I1, r1, q1⟩ => ?_
  obtain ⟨i, rfl, q⟩ := q1
  obtain ⟨t, rfl⟩ := r1
  exact ⟨some i, H1, I1, .int i t, q⟩

/-- what a slice of a value is, by values: the slice object stands at sl -/
def SlR (X : Cx) (r : V → Option Int → Option Int → Hp → VK → Prop) : Prop :=
  ∀ (pins : List (Addr × Obj)) (s : Shared) (σ : St) (H : Hp) (x : V) (v vl vu : Value) (lo hi : Option Int) (sl : Addr) (Q : VK), Inv X pins σ H s → RelV x v → s.heap.IsSliceOf sl vl vu .none → IsPart vl lo → IsPart vu hi → r x lo hi H Q →
    ∃ T id, typeLookup (.type T) "__getitem__" = pure (some (.builtin id)) ∧ s.TypeIs v T ∧ wpAny (model X.prog X.w) X.A (getItem v (.ref sl)) (EP X pins σ Q) X.xe s
theorem SlR.or {r r' : V → Option Int → Option Int → Hp → VK → Prop} (h : SlR X r) (h' : SlR X r') : SlR X (fun x lo hi H Q => r x lo hi H Q ∨ r' x lo hi H Q) := by
  intro pins s σ H x v vl vu lo hi sl Q I rx hs pl pu q
  rcases q with q | q
  · exact h pins s σ H x v vl vu lo hi sl Q I rx hs pl pu q
  · exact h' pins s σ H x v vl vu lo hi sl Q I rx hs pl pu q
def tSl (r : V → Option Int → Option Int → Hp → VK → Prop) (te : TE) (tl th : TO) : TE := fun σ H Q => te σ H fun x H1 => tl σ H1 fun l H2 => th σ H2 fun u H3 => r x l u H3 Q
/-- a[lo:hi], any a -/
theorem pe_slice {r : V → Option Int → Option Int → Hp → VK → Prop} (hr : SlR X r) (he : PE X e te) (hl : PO X lo tl) (hu : PO X hi th) : PE X (.Subscript e (.Slice lo hi none p2) pos) (tSl r te tl th) := by
  intro pins s σ H Q I h
  refine Subscript_ (thn (he pins s σ H _ I h) fun v s1 ⟨x, H1, I1, r1, q1⟩ => ?_)
  refine wpAny_Slice (thn (hl pins s1 σ H1 _ I1 q1) fun vl s2 ⟨l, H2, I2, pl, q2⟩ => thn (hu pins s2 σ H2 _ I2 q2) fun vu s3 ⟨u, H3, I3, pu, q3⟩ => ?_)
  rw [evalPart_none]
  refine wpAny_pure ?_
  have I4 : Inv X pins σ H3 { s3 with heap := s3.heap.push { cls := .type "slice", data := .fields #[vl, vu, .none] } } := I3.kept (t' := s3.toks) fun b ob q => Heap.get?_push_of_some _ q
  obtain ⟨T, id, hT, ht, hg⟩ := hr pins { s3 with heap := s3.heap.push { cls := .type "slice", data := .fields #[vl, vu, .none] } } σ H3 x v vl vu l u s3.heap.objs.size Q I4 r1 (Heap.IsSliceOf.new ..) pl pu q3
  show wpAny (model X.prog X.w) X.A (subscriptTail e (.Slice lo hi none p2) v (.ref s3.heap.objs.size)) (EP X pins σ Q) X.xe { s3 with heap := s3.heap.push { cls := .type "slice", data := .fields #[vl, vu, .none] } }
  exact tail_any (ops := [.ref s3.heap.objs.size, v]) ht hT hg (by with_unfolding_all rfl)

/-- the items of xs[lo:hi] -/
def cutV (xs : List V) (lo hi : Option Int) : List V := (xs.drop (HT.sIx xs.length 0 lo)).take (HT.sIx xs.length xs.length hi - HT.sIx xs.length 0 lo)
theorem cutV_length (xs : List V) (lo hi : Option Int) : (cutV xs lo hi).length ≤ xs.length := by
  unfold cutV
  rw [List.length_take, List.length_drop]
  omega
/-! ### t < u, t + u -/
end
end L2

namespace L2
open PySem PySem.Spec PyProof.Rows

/-! ### places -/
/-- the place that an index of any sign means -/
def ixN (n : Nat) (i : Int) : Option Nat := if 0 ≤ i then (if i < n then some i.toNat else none) else if -(n : Int) ≤ i then some (i + n).toNat else none
def atI {α : Type} (xs : List α) (i : Int) : Option α := (ixN xs.length i).bind fun j => xs[j]?
theorem ixN_seq {n : Nat} {i : Int} {j : Nat} (h : ixN n i = some j) : seqIndex? i n = some j ∧ j < n ∧ -(n : Int) ≤ i ∧ i < n := by
  unfold ixN at h
  by_cases h0 : 0 ≤ i
  · rw [if_pos h0] at h
    by_cases h1 : i < n
    · rw [if_pos h1] at h
      have e : i.toNat = j := Option.some.inj h
      exact ⟨by rw [seqIndex_of h0 h1, e], by omega, by omega, h1⟩
    · rw [if_neg h1] at h; cases h
  · rw [if_neg h0] at h
    by_cases h1 : -(n : Int) ≤ i
    · rw [if_pos h1] at h
      have e : (i + n).toNat = j := Option.some.inj h
      exact ⟨by rw [seqIndex_neg (by omega) h1, e], by omega, h1, by omega⟩
    · rw [if_neg h1] at h; cases h
theorem atI_get {α : Type} {xs : List α} {i : Int} {v : α} (h : atI xs i = some v) : ∃ j, seqIndex? i xs.length = some j ∧ xs[j]? = some v ∧ j < xs.length ∧ -(xs.length : Int) ≤ i ∧ i < xs.length := by
  unfold atI at h
  cases e : ixN xs.length i with
  | none => rw [e] at h; cases h
  | some j =>
    rw [e] at h
    obtain ⟨h1, h2, h3, h4⟩ := ixN_seq e
    exact ⟨j, h1, h, h2, h3, h4⟩
theorem atI_nat {α : Type} {xs : List α} {j : Nat} {v : α} (h : xs[j]? = some v) : atI xs (j : Int) = some v := by
  have hj : j < xs.length := (List.getElem?_eq_some_iff.mp h).1
  have e : ixN xs.length (j : Int) = some j := by
    unfold ixN
    rw [if_pos (by omega), if_pos (by omega)]; simp
  unfold atI; rw [e]; exact h
/-! ### what may be subscripted -/
/-- what stands as an index of a plain subscript -/
def PlainIx (b : Expr) : Prop := ∀ o i, subscripted b false o i = operate [o, i] (getItem o i)
/-- a subscript by values -/
def IxR (X : Cx) (r : R2) : Prop :=
  ∀ (value slice : Expr) (pins : List (Addr × Obj)) (s : Shared) (σ : St) (H : Hp) (x y : V) (v u : Value) (Q : VK), Inv X pins σ H s → RelV x v → RelV y u → r x y H Q →
    subscripted slice false v u = operate [v, u] (getItem v u) → wpAny (model X.prog X.w) X.A (subscriptTail value slice v u) (EP X pins σ Q) X.xe s
/-- a call of a builtin's method by values: the receiver, the arguments -/
def MtR (X : Cx) (id : String) (r : V → List V → Hp → VK → Prop) : Prop :=
  ∀ (pins : List (Addr × Obj)) (s : Shared) (σ : St) (H : Hp) (x : V) (xs : List V) (v : Value) (us : List Value) (Q : VK), Inv X pins σ H s → RelV x v → Vals xs us → r x xs H Q →
    wpAny (model X.prog X.w) X.A (call (.builtin id) (v :: us)) (EP X pins σ Q) X.xe s
section
variable {X : Cx} {a b : Expr} {ta tb : TE} {pos : Pos}
theorem IxR.or {r r' : R2} (h : IxR X r) (h' : IxR X r') : IxR X (fun x y H Q => r x y H Q ∨ r' x y H Q) := by
  intro value slice pins s σ H x y v u Q I rx ry q hs
  rcases q with q | q
  · exact h value slice pins s σ H x y v u Q I rx ry q hs
  · exact h' value slice pins s σ H x y v u Q I rx ry q hs
theorem MtR.or {id : String} {r r' : V → List V → Hp → VK → Prop} (h : MtR X id r) (h' : MtR X id r') : MtR X id (fun x xs H Q => r x xs H Q ∨ r' x xs H Q) := by
  intro pins s σ H x xs v us Q I rx rs q
  rcases q with q | q
  · exact h pins s σ H x xs v us Q I rx rs q
  · exact h' pins s σ H x xs v us Q I rx rs q
/-- a[b] -/
theorem pe_ix {r : R2} (hr : IxR X r) (ha : PE X a ta) (hb : PE X b tb) (hs : PlainIx b) : PE X (.Subscript a b pos) (tOp r ta tb) := by
  intro pins s σ H Q I h
  exact Subscript_ (binT ha hb I h fun v u s2 x y H2 I2 rx ry q => hr a b pins s2 σ H2 x y v u Q I2 rx ry q (hs _ _))

def rIxL (K : PySem.W.Frag) : R2 := fun x y H Q => ∃ p xs i v, x = .ref p ∧ y = .int i ∧ SqL K H p xs ∧ atI xs i = some v ∧ Q v H
theorem ix_list : IxR X (rIxL X.K) := by
  intro value slice pins s σ H x y v u Q I rx ry h hs
  obtain ⟨p, xs, i, z, rfl, rfl, hq, he, q⟩ := h
  cases rx
  obtain ⟨t, rfl⟩ := ry
  obtain ⟨its, r, pl, hz⟩ := I.list hq
  obtain ⟨j, h1, h2, h3, h4, h5⟩ := atI_get he
  obtain ⟨w, ew, rw'⟩ := r.get h2
  have hl := r.length
  have hn := line63
  have fin : EP X pins σ Q w s := ⟨z, H, I, rw', q⟩
  by_cases h0 : 0 ≤ i
  · have hj : i.toNat = j := by
      rw [seqIndex_of h0 h5] at h1
      exact Option.some.inj h1
    exact item_listR pl.isList h0 (by omega) (by rw [hj]; simpa using ew) fin hs
  · have hj : (i + (its.toArray.size : Int)).toNat = j := by
      rw [seqIndex_neg (by omega) h4] at h1
      rw [List.size_toArray, ← hl]
      exact Option.some.inj h1
    exact subscriptTail_builtinR (x := w) pl.isList.typeIs slot_list_getitem.lookup
      (wpAny_getItem_list_neg (Q := fun r s' => r = w ∧ EP X pins σ Q r s') pl.isList (by omega) (by rw [List.size_toArray] <;> omega) (by omega) (by rw [hj]; simpa using ew) ⟨rfl, fin⟩) hs
/-! ### xs[i] = v, any sign -/
theorem Inv.lst {pins : List (Addr × Obj)} {σ : St} {H : Hp} {s : Shared} {p : Addr} {xs : List V} (I : Inv X pins σ H s) (h : H p = some (.lst xs)) :
    ∃ (its : List Value) (n : Nat), Vals xs its ∧ s.heap.get? p = some { cls := .type "list", data := .seq its.toArray n } ∧ xs.length ≤ sizeLine := by
  obtain ⟨z, its, n, r, e⟩ := I.hok p _ h
  exact ⟨its, n, r, e, z⟩
/-! ### slices -/
theorem slice_bounds (lo hi : Option Int) (n : Nat) : (sliceBounds lo hi none n).1 = ((HT.sIx n 0 lo : Nat) : Int) ∧ (sliceBounds lo hi none n).2.1 = ((HT.sIx n n hi : Nat) : Int) ∧ (sliceBounds lo hi none n).2.2 = 1 := by
  refine ⟨?_, ?_, rfl⟩
  · cases lo with
    | none => simp [sliceBounds, HT.sIx]
    | some i =>
      simp only [sliceBounds, HT.sIx, Option.getD_none, show (1 : Int) > 0 by decide, if_true]
      by_cases h : i < 0
      · simp only [h, if_true] <;> omega
      · simp only [h, if_false] <;> omega
  · cases hi with
    | none => simp [sliceBounds, HT.sIx]
    | some i =>
      simp only [sliceBounds, HT.sIx, Option.getD_none, show (1 : Int) > 0 by decide, if_true]
      by_cases h : i < 0
      · simp only [h, if_true] <;> omega
      · simp only [h, if_false] <;> omega
theorem slicePick_cut (its : List Value) (lo hi : Option Int) : slicePick its.toArray lo hi none = ((its.drop (HT.sIx its.length 0 lo)).take (HT.sIx its.length its.length hi - HT.sIx its.length 0 lo)).toArray := by
  obtain ⟨h1, h2, h3⟩ := slice_bounds lo hi its.toArray.size
  unfold slicePick
  rw [h1, h2, h3]
  simp only [sliceRange_one, pick_run, List.size_toArray] <;> rfl
/-- xs[lo:hi] of a list: a new list -/
def rSlL (K : PySem.W.Frag) : V → Option Int → Option Int → Hp → VK → Prop := fun x lo hi H Q => ∃ a xs, x = .ref a ∧ SqL K H a xs ∧ ∀ p, H p = none → Q (.ref p) (upd H p (.lst (cutV xs lo hi)))
theorem sl_list : SlR X (rSlL X.K) := by
  intro pins s σ H x v vl vu lo hi sl Q I rx hs pl pu h
  obtain ⟨a, xs, rfl, hx, q⟩ := h
  cases rx
  obtain ⟨its, r, ht, hz⟩ := I.list hx
  have hlen := r.length
  refine ⟨"list", _, slot_list_getitem.lookup, ht.isList.typeIs, ?_⟩
  refine wpAny_getItem_list_slice ht.isList hs pl pu .none (by simp) ?_ (by rw [List.size_toArray] <;> omega)
  rw [slicePick_cut, ← hlen]
  refine ⟨.ref s.heap.objs.size, _, I.laid (t' := s.toks) (o := .lst (cutV xs lo hi)) (fun b ob q => Heap.get?_push_of_some _ q) (Nat.le_refl _) ?_, rfl, q _ (I.hok.fresh (Nat.le_refl _))⟩
  exact ⟨Nat.le_trans (cutV_length xs lo hi) hz, _, 0, (r.drop (HT.sIx xs.length 0 lo)).take (HT.sIx xs.length xs.length hi - HT.sIx xs.length 0 lo), Heap.get?_push_size _ rfl⟩

/-! ### in, not in: flat items -/
def flatV : V → Bool
  | .non => true
  | .bl _ => true
  | .int _ => true
  | .str _ => true
  | _ => false
/-- == of flat values -/
def eqV : V → V → Bool
  | .non, .non => true
  | .bl a, .bl b => a == b
  | .bl a, .int b => (if a then 1 else 0) == b
  | .int a, .bl b => a == (if b then 1 else 0)
  | .int a, .int b => a == b
  | .str a, .str b => a == b
  | _, _ => false
theorem eqAt_V {A : Around} {s : Shared} {y x : V} {u v : Value} (ry : RelV y u) (rx : RelV x v) (fy : flatV y = true) (fx : flatV x = true) : SeqAt.EqAt A s u v (eqV y x) := by
  cases y with
  | non =>
    cases ry
    cases x with
    | non => cases rx; exact SeqAt.EqAt.same _
    | bl b => cases rx; exact SeqAt.EqAt.none_bool b
    | int b => obtain ⟨t, rfl⟩ := rx; exact SeqAt.EqAt.none_int b t
    | str b => obtain ⟨t, rfl⟩ := rx; exact SeqAt.EqAt.none_str b t
    | _ => exact absurd (show false = true from fx) Bool.false_ne_true
  | bl a =>
    cases ry
    cases x with
    | non => cases rx; exact SeqAt.EqAt.bool_none a
    | bl b => cases rx; exact SeqAt.EqAt.bool_bool a b
    | int b => obtain ⟨t, rfl⟩ := rx; exact SeqAt.EqAt.bool_int a b t
    | str b => obtain ⟨t, rfl⟩ := rx; exact SeqAt.EqAt.bool_str a b t
    | _ => exact absurd (show false = true from fx) Bool.false_ne_true
  | int a =>
    obtain ⟨t', rfl⟩ := ry
    cases x with
    | non => cases rx; exact SeqAt.EqAt.int_none a t'
    | bl b => cases rx; exact SeqAt.EqAt.int_bool a t' b
    | int b => obtain ⟨t, rfl⟩ := rx; exact SeqAt.EqAt.int_int a t' b t
    | str b => obtain ⟨t, rfl⟩ := rx; exact SeqAt.EqAt.int_str a t' b t
    | _ => exact absurd (show false = true from fx) Bool.false_ne_true
  | str a =>
    obtain ⟨t', rfl⟩ := ry
    cases x with
    | non => cases rx; exact SeqAt.EqAt.str_none a t'
    | bl b => cases rx; exact SeqAt.EqAt.str_bool a t' b
    | int b => obtain ⟨t, rfl⟩ := rx; exact SeqAt.EqAt.str_int a t' b t
    | str b => obtain ⟨t, rfl⟩ := rx; exact SeqAt.EqAt.str_str a t' b t
    | _ => exact absurd (show false = true from fx) Bool.false_ne_true
  | _ => exact absurd (show false = true from fy) Bool.false_ne_true
/-! ### len, list(x), tuple(x) of any list or tuple that is read -/
theorem CallR.or {f : Value} {r r' : List V → Hp → VK → Prop} (h : CallR X f r) (h' : CallR X f r') : CallR X f (fun xs H Q => r xs H Q ∨ r' xs H Q) := by
  intro pins s σ H xs us Q I rs q
  rcases q with q | q
  · exact h pins s σ H xs us Q I rs q
  · exact h' pins s σ H xs us Q I rs q
/-! ### the call of a builtin's method: o.m(..) -/
variable {o e : Expr} {es : List Expr} {to : TE} {t : TA} {name : Str} {apos cpos : Pos} {T id : String} {r : V → List V → Hp → VK → Prop}
end
end L2

namespace L2
open PySem PySem.Spec PyProof.Rows

def MtM (X : Cx) (id : String) (r : V → List V → Hp → VK → Prop) : Prop :=
  ∀ (pins : List (Addr × Obj)) (s : Shared) (σ : St) (H : Hp) (x : V) (xs : List V) (v : Value) (us : List Value) (Q : VK), Inv X pins σ H s → RelV x v → Vals xs us → r x xs H Q →
    wpAny (model X.prog X.w) X.A (call (.builtin id) (v :: us)) (EP X pins σ Q) X.xe s

/-! ### lists of values -/
theorem Vals.one : ∀ {x : V} {us : List Value}, Vals [x] us → ∃ u, us = [u] ∧ RelV x u
  | _, _, .cons r .nil => ⟨_, rfl, r⟩
section
variable {X : Cx} {pins : List (Addr × Obj)} {σ : St} {H : Hp} {s : Shared} {l b : Addr} {xs ys zs : List V}

/-! ### the two steps: a tracked list is rewritten, a new list is laid -/
theorem Inv.lset {its its' : List Value} {n : Nat} {f : Array Value → Array Value} {t' : Nat} (I : Inv X pins σ H s) (hH : H l = some (.lst xs))
    (e : s.heap.get? l = some { cls := .type "list", data := .seq its.toArray n }) (hf : f its.toArray = its'.toArray) (hv : Vals ys its') (hz : ys.length ≤ sizeLine) :
    Inv X pins σ (upd H l (.lst ys)) { s with heap := s.heap.update l (Obj.mapSeq f), toks := t' } := by
  have q := PySem.IsL.update e f
  rw [hf] at q
  refine I.write (x := l) (e := l) (by rw [hH]; exact trivial) (.inl rfl) (fun b' u hb hu => (Heap.get?_update_other s.heap (Obj.mapSeq f) (Ne.symm hb)).trans hu) ⟨_, q⟩ ?_
  exact ⟨hz, its', _, hv, q⟩
theorem Inv.lnew {its : List Value} {t' : Nat} (I : Inv X pins σ H s) (hv : Vals ys its) (hz : ys.length ≤ sizeLine) :
    Inv X pins σ (upd H s.heap.objs.size (.lst ys)) { s with heap := s.heap.push { cls := .type "list", data := .seq its.toArray }, toks := t' } :=
  I.laid (fun _ _ q => Heap.get?_push_of_some _ q) (Nat.le_refl _) ⟨hz, its, 0, hv, Heap.get?_push_size _ rfl⟩
theorem Inv.fresh (I : Inv X pins σ H s) : H s.heap.objs.size = none := I.hok.fresh (Nat.le_refl _)
theorem Inv.lstM (I : Inv X pins σ H s) (hH : H l = some (.lst xs)) : xs.length ≤ sizeLine ∧ ∃ (its : List Value) (n : Nat), Vals xs its ∧ xs.length = its.length ∧ s.heap.get? l = some { cls := .type "list", data := .seq its.toArray n } := by
  obtain ⟨z, its, n, r, e⟩ := I.hok l _ hH
  exact ⟨z, its, n, r, r.length, e⟩

theorem notLongL {n : Nat} (h : n ≤ sizeLine) : Builtin.List.listTooLong n = false := by
  unfold Builtin.List.listTooLong
  exact decide_eq_false (by omega)
end

section
variable {X : Cx}

/-! ### methods -/
def rAppend : V → List V → Hp → VK → Prop := fun x vs H Q => ∃ l xs y, x = .ref l ∧ vs = [y] ∧ H l = some (.lst xs) ∧ xs.length < sizeLine ∧ Q .non (upd H l (.lst (xs ++ [y])))
theorem mt_append : MtM X "list.append" rAppend := by
  intro pins s σ H x vs v us Q I rx rv h
  obtain ⟨l, xs, y, rfl, rfl, hH, hz, q⟩ := h
  cases rx
  obtain ⟨u, rfl, ru⟩ := rv.one
  obtain ⟨z, its, n, r, hl, e⟩ := I.lstM hH
  refine call_meets F.slot_list_append ⟨_, e, rfl⟩ F.entry_list_append (F.args_list_append_2 _ _) (PySem.list_append l its.toArray n u (by rw [List.size_toArray]; omega)) ⟨e, ?_⟩
  refine ⟨.non, _, I.lset (its' := its ++ [u]) hH e (by simp) (r.append (.cons ru .nil)) ?_, rfl, q⟩
  rw [List.length_append, List.length_singleton]
  omega

/-! ### list + list, list += list, list * int -/
def rCat : R2 := fun x y H Q => ∃ l b xs zs, x = .ref l ∧ y = .ref b ∧ H l = some (.lst xs) ∧ H b = some (.lst zs) ∧ xs.length + zs.length ≤ sizeLine ∧ ∀ p, H p = none → Q (.ref p) (upd H p (.lst (xs ++ zs)))
theorem op_cat : OpR X (binaryOp .Add) rCat := by
  intro pins s σ H x y v u Q I rx ry h
  obtain ⟨l, b, xs, zs, rfl, rfl, hH, hB, hz, q⟩ := h
  cases rx
  cases ry
  obtain ⟨z, its, n, r, hl, e⟩ := I.lstM hH
  obtain ⟨z2, its2, n2, r2, hl2, e2⟩ := I.lstM hB
  refine PySem.P.add_list e e2 ?_ (by rw [List.size_toArray, List.size_toArray]; omega)
  have ea : its.toArray ++ its2.toArray = (its ++ its2).toArray := by simp
  rw [ea]
  exact ⟨.ref _, _, I.lnew (t' := s.toks) (r.append r2) (by rw [List.length_append]; omega), rfl, q _ I.fresh⟩
/-! ### del xs[i] -/
end

/-! ### xs[a:b] = ys -/
section
variable {prog : Program} {w : World} {A : Around} {E : Value → Shared → Prop} {s : Shared}
theorem bounds_run {a c n : Nat} (hac : a ≤ c) (hc : c ≤ n) : sliceBounds (some (a : Int)) (some (c : Int)) none n = ((a : Int), (c : Int), 1) := by
  simp only [sliceBounds, Option.getD_none]
  have h1 : ¬ ((a : Int) < 0) := by omega
  have h2 : ¬ ((c : Int) < 0) := by omega
  simp only [h1, h2, if_false, show (1 : Int) > 0 by decide, if_true]
  congr 1
  · omega
  · congr 1; omega
set_option maxRecDepth 100000 in
/-- list.__setitem__ with a slice of step one and another list -/
theorem setItem_slice {l b sl : Addr} {items new : Array Value} {n n2 : Nat} {vl vu : Value} {a c : Nat} {Q : Unit → Shared → Prop}
    (e : s.heap.get? l = some { cls := .type "list", data := .seq items n }) (e2 : s.heap.get? b = some { cls := .type "list", data := .seq new n2 }) (hne : l ≠ b)
    (hs : s.heap.IsSliceOf sl vl vu .none) (pl : IsPart vl (some (a : Int))) (pu : IsPart vu (some (c : Int))) (hac : a ≤ c) (hc : c ≤ items.size)
    (hsz : items.size + new.size ≤ sizeLine) (h : Q () { s with heap := s.heap.update l (Obj.mapSeq fun xs => xs.extract 0 a ++ new ++ xs.extract c xs.size) }) :
    wpAny (model prog w) A (setItem (.ref l) (.ref sl) (.ref b)) Q E s := by
  have hl : s.heap.IsList l items := PySem.IsL.isList e
  have hb : s.heap.IsList b new := PySem.IsL.isList e2
  obtain ⟨os, hos, hcs, hds⟩ := id hs
  have hTs : s.TypeIs (.ref sl) "slice" := ⟨os, hos, hcs⟩
  have hstep : ¬ ((rawPart none == rawInt 0) = true) := Bool.false_ne_true
  have hsame : Builtin.List.listSameRef (.ref l) (.ref b) = false := by
    unfold Builtin.List.listSameRef
    exact beq_eq_false_iff_ne.mpr hne
  have hmax : (max (a : Int) (c : Int)).toNat = c := by omega
  have hz' : ((fun xs : Array Value => xs.extract 0 a ++ new ++ xs.extract c xs.size) items).size ≤ sizeLine + 1 := by
    simp only [Array.size_append, Array.size_extract]
    omega
  unfold setItem
  try with_reducible refine wpAny_holding ?_
  first | refine wpAny_bind (wpAny_pure ?_) | skip
  refine wpAny_bind (wpAny_sequenceKey hl.typeIs (by decide) ?_)
  refine wpAny_bind (wpAny_callSpecial?_slot (name := Str.ofString "__setitem__") hl.typeIs slot_list_setitem
    (wpAny_call_entry slot_list_setitem hl.typeIs entry_list_setitem ?_ (args_list_setitem _ _ _)))
  show wpAny _ _ (Builtin.List.listSubscript? (.ref sl) >>= _) _ _ s
  refine wpAny_bind ?_
  unfold Builtin.List.listSubscript?
  refine wpAny_bind (wpAny_specialOf hTs slice_no_index ?_)
  simp only [Option.isNone_none, if_true]
  refine wpAny_pure ?_
  show wpAny _ _ (typeOf (.ref sl) >>= _) _ _ s
  refine wpAny_bind (wpAny_typeOf hTs ?_)
  first
    | rw [if_neg (by decide)]
    | refine PySem.W.KFB.if_not (by decide) ?_
  rw [listSliceParts_eq]
  refine wpAny_bind (wpAny_bind (wpAny_field hos hds (x := .none) rfl (wpAny_bind (wpAny_listPart .none ?_))))
  rw [if_neg hstep]
  refine wpAny_bind (wpAny_field hos hds (x := vl) rfl (wpAny_bind (wpAny_listPart pl ?_)))
  refine wpAny_bind (wpAny_field hos hds (x := vu) rfl (wpAny_bind (wpAny_listPart pu (wpAny_pure ?_))))
  first
    | simp only [hsame, Bool.false_eq_true, if_false]
    | refine PySem.W.KFB.if_not hsame ?_
    | (dsimp only
       rw [if_neg (by rw [hsame]; exact Bool.false_ne_true)])
  refine wpAny_bind (m := Builtin.List.listAllItems (.ref b) "must assign iterable to extended slice") ?_
  unfold Builtin.List.listAllItems
  refine wpAny_bind (wpAny_typeOf hb.typeIs ?_)
  first
    | refine PySem.W.KFB.if_so (by decide) ?_
    | rw [if_pos (by decide)]
    | simp only [beq_self_eq_true, Bool.true_or, if_true]
  unfold Builtin.List.listItems
  refine wpAny_bind (wpAny_seqItems e2 rfl (wpAny_pure ?_))
  refine wpAny_bind (wpAny_bind (wpAny_seqItems e rfl (wpAny_pure ?_)))
  refine wpAny_bind (wpAny_of_eq ((sliceIndices_raw (some (a : Int)) (some (c : Int)) none items.size (by simp)).trans (congrArg (pure : Int × Int × Int → Sem (Int × Int × Int)) (bounds_run hac hc))) ?_)
  show wpAny _ _ (if ((1 : Int) == 1) = true then _ else _) _ _ s
  rw [if_pos (by decide)]
  refine wpAny_bind (wpAny_rule ?_)
  first
    | simp only [notLongL hsz, Bool.false_eq_true, if_false]
    | refine PySem.W.KFB.if_not (notLongL hsz) ?_
  first | refine wpAny_bind (wpAny_pure ?_) | skip
  show wpAny _ _ (updateSeq l (fun xs => xs.extract 0 ((a : Int)).toNat ++ new ++ xs.extract (max (a : Int) (c : Int)).toNat xs.size) >>= _) _ _ s
  rw [hmax, Int.toNat_natCast]
  refine wpAny_bind (wpAny_updateSeq (hz := Nat.le_trans (Nat.le_add_right _ _) hsz) (_hz' := hz') e rfl ?_)
  refine wpAny_bind (wpAny_letGo ?_)
  first
    | exact wpAny_bind (wpAny_pure (wpAny_pure ⟨.none, rfl, wpAny_pure h⟩))
    | exact wpAny_pure ⟨.none, rfl, wpAny_pure h⟩
end

section
variable {X : Cx}
end
end L2

namespace Att
open PySem PySem.W PySem.Calls PyProof.Rows

/-! ### the script -/
theorem ints_of_wellAll {P : Params} {h : Heap} : ∀ (ns : List Int) (vs : List Value), WellAll P h vs (ns.map WData.int) → IntsAre vs ns := by
  intro ns
  induction ns with
  | nil =>
    intro vs w
    rw [List.map_nil] at w
    cases w
    exact .nil
  | cons n ns ih =>
    intro vs w
    rw [List.map_cons] at w
    cases w with
    | cons a b =>
      cases a
      exact .cons _ _ (ih _ b)

theorem script_of {l : OpenLaw} {n : Nat} (hn : l.most = some n) {P : Params} {h : Heap} {args : List WData} {vals : List Value}
    (hpre : l.row.toRowW.claim.pre args = true) (hwl : WellAll P h vals args) :
    ∃ a vs ns, vals = [Value.ref a] ∧ args = [WData.list (ns.map WData.int)] ∧ h.get? a = some { cls := .type "list", data := .seq vs.toArray } ∧ IntsAre vs ns ∧ ns.length ≤ n := by
  have hsh : WShape.hasAll [] args [.list .int] = true := (pre_splitW hpre).1
  have hc : l.pre.holds [] { args := args } = true := (pre_splitW hpre).2
  obtain ⟨d, r, rfl, h1, h2⟩ := hasAllW_cons hsh
  obtain rfl := hasAllW_nil h2
  obtain ⟨xs, rfl, h3⟩ := hasW_list h1
  obtain ⟨ns, rfl⟩ := items_int h3
  have hlen : ns.length ≤ n := by
    unfold OpenLaw.pre at hc
    have h4 : (WTm.not (.lt (.lit (.int (n : Int))) (.len (.arg 0)))).holds [] { args := [.list (ns.map .int)] } = true := by
      have h4 := (holds_andW hc).1
      rw [hn] at h4
      exact h4
    have h5 := condW_of h4 (w_not (w_lt w_lit (w_len_list (w_arg rfl))))
    rw [List.length_map] at h5
    refine Nat.le_of_not_lt fun q => ?_
    have q' : (n : Int) < ((ns.length : Nat) : Int) := by omega
    first
      | (rw [decide_eq_true q'] at h5; exact absurd h5 (by decide))
      | (simp at h5; omega)
  cases hwl with
  | cons w1 w2 =>
    cases w2
    cases w1 with
    | list ho hall => exact ⟨_, _, ns, rfl, rfl, ho, ints_of_wellAll ns _ hall, hlen⟩

theorem post_true (l : OpenLaw) (args : List WData) : l.row.toRowW.claim.post args (.bool true) args = true :=
  postW_of (r := l.row.toRowW) (X := (true == true))
    (show WShape.has [] (.bool true) .bool = true by first | rfl | decide | simp [WShape.has, WShape.arms, WShape.armsAll])
    (show (WTm.eq .res (.lit (.bool true))).value [] { args := args, res := some (.bool true), after := args } = some (.bool (true == true)) from w_eq_bool (w_res rfl) w_lit) rfl

/-! ### the attachment: holds_open's last premise (the goal 'hc' behind k_head) from a wpAny of the law's body -/
/-- the same from a codeAny of the CALL (for a layer whose function contracts speak of calls) -/
theorem attach_call {l : OpenLaw} {n : Nat} {q : Program} {loose : List Str} {XP : (Str → Option Value) → Heap → Prop} {YP : World → Heap → Prop} {d : DefRec}
    (hn : l.most = some n) (hdf : d.params.defaults = [])
    (call : ∀ (w : World) (s₀ s₁ : Shared) (mg mb : Str → Option Value) (fa : Addr) (o : Obj) (pm cd doc : Value) (a : Addr) (vs : List Value) (ns : List Int),
      Ground q loose [] XP w s₀ mg mb s₁.heap → YP w s₁.heap →
      s₁.heap.get? fa = some o → o.data = .func (docDef d.name d.params d.body d.scope pm cd doc) → s₁.heap.CodeRec cd d.name → mg d.name = some (.ref fa) →
      s₁.heap.get? a = some { cls := .type "list", data := .seq vs.toArray } → IntsAre vs ns → ns.length ≤ n → s₁.gens = #[] →
      codeAny (model l.prog w) callerA (.call (.ref fa) ⟨[.ref a], []⟩) (fun r s' => r = .ok (.ret (.bool true)) ∧ OldK s₁.heap s'.heap ∧ s'.os = s₁.os ∧ AllBare s'.gens) s₁) :
    WalkO q loose XP YP l.row.toRowW d [] (fun f vs => PySem.call f vs) := by
  intro w s₀ s₁ mg mb G Y fa o pm cd doc dV kV ho hd hcd hD hmg hg args vals as hpre hlay hrd hwl hlo
  obtain rfl : dV = .none := Dflts.none hD hdf
  obtain rfl : kV = .none := Dflts.noKw hD
  obtain ⟨a, vs, ns, rfl, rfl, hobj, hints, hlen⟩ := script_of hn hpre hwl
  refine enter_call (codeAny_mono (call w s₀ s₁ mg mb fa o pm cd doc a vs ns G Y ho (fd_plain hd) hcd hmg hobj hints hlen hg) fun r s' hq => ?_)
  obtain ⟨rfl, h2, h3, h4⟩ := hq
  exact ⟨.inl ⟨.bool true, .bool true, [], rfl, fun _ => rfl, .bool true, post_true l _, fun _ => ⟨List.Pairwise.nil, fun _ hm => (nomatch hm)⟩⟩, h2, h3, h4⟩

/-! ### rules over ANY heap (no ledger) from facts about the written part K: the library's own take a ledger (News) for what they write -/
section
variable {prog : Program} {w : World} {A : Around} {E : Value → Shared → Prop} {s : Shared} {K : Frag}

/-! the whole heap as the ledger: makes every rule that writes through a ledger a rule over any heap -/
def ledger (h : Heap) (L d : Addr) : List (Addr × Obj) := (List.range h.objs.size).filterMap fun a => if a = L ∨ a = d then none else (h.get? a).map fun o => (a, o)
end
end Att

namespace L2
open PySem PySem.Spec PyProof.Rows

theorem vals_ints : ∀ {vs : List Value} {ns : List Int}, IntsAre vs ns → Vals (ns.map V.int) vs
  | _, _, .nil => .nil
  | _, _, .cons n t h => .cons ⟨t, rfl⟩ (vals_ints h)

/-- nothing is tracked but the script, known to the object (or it is an object of the module) -/
def Only (H : Hp) : Prop := ∀ b, H b = none ∨ ∃ o xs, H b = some (.frz o (.lst xs))

/-- THE HEAD: the law's promise, at the heap behind the top. F, the promise of the law's def, may use that base is part of the heap (so K.In base, base.Ns mainGlobals mg stand in Mod) -/
theorem law_call {P : Program} {w : World} {K : PySem.W.Frag} {mg mb : Str → Option Value} {CX : CXT} {k : Nat} {fa a : Addr} {fd : FuncData} {x : Str} {sp : Sp} {s₁ : Shared} {vs : List Value} {ns : List Int}
    (KX : K.In s₁.heap) (hns : s₁.heap.Ns mainGlobals mg) (hb : s₁.heap.Ns builtinsNs mb) (hbb : ∀ x : Str, x ≠ "__name__" → mb x = bootBuiltins x) (hlim : s₁.heap.NoLimit) (hg : s₁.gens = #[])
    (ha : s₁.heap.get? a = some { cls := .type "list", data := .seq vs.toArray }) (hi : IntsAre vs ns) (hl : ns.length ≤ sizeLine) (hr : Room k callerA)
    (F : ∀ base : Heap, K.In base → base.Ns mainGlobals mg → FnOk P w K mg base CX k fa fd [x] sp) (hbind : ∀ (s : Shared) (u : Value), BindsTo s fd ⟨[u], []⟩ [(x, u)])
    (hsp : ∀ H : Hp, Only H → SqL K H a (ns.map V.int) → sp [.ref a] H (fun v _ => v = .bl true) fun _ _ _ => False)
    (hCX : ∀ H e s', CX [] H s₁ (fun _ _ _ => False) e s' → False) :
    codeAny (model P w) callerA (.call (.ref fa) ⟨[.ref a], []⟩) (fun r s' => r = .ok (.ret (.bool true)) ∧ OldK s₁.heap s'.heap ∧ s'.os = s₁.os ∧ AllBare s'.gens) s₁ := by
  have rv := vals_ints hi
  have lenV := hi.length
  -- from an abstract heap in which nothing but the script may be tracked
  have core : ∀ H : Hp, Only H → SqL K H a (ns.map V.int) → HOk P w H s₁.heap → (∀ b, H b ≠ none → b = a) → (H a ≠ none → K.lookup a = none) →
      codeAny (model P w) callerA (.call (.ref fa) ⟨[.ref a], []⟩) (fun r s' => r = .ok (.ret (.bool true)) ∧ OldK s₁.heap s'.heap ∧ s'.os = s₁.os ∧ AllBare s'.gens) s₁ := by
    intro H hO hS hok hA hK
    have base_of : ∀ {b : Addr} {o : Obj}, s₁.heap.get? b = some o → H b = none → (hidT s₁.heap H).get? b = some o := fun e n => hidT_get e n
    have noA : ∀ {b : Addr} {o : Obj} {es : Array DictEntry} {ep : Nat}, s₁.heap.get? b = some o → o.data = .dict es ep → H b = none := fun {b o es ep} e d => by
      cases q : H b with
      | none => rfl
      | some u =>
        have e' : b = a := hA b (by rw [q]; simp)
        subst e'
        rw [ha] at e; cases e
        have d' : Data.seq vs.toArray _ = Data.dict es ep := d
        cases d'
    have nsK : ∀ {b : Addr} {m : Str → Option Value}, s₁.heap.Ns b m → (hidT s₁.heap H).Ns b m := fun {b m} ⟨o, es, ep, e, d, r⟩ => ⟨o, es, ep, base_of e (noA e d), d, r⟩
    have hKb : K.In (hidT s₁.heap H) := fun b o e => base_of (KX b o e) (by
      cases q : H b with
      | none => rfl
      | some u =>
        have e' : b = a := hA b (by rw [q]; simp)
        subst e'
        rw [hK (by rw [q]; simp)] at e; cases e)
    have hM : Mod K mg (hidT s₁.heap H) := ⟨hKb, nsK hns, ⟨mb, nsK hb, hbb⟩, let ⟨mc, h1, h2⟩ := hlim; ⟨mc, nsK h1, h2⟩⟩
    have e0 : Env0 P w K mg (hidT s₁.heap H) callerA [] s₁ H := ⟨rfl, hM, fun b o e => of_hidT e, Nat.le_of_eq (hidT_size _ _), trivial, fun b hb => absurd (show b ∈ ([] : List Addr) from hb) (by simp), hok, .of_eq hg⟩
    refine codeAny_mono ((F _ hKb (nsK hns)).run callerA [] s₁ H ⟨[.ref a], []⟩ [.ref a] [.ref a] _ _ hr e0 (hbind s₁ (.ref a)) (.cons rfl .nil) (hsp H hO hS)) fun r s' h => ?_
    cases r with
    | error e => exact (hCX H e s' h).elim
    | ok fl =>
      cases fl with
      | next => exact False.elim h
      | brk => exact False.elim h
      | cont => exact False.elim h
      | ret u =>
        obtain ⟨v, H', os, bare, un, hok', r', q⟩ := h
        have q' : v = .bl true := q
        subst q'
        obtain rfl : u = Value.bool true := r'
        refine ⟨rfl, OldK.of_keep fun b o e => ?_, os, bare⟩
        cases q : H b with
        | none => exact un.keep b o e q (by intro z; exact absurd (show b ∈ ([] : List Addr) from z) (by simp)) (by simp)
        | some u =>
          rcases hO b with z | ⟨ob, xs, z⟩
          · rw [q] at z; cases z
          · have z2 := un.frzs b ob _ z
            obtain ⟨e1, _⟩ := hok b _ z
            obtain ⟨e2, _⟩ := hok' b _ z2
            rw [e] at e1; cases e1
            exact e2
  cases hk : K.lookup a with
  | some o =>
    -- the script is one of the module's own objects
    have e := KX a o hk
    rw [ha] at e
    cases e
    refine core (fun _ => none) (fun _ => .inl rfl) (.inr ⟨_, vs.toArray, _, hk, rfl, rfl, rfl, by rw [List.size_toArray, lenV]; exact hl, by simpa using rv⟩) (fun b u z => by have z' : (none : Option HO) = some u := z; cases z') (fun b z => absurd rfl z) fun z => absurd rfl z
  | none =>
    refine core (fun b => if b = a then some (.frz { cls := .type "list", data := .seq vs.toArray } (.lst (ns.map V.int))) else none) (fun b => ?_) (.inl (.inr ⟨{ cls := .type "list", data := .seq vs.toArray }, if_pos rfl⟩)) (fun b u z => ?_) (fun b z => ?_) fun _ => hk
    · by_cases hb : b = a
      · exact .inr ⟨_, _, if_pos hb⟩
      · exact .inl (if_neg hb)
    · by_cases hb : b = a
      · have z' := (if_pos hb).symm.trans z
        cases z'
        subst hb
        exact ⟨ha, by rw [List.length_map]; exact hl, vs, _, rv, ha⟩
      · have z' := (if_neg hb).symm.trans z
        cases z'
    · by_cases hb : b = a
      · exact hb
      · exact absurd (if_neg hb) z
end L2

namespace L2
open PySem PySem.Spec PyProof.Rows

abbrev KOf {K : PySem.W.Frag} {h : Heap} (_ : K.In h) : PySem.W.Frag := K

/-- the goal that k_head leaves (case hc), from the law's promise. F gives the function object fd (K's own) once, then the promise over every base -/
theorem walk_of {l : PySem.W.OpenLaw} {n k : Nat} {q : Program} {loose : List Str} {XP : (Str → Option Value) → Heap → Prop} {YP : World → Heap → Prop} {d : DefRec} {K : Params → PySem.W.Frag} {CX : World → CXT} {sp : World → Sp} {x : Str}
    (hn : l.most = some n) (hn2 : n ≤ sizeLine) (hdf : d.params.defaults = []) (hr : Room k callerA)
    (hY : ∀ (w : World) (h : Heap), YP w h → (K w.params).In h)
    (F : ∀ (w : World) (mg : Str → Option Value) (fa : Addr) (h : Heap), (K w.params).In h → h.Ns mainGlobals mg → mg d.name = some (.ref fa) →
      ∃ fd : FuncData, (∀ (s : Shared) (u : Value), BindsTo s fd ⟨[u], []⟩ [(x, u)]) ∧
        ∀ base : Heap, (K w.params).In base → base.Ns mainGlobals mg → FnOk l.prog w (K w.params) mg base (CX w) k fa fd [x] (sp w))
    (hsp : ∀ (w : World) (H : Hp) (a : Addr) (ns : List Int), ns.length ≤ n → Only H → SqL (K w.params) H a (ns.map V.int) → sp w [.ref a] H (fun v _ => v = .bl true) fun _ _ _ => False)
    (hCX : ∀ (w : World) (H : Hp) (s : Shared) (e : Value) (s' : Shared), CX w [] H s (fun _ _ _ => False) e s' → False) :
    PySem.W.WalkO q loose XP YP l.row.toRowW d [] (fun f vs => PySem.call f vs) := by
  refine Att.attach_call hn hdf fun w s₀ s₁ mg mb fa o pm cd doc a vs ns G Y ho hd hcd hmg hobj hints hlen hg => ?_
  have KX := hY w _ Y
  obtain ⟨fd, hb, hF⟩ := F w mg fa _ KX G.T.g hmg
  exact law_call KX G.T.g G.T.b G.T.builtins G.T.nolimit hg hobj hints (Nat.le_trans hlen hn2) hr hF hb (fun H hO hS => hsp w H a ns hlen hO hS) fun H e s' => hCX w H s₁ e s'
end L2

/- THE LAST THEOREM (shape; LID, My.* are yours):
   My.Adr: a structure of the addresses that your layer names (classes, functions); My.Txt K t: a structure (Prop) of the equations over K;
   My.txt_mk : {K} {implicit addresses ..} (e1 : nsIn K mainGlobals "law" = some (some (.ref f))) (e2 : K.lookup f = some ⟨oc, od, .func (fnOf "law" "law" params body scope dV kV doc pm an cdv ct), sl⟩) (e3 : codeIn K cdv "law" = true) .. : ∃ t, My.Txt K t

set_option maxRecDepth 100000 in
set_option maxHeartbeats 0 in
theorem PySem.Challenge.cw_LID_holds : PySem.Challenge.rw_LID.Holds := by
  w_on; o_law; k_head; (case hw => w_witness2)
  k_fill
  refine L2.walk_of (l := PySem.Challenge.rw_LID) (n := 63) (k := 40) (x := "script") (CX := fun w => ..) (sp := fun _ => My.sp_law) rfl (by decide) rfl ⟨rfl, by decide, by decide⟩ (fun w h Y => PySem.W.kIn_of Y) ?F ?S ?C
  case F =>
    intro w mg fa h KX G hmg
    have T : ∃ t, My.Txt (L2.KOf KX) t := by
      dsimp only [L2.KOf]                          -- K must stand as «<heap const> w.params» for k_is
      refine' My.txt_mk ?e1 ?e2 ?e3 ..
      (case e1 => PySem.W.k_is)                    -- in the order: a name -> its address -> its object -> its parts
      (case e2 => PySem.W.k_is)
      ..
    obtain ⟨t, T⟩ := T
    have e0 := hmg.symm.trans (PySem.W.mg_of KX G T.law)
    cases e0                                       -- fa is the law's own address
    exact ⟨_, fun s u => .of_eq rfl, fun base kb nb => My.law_fn T kb nb⟩     -- if «.of_eq rfl» comes too early: refine' ⟨_, ?b, fun base kb nb => My.law_fn T kb nb⟩; exact fun s u => .of_eq rfl
  case S => exact fun w H a ns hl hO hS => ..
  case C => exact ..
(the tactic k_is has no namespace: write k_is) -/

/-! SHORT WORDS over the layer: a def of the text, its body, what a loop and a test want. -/
namespace L2
open PySem PySem.Spec PyProof.Rows

/-! ### the text by places -/
def defArgs (s : Stmt) : Arguments := match s with
  | .FunctionDef _ a _ _ _ _ _ _ _ _ => a
  | _ => { posonlyargs := [], args := [], vararg := none, kwonlyargs := [], kw_defaults := [], kwarg := none, defaults := [] }
def defBody (s : Stmt) : List Stmt := match s with
  | .FunctionDef _ _ b _ _ _ _ _ _ _ => b
  | _ => []
def defScope (s : Stmt) : Scope := match s with
  | .FunctionDef _ _ _ _ _ _ sc _ _ _ => sc
  | _ => { kind := .function, names := [], isGenerator := false, isCoroutine := false }

/-! ### no exception leaves a def -/
abbrev CX0 : CXT := fun _ _ _ _ _ _ => False
/-! ### a def (or method) of the text as it stands behind the top -/
structure Fun (K : PySem.W.Frag) (x qual : Str) (st : Stmt) (f : Addr) (fd : FuncData) : Prop where
  ex : ∃ (oc : Value) (od : Option Addr) (kV doc pm : Value) (an : Option Addr) (cdv ct : Value) (osl : Array (Option Value)),
    fd = PySem.W.fnOf x qual (defArgs st) (defBody st) (defScope st) .none kV doc pm an cdv ct ∧ K.lookup f = some ⟨oc, od, .func fd, osl⟩ ∧ PySem.W.codeIn K cdv qual = true
  kp : PySem.W.keepIn K (.ref f) = true
section
variable {P : Program} {w : World} {K : PySem.W.Frag} {mg : Str → Option Value} {base : Heap}
/-- THE RULE for a def: its body as a term of rules, and the reading of that term -/
theorem Fun.ok {x qual : Str} {st : Stmt} {f : Addr} {fd : FuncData} {N ps : List Str} {k : Nat} {sp : Sp} (F : Fun K x qual st f fd) (S : FnScope N ps (defScope st)) (len : ∀ vs H Q E, sp vs H Q E → vs.length = ps.length)
    (hbody : ∀ (cdv : Value) (A : Around) (outer : List Env) (s : Shared) (H : Hp) (vs : List V) (Q : VK) (E : XK), Room k (A.deeper (envOfC qual (defScope st) s.heap.objs.size f cdv)) → sp vs H Q E →
      ∃ t, PSs (cxOf CX0 P w K mg base N qual (defScope st) f cdv A outer s H E).nox (defBody st) t ∧ t { nx := fun _ H' => Q .non H', rt := Q } (start N vs) H) : FnOk P w K mg base CX0 (k + 1) f fd ps sp := by
  obtain ⟨oc, od, kV, doc, pm, an, cdv, ct, osl, rfl, lk, hcd⟩ := F.ex
  refine fn_of lk hcd S len fun A outer s H vs Q E hr hsp => ?_
  obtain ⟨t, h, q⟩ := hbody cdv A outer s H vs Q E hr hsp
  exact ⟨t, h.nox, q⟩
/-- how its arguments bind (no defaults): h is «fun _ _ _ _ _ _ us hl => match us, hl with | [_, _], _ => rfl», one _ a parameter -/
theorem Fun.binds {x qual : Str} {st : Stmt} {f : Addr} {fd : FuncData} {ps : List Str} (F : Fun K x qual st f fd)
    (h : ∀ (kV doc pm : Value) (an : Option Addr) (cdv ct : Value) (us : List Value), us.length = ps.length → bindArgs (PySem.W.fnOf x qual (defArgs st) (defBody st) (defScope st) .none kV doc pm an cdv ct) ⟨us, []⟩ = pure (ps.zip us)) : Binds K fd ps [] := by
  obtain ⟨oc, od, kV, doc, pm, an, cdv, ct, osl, rfl, lk, hcd⟩ := F.ex
  exact .all (h kV doc pm an cdv ct)
theorem fun_mk {x qual : Str} {st : Stmt} {f : Addr} {oc : Value} {od an : Option Addr} {osl : Array (Option Value)} {kV doc pm cdv ct : Value} (l : K.lookup f = some ⟨oc, od, .func (PySem.W.fnOf x qual (defArgs st) (defBody st) (defScope st) .none kV doc pm an cdv ct), osl⟩)
    (c : PySem.W.codeIn K cdv qual = true) (k : PySem.W.keepIn K (.ref f) = true) : Fun K x qual st f (PySem.W.fnOf x qual (defArgs st) (defBody st) (defScope st) .none kV doc pm an cdv ct) := ⟨⟨oc, od, kV, doc, pm, an, cdv, ct, osl, rfl, l, c⟩, k⟩
end
theorem hu_of {A : Around} {k : Nat} (hr : Room k A) : A.units + 1 < cLine := Nat.lt_of_le_of_lt (Nat.add_le_add_left (by decide : 1 ≤ 64) _) hr.units
theorem small1000 {n : Nat} (h : n ≤ 1000) : n < sizeLine := Nat.lt_of_le_of_lt h (by decide)

/-! ### expressions in short: the name that stands in the i-th slot -/
section
variable {X : Cx}
theorem pv (i : Nat) {x : Str} {pos : Pos} (hN : X.N[i]? = some x := by rfl) (hv : Vis X.env.scope x := by first | exact Or.inl rfl | exact Or.inr (Or.inl rfl) | exact Or.inr (Or.inr rfl)) (hd : (x == ("__debug__" : Str)) = false := by decide)
    (hcd : (x == ("__classdict__" : Str)) = false := by decide) : PE X (.Name x pos) (tVar i) := pe_var hN hv hd hcd
end

/-! ### tests -/
/-! ### heaps -/
/-- all that was tracked is as it was -/
def Same (H H' : Hp) : Prop := ∀ b o, H b = some o → H' b = some o
theorem Same.refl (H : Hp) : Same H H := fun _ _ h => h
theorem Same.trans {H H1 H2 : Hp} (a : Same H H1) (b : Same H1 H2) : Same H H2 := fun c o h => b c o (a c o h)
theorem Same.free {H H' : Hp} (e : Same H H') {l : Addr} (h : H' l = Option.none) : H l = Option.none := by
  cases q : H l with
  | none => rfl
  | some o =>
    rw [e l o q] at h
    cases h
theorem Same.seq {K : PySem.W.Frag} {H H' : Hp} {a : Addr} {xs : List V} (e : Same H H') (h : SqL K H a xs) : SqL K H' a xs := by
  rcases h with (h | ⟨o, h⟩) | h
  · exact .inl (.inl (e _ _ h))
  · exact .inl (.inr ⟨o, e _ _ h⟩)
  · exact .inr h

end L2

set_option maxHeartbeats 4000000

/-! ## EXCEPTIONS over the layer: raised, passed on through frames, caught. -/
namespace L2
open PySem PySem.Spec PyProof.Rows
theorem ObjOk.is {P : Program} {w : World} {H : Hp} {h : Heap} {a : Addr} {o : HO} (x : ObjOk P w H h a o) : ∃ ob, h.get? a = some ob := by
  cases o with
  | lst xs => obtain ⟨_, _, _, _, e⟩ := x; exact ⟨_, e⟩
  | tup xs => obtain ⟨_, _, _, ob, e, _⟩ := x; exact ⟨_, e⟩
  | dK kvs => obtain ⟨_, _, _, _, o, _, _, e, _⟩ := x; exact ⟨_, e⟩
  | dT kvs => obtain ⟨_, _, _, _, o, _, _, e, _⟩ := x; exact ⟨_, e⟩
  | set S n => obtain ⟨o, _, _, _, e, _⟩ := x; exact ⟨_, e⟩
  | ins C dx fs => obtain ⟨_, _, _, e, _⟩ := x; exact ⟨_, e⟩
  | own y => obtain ⟨_, e⟩ := x; exact ⟨_, e⟩
  | xd fs => obtain ⟨_, ⟨_, _, _, e, _⟩, _⟩ := x; exact ⟨_, e⟩
  | rng lo hi => obtain ⟨_, _, _, e⟩ := x; exact ⟨_, e⟩
  | frz ob u => obtain ⟨e, _⟩ := x; exact ⟨_, e⟩
  | tbl ps => exact ⟨_, (show h.get? a = some _ from x)⟩
  | met f y => exact ⟨_, (show h.get? a = some _ from x)⟩
  | ext φ => obtain ⟨_, ⟨_, e⟩, _⟩ := x; exact ⟨_, e⟩

/-- an exception in flight at ea, of the class cls: the frames of l are still to be left; B: all that stays as it is (all but those frames, the exception and its traces) -/
structure Fly (P : Program) (w : World) (l : List Env) (H : Hp) (s : Shared) (ea : Addr) (cls : Value) (H' : Hp) (s' : Shared) : Prop where
  os : s'.os = s.os
  bare : AllBare s'.gens
  un : Un (frs l) [] H H' s.heap s'.heap
  ex : ∃ B a0, Heap.FlyingW B l ea cls a0 s'.heap ∧ HOk P w H' B ∧ (∀ b o, s.heap.get? b = some o → H b = none → b ∉ frs l → B.get? b = some o) ∧
    ∀ b o, s.heap.get? b = some o → b ∉ frs l → ∃ o', B.get? b = some o'
/-- a def's own frame -/
structure Cx.Own (X : Cx) : Prop where
  stk : X.stack = X.env :: X.outer
  fr : X.env.frame = some X.env.locals
  ex : X.ex = []
section
variable {X : Cx} {pins : List (Addr × Obj)} {σ : St} {H H' : Hp} {s s' : Shared} {ea : Addr} {cls a0 : Value} {B h1 h2 h' : Heap} {M : Model} {E : Value → Shared → Prop} {Q : Unit → Shared → Prop}
/-- out of the frame -/
theorem Inv.fly_out (W : X.Own) (I : Inv X pins σ H s) (u : Un (frs X.stack) [] H H' s.heap h1) (up : h1.UpToSlots s'.heap) (ff : h1.FunFrames B X.stack) (fl : Heap.FlyingW B X.outer ea cls a0 s'.heap) (hok : HOk X.prog X.w H' B)
    (kp : ∀ b o, s.heap.get? b = some o → H b = none → b ∉ frs X.stack → B.get? b = some o) (th : ∀ b o, s.heap.get? b = some o → b ∉ frs X.stack → ∃ o', B.get? b = some o') (os : s'.os = s.os) (bare : AllBare s'.gens) :
    Fly X.prog X.w X.outer X.H₀ X.s₀ ea cls H' s' := by
  have nst : ∀ b o, X.s₀.heap.get? b = some o → b ∉ frs X.outer → b ∉ frs X.stack := fun b o e hb z => by
    rcases List.mem_cons.mp (I.stkSub b z) with q | q
    · exact absurd q (Nat.ne_of_lt (Nat.lt_of_lt_of_le (Heap.lt_size e) I.ok.above))
    · exact hb q
  have nx : ∀ b, b ∉ X.ex := fun b => by rw [W.ex]; simp
  have nn : ∀ b : Addr, b ∉ ([] : List Addr) := fun b => by simp
  have inS : ∀ b, b ∈ frs X.outer → b ∈ frs X.stack := fun b hb => by
    rw [W.stk]
    obtain ⟨env, he, hf⟩ := List.mem_filterMap.mp hb
    exact List.mem_filterMap.mpr ⟨env, List.mem_cons_of_mem _ he, hf⟩
  have kpo : ∀ b o, X.s₀.heap.get? b = some o → X.H₀ b = none → b ∉ frs X.outer → B.get? b = some o := fun b o e n hb =>
    kp b o (I.base.keep b o e n hb (nx b)) (I.base.free b o e n (nx b)) (nst b o e hb)
  refine ⟨os.trans I.os, bare, ⟨fun b o e n hb _ => fl.1 b o (kpo b o e n hb), fun b o e n hb _ => ?_, fun b o e n _ => ?_, fun b o e _ => ?_, fun b xs e => u.tups b xs (I.base.tups b xs e), fun b o xs e => u.frzs b o xs (I.base.frzs b o xs e), fun b ps e => ?_⟩,
    B, a0, fl, hok, kpo, fun b o e hb => ?_⟩
  · obtain ⟨sl, e1⟩ := I.base.slot b o e n hb (nx b)
    obtain ⟨sl2, e2⟩ := u.any e1 (I.base.free b o e n (nx b)) (nn b)
    obtain ⟨_, o', ho', hnf⟩ := ff.mem (inS b hb)
    rw [e2] at ho'
    cases ho'
    obtain ⟨sl3, e3⟩ := up b _ e2 hnf
    exact ⟨sl3, e3⟩
  · obtain ⟨o', e1⟩ := I.base.there b o e (nx b)
    exact u.free b o' e1 (I.base.free b o e n (nx b)) (nn b)
  · obtain ⟨o1, e1⟩ := I.base.there b o e (nx b)
    by_cases hb : b ∈ frs X.stack
    · obtain ⟨_, o', ho', hnf⟩ := ff.mem hb
      obtain ⟨sl3, e3⟩ := up b _ ho' hnf
      exact ⟨_, e3⟩
    · obtain ⟨o2, e2⟩ := th b o1 e1 hb
      exact ⟨o2, fl.1 b o2 e2⟩
  · obtain ⟨m1, e1⟩ := I.base.tbls b ps e
    obtain ⟨m2, e2⟩ := u.tbls b _ e1
    exact ⟨m1 ++ m2, by rw [e2, Array.append_assoc]⟩
  · obtain ⟨o1, e1⟩ := I.base.there b o e (nx b)
    exact th b o1 e1 (nst b o e hb)

theorem fly_on (W : X.Own) (I : Inv X pins σ H s) (F : Fly X.prog X.w X.stack H s ea cls H' s')
    (hQ : ∀ h', Fly X.prog X.w X.outer X.H₀ X.s₀ ea cls H' { s' with heap := h' } → Q () { s' with heap := h' }) : wpAny M X.A (leaving X.env (.ref ea)) Q E s' := by
  obtain ⟨B, a0, fl, hok, kp, th⟩ := F.ex
  have fl2 := fl
  rw [W.stk] at fl2
  refine wpAny_leaves_onW (by rw [I.ok.frames, W.stk]) W.fr fl2 fun h' fl' up => hQ h' ?_
  exact I.fly_out W F.un up fl.2.2.1 fl' hok kp th F.os F.bare

/-- what is kept of the heap while an exception made here flies -/
theorem Inv.hide (I : Inv X pins σ H s) : HOk X.prog X.w H (PySem.W.hideAll s.heap (frs X.stack)) ∧
    s.heap.FunFrames (PySem.W.hideAll s.heap (frs X.stack)) X.stack := by
  refine ⟨fun a u e => (I.hok a u e).stay (fun b v hc q => PySem.W.hideAll_get _ q fun z => ?_) (fun _ q => q) fun _ _ q => q, PySem.W.funFrames_hide I.stack fun env he a ha => List.mem_filterMap.mpr ⟨env, he, ha⟩⟩
  have n := I.stkFree b z
  rcases hc with rfl | hc
  · rw [n] at e; cases e
  · rw [n] at hc; cases hc

theorem fly_new (W : X.Own) (I : Inv X pins σ H s) {args : List Value} (hx : Heap.MadeExcOf s.heap h2 ea cls args)
    (hQ : ∀ h', Fly X.prog X.w X.outer X.H₀ X.s₀ ea cls H { s with heap := h' } → Q () { s with heap := h' }) : wpAny M X.A (leaving X.env (.ref ea)) Q E { s with heap := h2 } := by
  obtain ⟨hok, ff⟩ := I.hide
  have ff2 := ff
  rw [W.stk] at ff2
  refine wpAny_leaves_madeW (s := { s with heap := h2 }) (base := PySem.W.hideAll s.heap (frs X.stack)) (h := s.heap) (by rw [I.ok.frames, W.stk]) W.fr (fun b o q => PySem.W.of_hideAll _ q) (by rw [← W.stk]; exact ff) hx fun h' t fl tup bt up => hQ h' ?_
  exact I.fly_out (s' := { s with heap := h' }) W (Un.kept hx.keeps) up (ff.of_keeps fun b o e _ => ⟨o, hx.keeps b o e, rfl⟩) fl hok (fun b o e _ hb => PySem.W.hideAll_get _ e hb) (fun b o e hb => ⟨o, PySem.W.hideAll_get _ e hb⟩) rfl I.bare
end

/-- how an exception lies behind a call -/
def CXE (P : Program) (w : World) : CXT := fun l H s E e s' => ∃ ea cls H', e = .ref ea ∧ Fly P w l H s ea cls H' s' ∧ E cls none H'
/-- what is wanted of exceptions in X: Ek, of the names' values, the class, the heap -/
structure Lv (X : Cx) (Ek : St → XK) : Prop where
  call : ∀ pins σ ea cls H H' s s', Inv X pins σ H s → Fly X.prog X.w X.stack H s ea cls H' s' → Ek σ cls none H' → X.xe (.ref ea) s'
structure LvR (X : Cx) (Ek : St → XK) : Prop extends Lv X Ek where
  new : ∀ pins σ ea cls args H s h2, Inv X pins σ H s → Heap.MadeExcOf s.heap h2 ea cls args → Ek σ cls none H → X.xe (.ref ea) { s with heap := h2 }
theorem lv_def {P : Program} {w : World} {K : PySem.W.Frag} {mg : Str → Option Value} {base : Heap} {N : List Str} {qual : Str} {scope : Scope} {f : Addr} {cd : Value} {A : Around} {outer : List Env} {s : Shared} {H : Hp} {E : XK} :
    LvR (cxOf (CXE P w) P w K mg base N qual scope f cd A outer s H E) (fun _ => E) := by
  have W : (cxOf (CXE P w) P w K mg base N qual scope f cd A outer s H E).Own := ⟨rfl, rfl, rfl⟩
  refine ⟨⟨fun pins σ ea cls H1 H' s1 s' I F q => ?_⟩, fun pins σ ea cls args H1 s1 h2 I hx q => ?_⟩
  · exact fly_on W I F fun h' F => ⟨ea, cls, H', rfl, F, q⟩
  · exact fly_new W I hx fun h' F => ⟨ea, cls, H1, rfl, F, q⟩
section
variable {X : Cx} {Ek : St → XK} {k : Nat} {f C : Addr} {fd : FuncData} {ps : List Str} {sp : Sp} {dvs : List V} {ds : List Value} {x : Str} {p pos : Pos} {e : Expr} {es : List Expr} {t : TA}
theorem run_fnX {pins : List (Addr × Obj)} {σ : St} {H : Hp} {s : Shared} {Q : VK} {us : List Value} {vs : List V} (L : Lv X Ek) (F : FnOk X.prog X.w X.K X.mg X.base (CXE X.prog X.w) k f fd ps sp) (hr : Room k X.A) (hb : Binds X.K fd ps ds) (hd : Vals dvs ds)
    (I : Inv X pins σ H s) (r : Vals vs us) (h : sp (vs ++ dvs) H Q (Ek σ)) : wpAny (model X.prog X.w) X.A (call (.ref f) us) (EP X pins σ Q) X.xe s := by
  have r2 : Vals (vs ++ dvs) (us ++ ds) := r.append hd
  have hl : (us ++ ds).length = ps.length := by rw [← r2.length]; exact F.len _ _ _ _ h
  refine wpAny_call (codeAny_mono (F.run X.A X.stack s H ⟨us, []⟩ (us ++ ds) (vs ++ dvs) Q (Ek σ) hr I.env0 (hb s us I.kIn hl) r2 h) fun r s' hq => ?_)
  cases r with
  | error e =>
    obtain ⟨ea, cls, H', rfl, fl, q⟩ := hq
    exact L.call pins σ ea cls H H' s s' I fl q
  | ok fl =>
    cases fl with
    | ret u => exact I.after hq
    | next => exact False.elim hq
    | brk => exact False.elim hq
    | cont => exact False.elim hq
/-- f(e, ..); exceptions go to Ek -/
def tCallX (sp : Sp) (dvs : List V) (Ek : St → XK) (t : TA) : TE := fun σ H Q => t σ H fun vs H1 => sp (vs ++ dvs) H1 Q (Ek σ)
theorem pe_callX (L : Lv X Ek) (F : FnOk X.prog X.w X.K X.mg X.base (CXE X.prog X.w) k f fd ps sp) (hr : Room k X.A) (hg : Gl X x) (hm : X.mg x = some (.ref f)) (hk : PySem.W.keepIn X.K (.ref f) = true) (hb : Binds X.K fd ps ds) (hd : Vals dvs ds)
    (ha : PA X (e :: es) t) (hdb : (x == ("__debug__" : Str)) = false := by decide) (he : starEach (e :: es) X.env = (false, eval e X.env) :: starEach es X.env := by rfl) (hpl : (backTo pos (starEach es X.env)).any (·.1) = false := by rfl) :
    PE X (.Call (.Name x p) (e :: es) [] pos) (tCallX sp dvs Ek t) := by
  intro pins s σ H Q I h
  refine wpAny_Call_Name_kw (ld_glob I hg hm ?_ hdb)
  refine PySem.W.callWith_K (h₀ := X.base) I.ok.mod.kin hk (thn (ha pos pins s σ H _ I h) fun us s1 ⟨vs, H1, I1, r, q⟩ => ⟨I1.kIn, ?_⟩) he hpl
  exact run_fnX L F hr hb hd I1 r q
/-! ### raise C(e, ..), C a class of the text under ValueError without an __init__ of its own -/
/-- the class of an exception: where it stands, that it is made plainly -/
structure Exc (K : PySem.W.Frag) (C : Addr) : Prop where
  ok : ∃ bmB newId initId, ExcBaseFacts "ValueError" newId initId bmB ∧ PySem.W.excIn K C bmB newId = true
def sRaise (C : Addr) (Ek : St → XK) (t : TA) : TS := fun _ σ H => t σ H fun vs H1 => vs.length ≤ sizeLine ∧ Ek σ (.ref C) none H1
end

/-! ### caught -/
/-- an exception that lies there, of the class cls -/
def excAt (ea : Addr) (cls : Value) : HO := .ext fun h => ∃ o vs, h.get? ea = some o ∧ o.cls = cls ∧ o.data = .fields vs
section
variable {X : Cx} {pins : List (Addr × Obj)} {σ : St} {H H' : Hp} {s s' : Shared}
/-- another wish, other pins, other code around -/
abbrev Cx.other (X : Cx) (pn : List (Addr × Obj)) (xe : Value → Shared → Prop) : Cx := { X with pn := pn, xe := xe }
abbrev Cx.suite (X : Cx) (ea : Addr) : Cx := { X with A := X.A.mark (some (.ref ea)), calm := false, xe := fun _ _ => False }
theorem Cx.Ok.other (ok : X.Ok) (pn : List (Addr × Obj)) (xe : Value → Shared → Prop) : (X.other pn xe).Ok :=
  ⟨ok.mod, ok.kind, ok.glob, ok.blt, ok.above, ok.inj, ok.has, ok.cab, ok.hd, ok.frames, ok.stk, ok.exf, ok.bs, ok.bsz, ok.noex, ok.exfs, ok.funs, ok.frf⟩
theorem Cx.Ok.unother {pn : List (Addr × Obj)} {xe : Value → Shared → Prop} (ok : (X.other pn xe).Ok) : X.Ok :=
  ⟨ok.mod, ok.kind, ok.glob, ok.blt, ok.above, ok.inj, ok.has, ok.cab, ok.hd, ok.frames, ok.stk, ok.exf, ok.bs, ok.bsz, ok.noex, ok.exfs, ok.funs, ok.frf⟩
theorem Cx.Ok.suite (ok : X.Ok) (ea : Addr) : (X.suite ea).Ok :=
  ⟨ok.mod, ok.kind, ok.glob, ok.blt, ok.above, ok.inj, ok.has, ok.cab, fun h => (by cases h), ok.frames, ok.stk, ok.exf, ok.bs, ok.bsz, ok.noex, ok.exfs, ok.funs, ok.frf⟩
theorem Inv.other (I : Inv X pins σ H s) (xe : Value → Shared → Prop) : Inv (X.other (X.pn ++ pins) xe) [] σ H s :=
  ⟨I.ok.other _ _, I.os, I.bare, I.base, I.loc, I.cell, I.free, I.freeC, fun p hp => I.pin p (by simpa using hp), I.hok, I.len⟩
theorem Inv.unother {xe : Value → Shared → Prop} {pins' : List (Addr × Obj)} (I : Inv (X.other (X.pn ++ pins) xe) pins' σ H s) : Inv X pins σ H s :=
  ⟨I.ok.unother, I.os, I.bare, I.base, I.loc, I.cell, I.free, I.freeC, fun p hp => I.pin p (List.mem_append_left _ hp), I.hok, I.len⟩
theorem Inv.suite (I : Inv X pins σ H s) (ea : Addr) : Inv (X.suite ea) pins σ H s :=
  ⟨I.ok.suite ea, I.os, I.bare, I.base, I.loc, I.cell, I.free, I.freeC, I.pin, I.hok, I.len⟩
end

section
variable {X : Cx} {body suite : List Stmt} {b₀ : Stmt} {n xn : Str} {i : Nat} {C : Addr} {tb : (St → XK) → TS} {ts : TS} {np hpos pos : Pos}
end
end L2
namespace L2
open PySem PySem.Spec PyProof.Rows
/-- THE RULE for a def that may raise: its body as a term of rules, and the reading of that term -/
theorem Fun.okX {P : Program} {w : World} {K : PySem.W.Frag} {mg : Str → Option Value} {base : Heap} {x qual : Str} {st : Stmt} {f : Addr} {fd : FuncData} {N ps : List Str} {k : Nat} {sp : Sp} (F : Fun K x qual st f fd) (S : FnScope N ps (defScope st)) (len : ∀ vs H Q E, sp vs H Q E → vs.length = ps.length)
    (hbody : ∀ (cdv : Value) (A : Around) (outer : List Env) (s : Shared) (H : Hp) (vs : List V) (Q : VK) (E : XK), LvR (cxOf (CXE P w) P w K mg base N qual (defScope st) f cdv A outer s H E) (fun _ => E) → Room k (A.deeper (envOfC qual (defScope st) s.heap.objs.size f cdv)) → sp vs H Q E →
      ∃ t, PSs (cxOf (CXE P w) P w K mg base N qual (defScope st) f cdv A outer s H E) (defBody st) t ∧ t { nx := fun _ H' => Q .non H', rt := Q } (start N vs) H) : FnOk P w K mg base (CXE P w) (k + 1) f fd ps sp := by
  obtain ⟨oc, od, kV, doc, pm, an, cdv, ct, osl, rfl, lk, hcd⟩ := F.ex
  exact fn_of lk hcd S len fun A outer s H vs Q E hr hsp => hbody cdv A outer s H vs Q E lv_def hr hsp
end L2

/-! ## MORE RULES over the layer: isinstance, any, ... -/
namespace L2
open PySem PySem.Spec PyProof.Rows
theorem bb_len : bootBuiltins "len" = some (.builtin "len") := by decide +kernel
theorem bb_min : bootBuiltins "min" = some (.builtin "min") := by decide +kernel
theorem bb_isinstance : bootBuiltins "isinstance" = some (.builtin "isinstance") := by decide +kernel
theorem bb_int : bootBuiltins "int" = some (.type "int") := by decide +kernel
theorem bb_bool : bootBuiltins "bool" = some (.type "bool") := by decide +kernel
theorem bb_tuple : bootBuiltins "tuple" = some (.type "tuple") := by decide +kernel
theorem bb_list : bootBuiltins "list" = some (.type "list") := by decide +kernel
/-! ### the class of an exception that lies there -/
open PySem.Builtin PySem.Builtin.ObjectAttr PySem.Builtin.Getset_descriptor
structure ExcCls (K : PySem.W.Frag) (D : Addr) : Prop where
  cls : (PySem.W.clsIn K D).isSome = true
  ga : PySem.W.findIn K (.ref D) "__getattribute__" = some (some (.builtin "BaseException.__getattribute__"))
  gt : PySem.W.findIn K (.ref D) "__getattr__" = some none
  cl : PySem.W.findIn K (.ref D) "__class__" = some (some (.builtin "object.__class__"))
  mo : PySem.W.mroIn K D (.type "object") = some true
  mb : PySem.W.mroIn K D (.type "BaseException") = some true
section
variable {prog : Program} {w : World} {A : Around} {E : Value → Shared → Prop} {h : Heap} {g : Array GenState} {d : Drawn} {t : Nat} {os : OsState} {K : PySem.W.Frag} {a D : Addr} {o : Obj}
theorem exc_ty {M : Model} (hx : h.get? a = some o) (hc : o.cls = .ref D) : PySem.W.Looks M h (typeOf (.ref a)) (.ref D) := hc ▸ (PySem.W.Looks.ld hx).andThen .now
theorem exc_class_get {R : Result → Shared → Prop} (X : K.In h) (C : ExcCls K D) (hx : h.get? a = some o) (hc : o.cls = .ref D) (hq : R (.ok (.ret (.ref D))) ⟨h, g, d, t, os⟩) :
    codeAny (model prog w) A (.call (.builtin "getset_descriptor.__get__") ⟨[.builtin "object.__class__", .ref a, .ref D], []⟩) R ⟨h, g, d, t, os⟩ := by
  have L0 := exc_ty (M := model prog w) hx hc
  have L1 := PySem.W.looks_mroIn (M := model prog w) X C.mo
  have T5 : (⟨h, g, d, t, os⟩ : Shared).TypeIs (.builtin "object.__class__") "getset_descriptor" := F.typeOf_object_class
  refine codeAny_call_builtin F.slot_gs_get.plain F.entry_gs_get (F.slot_gs_get.check _ _ _ _ _ _ _ _ T5 (F.args_gs_get _ _ _) ?_)
  unfold Builtin.«getset_descriptor.__get__» descrGet
  rw [PySem.W.dga_obj]
  refine wpAny_bind (wpAny_pure ?_)
  unfold descrGetter descrCheckInstance descrNameAndClass
  unfold isInstance
  simp only [PySem.W.KF.owner_class]
  repeat lk
  refine ⟨Code.quiet_builtin _ (by decide +kernel), codeAny_builtin F.entry_object_class ?_⟩
  unfold Builtin.«object.__class__»
  unfold shownTypeOf
  repeat lk
  exact hq
theorem exc_class_entry {tk : Tok} {Q : Fin → Shared → Prop} (X : K.In h) (C : ExcCls K D) (hx : h.get? a = some o) (hc : o.cls = .ref D) (hq : Q (.done (.ret (.ref D))) ⟨h, g, d, t, os⟩) :
    wpAny (model prog w) A (Builtin.«object.__getattribute__» ⟨[.ref a, .str "__class__" tk], []⟩) Q E ⟨h, g, d, t, os⟩ := by
  have L0 := exc_ty (M := model prog w) hx hc
  have L1 := PySem.W.looks_findIn (M := model prog w) X C.cl
  have T5 : (⟨h, g, d, t, os⟩ : Shared).TypeIs (.builtin "object.__class__") "getset_descriptor" := F.typeOf_object_class
  have f5 := F.typeOf_object_class
  have f6 := F.slot_gs_get.lookup
  have f7 := F.slot_gs_set.lookup
  repeat (any_goals (first | assumption | (with_reducible refine wpAny_loadPart_at hx ?_; rw [hc]) | with_reducible refine PySem.W.Looks.at L1 ?_ | wp_step))
  refine exc_class_get X C hx hc ?_
  repeat (any_goals (first | assumption | wp_step))
theorem exc_class_call {tk : Tok} {R : Result → Shared → Prop} (X : K.In h) (C : ExcCls K D) (hx : h.get? a = some o) (hc : o.cls = .ref D) (hq : R (.ok (.ret (.ref D))) ⟨h, g, d, t, os⟩)
    (hk : ∀ (Q : Unit → Shared → Prop) (E : Value → Shared → Prop) (A : Around) (nameV : Value), Q () ⟨h, g, d, t, os⟩ → wpAny (model prog w) A (checkBuiltinCall "BaseException.__getattribute__" ⟨[.ref a, nameV], []⟩) Q E ⟨h, g, d, t, os⟩) :
    codeAny (model prog w) A (.call (.builtin "BaseException.__getattribute__") ⟨[.ref a, .str "__class__" tk], []⟩) R ⟨h, g, d, t, os⟩ :=
  codeAny_call_builtin F.excAttr_ValueError.ga.plain F.entry_bexc_ga (hk _ _ _ _ (exc_class_entry X C hx hc hq))
theorem exc_check {M : Model} {nameV : Value} {Q : Unit → Shared → Prop} (X : K.In h) (C : ExcCls K D) (hx : h.get? a = some o) (hc : o.cls = .ref D) (hq : Q () ⟨h, g, d, t, os⟩) :
    wpAny M A (checkBuiltinCall "BaseException.__getattribute__" ⟨[.ref a, nameV], []⟩) Q E ⟨h, g, d, t, os⟩ := by
  have k1 : builtinKind "BaseException.__getattribute__" = some .slot := by decide +kernel
  have k2 : splitId "BaseException.__getattribute__" = some ("BaseException", "__getattribute__") := by decide +kernel
  have L0 := exc_ty (M := M) hx hc
  have L1 := PySem.W.looks_mroIn (M := M) X C.mb
  have k3 := F.args_bexc_ga (.ref a) nameV
  simp only [checkBuiltinCall, k1, k2]
  refine wpAny_bind ?_
  unfold isInstance
  repeat (any_goals (first | assumption | (with_reducible refine wpAny_loadPart_at hx ?_; rw [hc]) | with_reducible refine PySem.W.Looks.at L1 ?_ | wp_step))
theorem exc_class_attr {Q : Option Value → Shared → Prop} (X : K.In h) (C : ExcCls K D) (hx : h.get? a = some o) (hc : o.cls = .ref D) (hq : Q (some (.ref D)) ⟨h, g, d, t + 1, os⟩) :
    wpAny (model prog w) A (getAttr? (.ref a) "__class__") Q E ⟨h, g, d, t, os⟩ := by
  have L0 := exc_ty (M := model prog w) hx hc
  have L1 := PySem.W.looks_findIn (M := model prog w) X C.ga
  have L2 := PySem.W.looks_findIn (M := model prog w) X C.gt
  have f3 := F.excAttr_ValueError.ga.bind (.ref a)
  have x2 : (Value.builtin "BaseException.__getattribute__" == Value.builtin "object.__getattribute__") = false := by decide +kernel
  have x1 : (onTheHeap (Value.ref D) && Value.builtin "BaseException.__getattribute__" == Value.builtin "object.__getattribute__") = false := by rw [x2]; rfl
  have x0 : (false && onTheHeap (Value.builtin "BaseException.__getattribute__")) = false := rfl
  unfold getAttr? getAttrBy?
  repeat (any_goals (first | assumption | (with_reducible refine wpAny_loadPart_at hx ?_; rw [hc]) | with_reducible refine PySem.W.Looks.at L1 ?_ | with_reducible refine PySem.W.Looks.at L2 ?_ | wp_step))
  refine exc_class_call X C hx hc ?_ (fun Q E A n q => exc_check X C hx hc q)
  repeat (any_goals (first | assumption | wp_step))
end

/-- isinstance of an exception that lies there -/
theorem kitx_exc {K : PySem.W.Frag} {a D : Addr} (C : ExcCls K D) : PySem.W.KitX K (.ref a) (.ref D) (fun h => ∃ o vs, h.get? a = some o ∧ o.cls = .ref D ∧ o.data = .fields vs) where
  ty := fun _ _ _ ⟨_, _, h1, h2, _⟩ => exc_ty h1 h2
  it := fun _ _ X _ => by
    obtain ⟨cd, hc⟩ := Option.isSome_iff_exists.mp C.cls
    unfold PySem.W.clsIn at hc
    split at hc
    case h_2 => cases hc
    case h_1 ho =>
      intro A' Q' E' s' k q
      unfold isType loadHead
      exact wpAny_bind (wpAny_loadPart (k _ _ (X _ _ ho)) (wpAny_pure q))
  ne := fun h tp dd its n sl X htp => by
    obtain ⟨cd, hc⟩ := Option.isSome_iff_exists.mp C.cls
    unfold PySem.W.clsIn at hc
    refine Bool.eq_false_iff.mpr fun q => ?_
    obtain rfl : D = tp := Value.ref.inj (beq_iff_eq.mp q)
    split at hc
    case h_2 => cases hc
    case h_1 ho => cases (X _ _ ho).symm.trans htp
  ca := fun {_ _ _ _ _ s} X ⟨_, _, h1, h2, _⟩ k => by
    obtain ⟨h, g, d, t, os⟩ := s
    exact exc_class_attr X C h1 h2 k
/-- what a value's class is -/
inductive TyX (K : PySem.W.Frag) (H : Hp) : V → Value → Prop where
  | old {x : V} {t : Value} (h : TyOf K H x t) : TyX K H x t
  | exc {a D : Addr} (e : H a = some (excAt a (.ref D))) (C : ExcCls K D) : TyX K H (.ref a) (.ref D)
theorem call_isinst {X : Cx} : CallR X (.builtin "isinstance") (fun xs H Q => ∃ x c t cv b, xs = [x, c] ∧ TyX X.K H x t ∧ RelV c cv ∧ PySem.W.kitOne X.K t cv = some b ∧ Q (.bl b) H) := by
  intro pins s σ H xs us Q I r h
  obtain ⟨x, c, t, cv, b, rfl, ty, rc, e, q⟩ := h
  obtain ⟨u, u2, rfl, r1, r2⟩ := vals2 r
  have e2 : u2 = cv := by
    cases c <;> first
      | exact r2.trans rc.symm
      | (exfalso
         obtain ⟨t2, z⟩ := rc
         subst z
         revert e
         unfold PySem.W.kitOne PySem.W.kitCls
         cases ty with
         | exc e C => simp
         | old h => cases h <;> simp)
  subst e2
  cases ty with
  | old h => exact isinst_ok I r1 h e fun tk => ⟨.bl b, H, I.tok tk, rfl, q⟩
  | @exc a D ea C =>
    cases (show u = Value.ref a from r1)
    obtain ⟨p, _⟩ := (show ObjOk X.prog X.w H s.heap a (excAt a (.ref D)) from I.hok a _ ea)
    exact PySem.W.kia_one (kitx_exc C) I.kIn p e (fun z => nomatch z) fun tk => ⟨.bl b, H, I.tok tk, rfl, q⟩
/-- a class of the text -/
structure ClsOk (K : PySem.W.Frag) (C : Addr) : Prop where
  cls : (PySem.W.clsIn K C).isSome = true
  ty : PySem.W.typeIn K (.ref C) = some (.type "type")
  me : PySem.W.mroIn K C (.ref C) = some true
theorem kit_int_int {K : PySem.W.Frag} : PySem.W.kitOne K (.type "int") (.type "int") = some true := by
  unfold PySem.W.kitOne
  rw [if_pos (by decide)]
theorem kit_int_bool {K : PySem.W.Frag} : PySem.W.kitOne K (.type "int") (.type "bool") = some false := by
  unfold PySem.W.kitOne
  rw [if_neg (by decide)]
  kernel_rfl
section
variable {X : Cx}
end
section
variable {X : Cx}
theorem pe_ty {x : Str} {n : String} {pos : Pos} (hg : Gl X x) (hm : X.mg x = none) (hv : bootBuiltins x = some (.type n)) (hn : x ≠ "__name__" := by decide) (hd : (x == ("__debug__" : Str)) = false := by decide) : PE X (.Name x pos) (tC (.ty n)) :=
  pe_bltn (v := .ty n) hg hm hv rfl hn hd
end
theorem cx_K {CX : CXT} {P : Program} {w : World} {K : PySem.W.Frag} {mg : Str → Option Value} {base : Heap} {N : List Str} {qual : Str} {scope : Scope} {f : Addr} {cd : Value} {A : Around} {outer : List Env} {s : Shared} {H : Hp} {E : XK} :
    (cxOf CX P w K mg base N qual scope f cd A outer s H E).K = K := rfl
theorem slT {n : Nat} (h : n ≤ 1000) : (n ≤ sizeLine) = True := eq_true (Nat.le_trans h (by decide))
theorem ixL {K : PySem.W.Frag} {H : Hp} {p : Addr} {xs : List V} {i : Int} {v : V} {Q : VK} (h : SqL K H p xs) (e : atI xs i = some v) (q : Q v H) : rIxL K (.ref p) (.int i) H Q := ⟨p, xs, i, v, rfl, rfl, h, e, q⟩
theorem at_ints {xs : List Int} {i : Int} (h0 : 0 ≤ i) (h1 : i < xs.length) : atI (xs.map V.int) i = some (.int (xs.getD i.toNat 0)) := by
  obtain ⟨k, rfl⟩ := Int.eq_ofNat_of_zero_le h0
  have hk : k < xs.length := by omega
  refine atI_nat ?_
  rw [List.getElem?_map, List.getElem?_eq_getElem hk, Int.toNat_natCast, List.getD_eq_getElem?_getD, List.getElem?_eq_getElem hk]
  rfl
theorem same_new {H : Hp} {p : Addr} (h : H p = none) (o : HO) : Same H (upd H p o) := fun b u q => by rw [upd_ne (ne_of_none q h)]; exact q
theorem scal_ii (a b : Int) : (scal (.int a) (.int b) = true) = True := eq_true rfl
theorem scal_bb (a b : Bool) : (scal (.bl a) (.bl b) = true) = True := eq_true rfl
theorem scal_ss (a b : Str) : (scal (.str a) (.str b) = true) = True := eq_true rfl
theorem scal_ni (b : Int) : (scal .non (.int b) = true) = True := eq_true rfl
theorem scal_in (a : Int) : (scal (.int a) .non = true) = True := eq_true rfl
end L2

/-! ## tuples of ints compared; small rules -/
namespace L2
open PySem PySem.Spec PyProof.Rows
section
variable {X : Cx}
end
theorem same_upd {H H' : Hp} {p : Addr} {o : HO} (s : Same H H') (h : H p = none) : Same H (upd H' p o) := fun b u q => by
  rw [upd_ne (ne_of_none q h)]
  exact s b u q
theorem Same.sqT {K : PySem.W.Frag} {H H' : Hp} {a : Addr} {xs : List V} (e : Same H H') (h : SqT K H a xs) : SqT K H' a xs := by
  rcases h with (h | ⟨o, h⟩) | h
  · exact .inl (.inl (e _ _ h))
  · exact .inl (.inr ⟨o, e _ _ h⟩)
  · exact .inr h
theorem kit_tup_tup {K : PySem.W.Frag} : PySem.W.kitOne K (.type "tuple") (.type "tuple") = some true := by
  unfold PySem.W.kitOne
  rw [if_pos (by decide)]
end L2

/-! ## a cut between statements; a call of a local; rules inside a try -/
namespace L2
open PySem PySem.Spec PyProof.Rows
/-- the statement's end is named once: what follows is read once -/
def tCut (t : TS) : TS := fun D σ H => ∃ R : St → Hp → Prop, t { D with nx := R } σ H ∧ ∀ σ' H', R σ' H' → D.nx σ' H'
theorem ps_cut {X : Cx} {st : Stmt} {t : TS} (h : PS X st t) : PS X st (tCut t) := by
  intro pins s σ H D I q
  obtain ⟨R, q1, q2⟩ := q
  refine thn (h pins s σ H { D with nx := R } I q1) fun f s1 z => ?_
  cases f with
  | next =>
    obtain ⟨σ', H', I', z⟩ := z
    exact ⟨σ', H', I', q2 _ _ z⟩
  | ret v => exact z
  | brk => exact z
  | cont => exact z
section
variable {X : Cx} {Ek : St → XK} {k : Nat} {f : Addr} {fd : FuncData} {ps : List Str} {sp : Sp} {x : Str} {p pos : Pos} {e : Expr} {es : List Expr} {t : TA}
/-- g(e, ..), g a local that holds the def at f -/
def tCallL (i : Nat) (f : Addr) (sp : Sp) (Ek : St → XK) (t : TA) : TE := fun σ H Q => σ[i]? = some (some (.ref f)) ∧ t σ H fun vs H1 => sp vs H1 Q (Ek σ)
end
section
variable {X : Cx} {K : PySem.W.Frag}
end
end L2

/-! ## texts, as lists of their signs' numbers -/
namespace L2
open PySem PySem.Spec PyProof.Rows
/-- the text of these signs -/
def SL (cs : List Nat) : Str := ⟨cs.toArray⟩
theorem SL_inj (a b : List Nat) : (SL a = SL b) = (a = b) := by
  refine propext ⟨fun h => ?_, fun h => by rw [h]⟩
  have := congrArg (fun z : Str => z.cps.toList) h
  exact this
/-- the walk over a text -/
def Its (x : Str) : It := ⟨fun i _ => i < x.cps.size, fun i H v H' => H' = H ∧ ∃ c, x.cps[i]? = some c ∧ v = .str ⟨#[c]⟩, fun i _ => i = x.cps.size⟩
section
variable {X : Cx} {tg : Expr}
def iStr (tl : TE) : TI := fun σ H R => tl σ H fun x H1 => ∃ z, x = .str z ∧ R (Its z) H1
end
/-- the figures of a number -/
def dg (n : Nat) : List Nat := (Nat.toDigits 10 n).map Char.toNat
section
variable {X : Cx}
theorem pe_strL {x : Str} {cs : List Nat} {j pos} (e : x = SL cs) : PE X (.Constant (.str x) j pos) (tC (.str (SL cs))) := e ▸ pe_str
end
def zf (cs : List Nat) (n : Nat) : List Nat := List.replicate (n - cs.length) 48 ++ cs
section
variable {X : Cx}
end
end L2

namespace L2
open PySem PySem.NumText
/-- the last k figures of a number, by the signs' numbers -/
def fig : Nat → Int → List Nat
  | 0, _ => []
  | k + 1, n => (48 + (n / 10 ^ k % 10).toNat) :: fig k n
theorem fig_snoc : ∀ (k : Nat) (n : Int), fig (k + 1) n = fig k (n / 10) ++ [48 + (n % 10).toNat]
  | 0, n => by
    show [48 + (n / 10 ^ 0 % 10).toNat] = [48 + (n % 10).toNat]
    rw [Int.pow_zero, Int.ediv_one]
  | k + 1, n => by
    have e : n / 10 / 10 ^ k = n / 10 ^ (k + 1) := by
      rw [Int.pow_succ, Int.mul_comm, Int.ediv_ediv_of_nonneg (by decide)]
    show (48 + (n / 10 ^ (k + 1) % 10).toNat) :: fig (k + 1) n = ((48 + (n / 10 / 10 ^ k % 10).toNat) :: fig k (n / 10)) ++ _
    rw [fig_snoc k n, e]
    rfl
theorem fig_digits : ∀ (k : Nat) (n : Int), AllDigits (fig k n)
  | 0, _ => fun c h => by cases h
  | k + 1, n => fun c h => by
    rcases List.mem_cons.mp h with rfl | h
    · have := Int.emod_lt_of_pos (n / 10 ^ k) (show (0 : Int) < 10 by decide)
      omega
    · exact fig_digits k n c h
theorem digit_char : ∀ d : Nat, d < 10 → (Nat.digitChar d).toNat = 48 + d := by decide
theorem dg_lt {n : Nat} (h : n < 10) : dg n = [48 + n] := by
  unfold dg
  rw [Nat.toDigits_of_lt_base h, List.map_cons, List.map_nil, digit_char n h]
theorem dg_ge {n : Nat} (h : 10 ≤ n) : dg n = dg (n / 10) ++ [48 + n % 10] := by
  have hm : n % 10 < 10 := Nat.mod_lt n (by decide)
  have t : Nat.toDigits 10 (n / 10) ++ Nat.toDigits 10 (n % 10) = Nat.toDigits 10 (10 * (n / 10) + n % 10) := Nat.toDigits_append_toDigits (by decide) (by omega) hm
  rw [Nat.div_add_mod] at t
  unfold dg
  rw [← t, List.map_append, Nat.toDigits_of_lt_base hm, List.map_cons, List.map_nil, digit_char _ hm]
theorem dg_digits (n : Nat) : AllDigits (dg n) := by
  induction n using Nat.strongRecOn with
  | _ n ih =>
    by_cases h : n < 10
    · rw [dg_lt h]
      intro c hc
      rw [List.mem_singleton] at hc
      omega
    · rw [dg_ge (by omega)]
      intro c hc
      rcases List.mem_append.mp hc with hc | hc
      · exact ih (n / 10) (by omega) c hc
      · rw [List.mem_singleton] at hc
        omega
theorem dg_pos (n : Nat) : 0 < (dg n).length := by
  by_cases h : n < 10
  · rw [dg_lt h]; exact Nat.one_pos
  · rw [dg_ge (by omega), List.length_append]; exact Nat.succ_pos _
theorem getD_in {xs : List Int} {lo hi : Int} (h : ∀ x ∈ xs, lo ≤ x ∧ x ≤ hi) {i : Int} (h0 : 0 ≤ i) (h1 : i < xs.length) : lo ≤ xs.getD i.toNat 0 ∧ xs.getD i.toNat 0 ≤ hi := by
  have hl : i.toNat < xs.length := by omega
  rw [List.getD_eq_getElem?_getD, List.getElem?_eq_getElem hl]
  exact h _ (List.getElem_mem hl)
end L2

/-! ## a list unpacked; str.replace (its arguments' tokens must not be 0) -/
namespace L2
open PySem PySem.Spec PyProof.Rows
section
variable {prog : Program} {w : World} {A : Around} {E : Value → Shared → Prop}
end
section
variable {X : Cx} {pos : Pos}
end
/-! ### where a token has been made -/
def PEt (X : Cx) (e : Expr) (t : TE) : Prop :=
  ∀ (pins : List (Addr × Obj)) (s : Shared) (σ : St) (H : Hp) (Q : VK), 0 < s.toks → Inv X pins σ H s → t σ H Q → wpAny (model X.prog X.w) X.A (eval e X.env) (EP X pins σ Q) X.xe s
def PAt (X : Cx) (es : List Expr) (t : TA) : Prop :=
  ∀ (pos : Pos) (pins : List (Addr × Obj)) (s : Shared) (σ : St) (H : Hp) (Q : List V → Hp → Prop), 0 < s.toks → Inv X pins σ H s → t σ H Q → wpAny (model X.prog X.w) X.A (spliced (backTo pos (starEach es X.env))) (AP X pins σ Q) X.xe s
def PSst (X : Cx) (st : List Stmt) (t : TS) : Prop :=
  ∀ (pins : List (Addr × Obj)) (s : Shared) (σ : St) (H : Hp) (D : Ends), 0 < s.toks → Inv X pins σ H s → t D σ H → wpAny (model X.prog X.w) X.A (execs st X.env) (SP X pins D) X.xe s
section
variable {X : Cx} {a b e o : Expr} {es : List Expr} {te ta tb to : TE} {t : TA} {pos apos cpos : Pos}
end
end L2

/-! ## list comprehensions: the block as a context of its own -/
namespace L2
open PySem PySem.Spec PyProof.Rows
section
variable {prog : Program} {w : World} {A : Around} {R : Result → Shared → Prop} {s : Shared}
abbrev NoE : Value → Shared → Prop := fun _ _ => False
theorem compLoop_go {elt target iter : Expr} {ifs : List Expr} {scope : Scope} {pos : Pos} {it acc : Value} {env : Env} (I : Nat → Shared → Prop)
    (turn : ∀ n s, I n s → wpAny (model prog w) A (pyNext it) (fun r s₁ => match r with
      | none => R (.ok .next) s₁
      | some v => wpAny (model prog w) A (letOwnedTupleGo target it v) (fun _ s₁' => wpAny (model prog w) A (assign target env v) (fun _ s₂ =>
          wpAny (model prog w) A (forIn ifs true fun c r => if r = true then do let ok ← isTrue c env (eval c env); pure (ForInStep.yield ok) else pure (ForInStep.yield r)) (fun ok s₃ =>
            if ok = true then wpAny (model prog w) A (eval elt env) (fun x s₄ =>
              wpAny (model prog w) A (call (.builtin "list.append") [acc, x]) (fun _ s₅ => ∃ m, m < n ∧ I m s₅) NoE s₄) NoE s₃
            else ∃ m, m < n ∧ I m s₃) NoE s₂) NoE s₁') NoE s₁) NoE s)
    (n : Nat) (h : I n s) :
    codeAny (model prog w) A (.compLoop (.ListComp elt [⟨target, iter, ifs, 0⟩] scope pos) 0 it acc env) R s := by
  refine codeAny_loop rfl I (fun n s hI => ?_) n h
  show wpAny _ A ((compTurn (.ListComp elt [⟨target, iter, ifs, 0⟩] scope pos) 0 it acc env).onRaise (fun x => do noteFrame x env; theTreesLotGoes x)) _ _ s
  refine wpAny_noted ?_
  rw [compTurn_list]
  refine wpAny_bind (wpAny_standAt (wpAny_bind (wpAny_mono (turn n s hI) (fun r s₁ h₁ => ?_) fun _ _ h' => h'.elim)))
  cases r with
  | none => exact wpAny_pure h₁
  | some v =>
    refine wpAny_bind (wpAny_mono h₁ (fun _ s₁' h₁' => ?_) fun _ _ h' => h'.elim)
    refine wpAny_bind (wpAny_mono h₁' (fun _ s₂ h₂ => wpAny_bind (wpAny_mono h₂ (fun ok s₃ h₃ => ?_) fun _ _ h' => h'.elim)) fun _ _ h' => h'.elim)
    cases ok with
    | false => exact wpAny_pure ⟨rfl, h₃⟩
    | true =>
      exact wpAny_bind (wpAny_bind (wpAny_mono h₃ (fun x s₄ h₄ => wpAny_bind (wpAny_mono h₄ (fun _ s₅ h₅ => wpAny_pure (wpAny_pure ⟨rfl, h₅⟩)) fun _ _ h' => h'.elim)) fun _ _ h' => h'.elim))
end
/-- what a comprehension's block stands on -/
structure CA where
  cl : List (Str × Addr)
  C : Addr
  s : Shared
  H : Hp
  fp : List Addr
def Cx.comp (X : Cx) (scope : Scope) (N : List Str) (a : CA) : Cx :=
  { X with N := N, s₀ := a.s, H₀ := a.H, env := compEnvC scope a.cl a.C X.env, outer := X.stack, ex := a.fp, fn := fun _ => false, pn := [], xe := NoE }
theorem comp_K {X : Cx} {scope : Scope} {N : List Str} {a : CA} : (X.comp scope N a).K = X.K := rfl
theorem lv_no {X : Cx} : Lv X (fun _ _ _ _ => False) := ⟨fun _ _ _ _ _ _ _ _ _ _ q => q.elim⟩
/-- the names of a block: n of its own, then those at js of the names around it -/
def capOk (outer : List (Str × NameKind)) (oN : List Str) (inner : List (Str × NameKind)) (N : List Str) (n : Nat) (js : List Nat) : Bool :=
  N.length == n + js.length &&
  (inner.all fun p => p.2 != .cell && (p.2 != .local || inner.lookup p.1 == some .local) && (p.2 != .free || (inner.lookup p.1 == some .free && (outer.lookup p.1 == some .cell || outer.lookup p.1 == some .free)))) &&
  (List.range js.length).all fun k => match js[k]?, N[n + k]? with
    | some j, some x => oN[j]? == some x && (outer.lookup x == some .cell || outer.lookup x == some .free) && inner.lookup x == some .free
    | _, _ => false
/-- the values of a block's names at its beginning -/
def capσ (σ : St) (n : Nat) (js : List Nat) : St := List.replicate n none ++ js.map fun j => (σ[j]?).join
def Sub (σ τ : St) : Prop := σ.length = τ.length ∧ ∀ (i : Nat) v, σ[i]? = some (some v) → τ[i]? = some (some v)
theorem sub_nil : Sub [] [] = True := eq_true ⟨rfl, fun i v h => by simp at h⟩
theorem sub_none {σ τ : St} {x : Option V} : Sub (none :: σ) (x :: τ) = Sub σ τ := by
  refine propext ⟨fun h => ⟨by simpa using h.1, fun i v e => by simpa using h.2 (i + 1) v (by simpa using e)⟩, fun h => ⟨by simpa using h.1, fun i v e => ?_⟩⟩
  cases i with
  | zero => simp at e
  | succ i => simpa using h.2 i v (by simpa using e)
theorem sub_some {σ τ : St} {x : V} : Sub (some x :: σ) (some x :: τ) = Sub σ τ := by
  refine propext ⟨fun h => ⟨by simpa using h.1, fun i v e => by simpa using h.2 (i + 1) v (by simpa using e)⟩, fun h => ⟨by simpa using h.1, fun i v e => ?_⟩⟩
  cases i with
  | zero => simpa using e
  | succ i => simpa using h.2 i v (by simpa using e)
/-! ### the cells that a block closes over -/
theorem closure_of {scope : Scope} {env : Env} (h : ∀ p ∈ scope.names, p.2 = NameKind.free → ∃ c, env.cells.lookup p.1 = some c) :
    ∃ cl, closureFor scope env = pure cl ∧ (∀ x c, cl.lookup x = some c → env.cells.lookup x = some c) ∧ ∀ p ∈ scope.names, p.2 = NameKind.free → ∃ c, cl.lookup p.1 = some c := by
  have go : ∀ (names : List (Str × NameKind)) (acc : List (Str × Addr)), (∀ p ∈ names, p.2 = NameKind.free → ∃ c, env.cells.lookup p.1 = some c) → (∀ x c, acc.lookup x = some c → env.cells.lookup x = some c) →
      ∃ cl, (forIn names acc (fun x r => match x with | (name, kind) => if (kind == NameKind.free) = true then do let c ← cellOf env name; pure (ForInStep.yield ((name, c) :: r)) else pure (ForInStep.yield r)) : Sem (List (Str × Addr))) = pure cl ∧
        (∀ x c, cl.lookup x = some c → env.cells.lookup x = some c) ∧ (∀ p ∈ names, p.2 = NameKind.free → ∃ c, cl.lookup p.1 = some c) ∧ ∀ x, (∃ c, acc.lookup x = some c) → ∃ c, cl.lookup x = some c := by
    intro names
    induction names with
    | nil => intro acc _ ha; exact ⟨acc, rfl, ha, fun p hp => absurd hp (by simp), fun _ q => q⟩
    | cons p r ih =>
      intro acc hp ha
      obtain ⟨nm, k⟩ := p
      by_cases hk : k = NameKind.free
      · subst hk
        obtain ⟨c, hc⟩ := hp (nm, .free) List.mem_cons_self rfl
        have ec : cellOf env nm = pure c := by unfold cellOf; rw [hc]
        have ha' : ∀ x c', ((nm, c) :: acc).lookup x = some c' → env.cells.lookup x = some c' := fun x c' e => by
          rw [List.lookup_cons] at e
          cases z : x == nm with
          | true => rw [z] at e; cases e; rw [eq_of_beq z]; exact hc
          | false => rw [z] at e; exact ha x c' e
        obtain ⟨cl, e, q1, q2, q3⟩ := ih ((nm, c) :: acc) (fun p hp' => hp p (List.mem_cons_of_mem _ hp')) ha'
        refine ⟨cl, ?_, q1, fun p hp' hf => ?_, fun x hx => q3 x ?_⟩
        · rw [List.forIn_cons]
          simp only [beq_self_eq_true, if_true, ec]
          exact e
        · rcases List.mem_cons.mp hp' with rfl | hp'
          · exact q3 nm ⟨c, by rw [List.lookup_cons, beq_self_eq_true]⟩
          · exact q2 p hp' hf
        · rw [List.lookup_cons]
          cases z : x == nm with
          | true => exact ⟨c, rfl⟩
          | false => exact hx
      · obtain ⟨cl, e, q1, q2, q3⟩ := ih acc (fun p hp' => hp p (List.mem_cons_of_mem _ hp')) ha
        refine ⟨cl, ?_, q1, fun p hp' hf => ?_, q3⟩
        · rw [List.forIn_cons]
          have z : (k == NameKind.free) = false := by simpa using hk
          simp only [z, Bool.false_eq_true, if_false]
          exact e
        · rcases List.mem_cons.mp hp' with rfl | hp'
          · exact absurd hf hk
          · exact q2 p hp' hf
  obtain ⟨cl, e, q1, q2, _⟩ := go scope.names [] h (fun x c e => by simp at e)
  refine ⟨cl, ?_, q1, q2⟩
  unfold closureFor
  simp only [pure_bind, bind_pure]
  exact e
theorem cap_facts {outer : List (Str × NameKind)} {oN : List Str} {inner : List (Str × NameKind)} {N : List Str} {n : Nat} {js : List Nat} (h : capOk outer oN inner N n js = true) :
    N.length = n + js.length ∧ (∀ p ∈ inner, p.2 ≠ NameKind.cell) ∧ (∀ p ∈ inner, p.2 = NameKind.local → inner.lookup p.1 = some .local) ∧
    (∀ p ∈ inner, p.2 = NameKind.free → inner.lookup p.1 = some .free ∧ (outer.lookup p.1 = some .cell ∨ outer.lookup p.1 = some .free)) ∧
    ∀ k j x, js[k]? = some j → N[n + k]? = some x → oN[j]? = some x ∧ (outer.lookup x = some .cell ∨ outer.lookup x = some .free) ∧ inner.lookup x = some .free := by
  unfold capOk at h
  simp only [Bool.and_eq_true, beq_iff_eq, List.all_eq_true, List.mem_range] at h
  obtain ⟨⟨h1, h2⟩, h3⟩ := h
  refine ⟨h1, fun p hp => by simpa using (h2 p hp).1.1, fun p hp e => ?_, fun p hp e => ?_, fun k j x e1 e2 => ?_⟩
  · have z := (h2 p hp).1.2
    rw [e] at z
    simpa using z
  · have z := (h2 p hp).2
    rw [e] at z
    simpa using z
  · have z := h3 k (List.getElem?_eq_some_iff.mp e1).1
    rw [e1, e2] at z
    simpa [and_assoc] using z
theorem relabel_lookup {scope : Scope} {env : Env} {x : Str} : (relabel scope env).names.lookup x = (scope.names.lookup x).map (fun k => if (k == NameKind.free && env.scope.kind == .function && env.kindOf x == some .cell) = true then NameKind.cell else k) := by
  show (scope.names.map fun (n, k) => if (k == NameKind.free && env.scope.kind == .function && env.kindOf n == some .cell) = true then (n, NameKind.cell) else (n, k)).lookup x = _
  induction scope.names with
  | nil => rfl
  | cons p r ih =>
    obtain ⟨nm, k⟩ := p
    rw [List.map_cons]
    dsimp only
    cases z : x == nm with
    | true =>
      obtain rfl := eq_of_beq z
      by_cases c : (k == NameKind.free && env.scope.kind == .function && env.kindOf x == some .cell) = true
      · simp only [c, if_true, List.lookup_cons, z, Option.map_some]
      · rw [if_neg c]
        simp only [List.lookup_cons, z, Option.map_some, if_neg c]
    | false =>
      by_cases c : (k == NameKind.free && env.scope.kind == .function && env.kindOf nm == some .cell) = true
      · rw [if_pos c]
        simp only [List.lookup_cons, z]
        exact ih
      · rw [if_neg c]
        simp only [List.lookup_cons, z]
        exact ih
section
variable {X : Cx} {scope : Scope} {N : List Str} {n : Nat} {js : List Nat} {pins : List (Addr × Obj)} {σ : St} {H : Hp} {s₃ : Shared} {cl : List (Str × Addr)} {fp : List Addr}
theorem comp_inv (cap : capOk X.env.scope.names X.N scope.names N n js = true) (hkind : scope.kind = .function) (I : Inv X pins σ H s₃) (hc1 : ∀ x c, cl.lookup x = some c → X.env.cells.lookup x = some c)
    (hc2 : ∀ p ∈ scope.names, p.2 = NameKind.free → ∃ c, cl.lookup p.1 = some c) (hf : ∀ b ∈ fp, FpOk X pins H b) (hlt : ∀ b ∈ fp, b < s₃.heap.objs.size) {h₁ : Heap} {t : Nat} {m : Str → Option Value}
    (hns : h₁.Ns s₃.heap.objs.size m) (hk : ∀ b o, s₃.heap.get? b = some o → h₁.get? b = some o) :
    Inv (X.comp scope N ⟨cl, s₃.heap.objs.size, s₃, H, fp⟩) [] (capσ σ n js) H { s₃ with heap := h₁, toks := t } := by
  obtain ⟨k1, k2, k3, k4, k5⟩ := cap_facts cap
  have kf : ∀ x, ((relabel scope X.env).names.lookup x = some .cell ∨ (relabel scope X.env).names.lookup x = some .free) → scope.names.lookup x = some .free := fun x h => by
    rw [relabel_lookup] at h
    cases e : scope.names.lookup x with
    | none => rw [e] at h; simp at h
    | some k =>
      rw [e, Option.map_some] at h
      cases k with
      | free => rfl
      | cell => exact absurd rfl (k2 (x, .cell) (PySem.mem_of_lookup e))
      | «local» => simp at h
      | _ => simp at h
  have bf : ∀ x, scope.names.lookup x = some .free → (relabel scope X.env).names.lookup x = some .cell ∨ (relabel scope X.env).names.lookup x = some .free := fun x h => by
    rw [relabel_lookup, h, Option.map_some]
    split
    · exact .inl rfl
    · exact .inr rfl
  have isC : ∀ c v, s₃.heap.IsCell c v → h₁.IsCell c v := fun c v ⟨o, ho, r⟩ => ⟨o, hk _ _ ho, r⟩
  refine ⟨⟨I.ok.mod, hkind, I.ok.glob, I.ok.blt, Nat.le_refl _, fun x y c e1 e2 => I.ok.inj x y c (hc1 x c e1) (hc1 y c e2), fun x h => hc2 (x, .free) (PySem.mem_of_lookup (kf x h)) rfl, fun x c h => absurd h Bool.false_ne_true, I.ok.hd, I.ok.frames, .inl rfl,
      fun b hb => ⟨Nat.ne_of_lt (hlt b hb), fun x c e => (hf b hb).2.2.2.2.1 x c (hc1 x c e)⟩, I.bs, Nat.le_trans I.ok.bsz I.sz, fun b o e hb => ?_, fun b hb hz => ?_, I.stack, I.stkFree⟩,
    rfl, I.bare, Un.kept hk, ⟨m, hns, fun i x v e1 e2 e3 => ?_⟩, fun x c e => ?_, I.hok.fresh (Nat.le_refl _), fun x c e => I.freeC x c (hc1 x c e), fun p hp => absurd hp (by simp [Cx.comp]), I.hok.kept hk, ?_⟩
  · rcases (hf b hb).2.2.2.1 with z | z
    · exact I.ok.noex b o e z
    · exact absurd (Nat.lt_of_lt_of_le (Heap.lt_size e) (Nat.le_trans I.ok.bsz z)) (Nat.lt_irrefl _)
  · rcases List.mem_cons.mp (I.stkSub b hz) with z | z
    · exact (hf b hb).2.1 z
    · exact (hf b hb).2.2.1 z
  · have e2' : (capσ σ n js)[i]? = some (some v) := e2
    unfold capσ at e2'
    by_cases hi : i < n
    · rw [List.getElem?_append_left (by simpa using hi), List.getElem?_replicate, if_pos hi] at e2'
      cases e2'
    · rw [List.getElem?_append_right (by simpa using hi), List.length_replicate, List.getElem?_map] at e2'
      cases ej : js[i - n]? with
      | none => rw [ej] at e2'; cases e2'
      | some j =>
        rw [ej, Option.map_some] at e2'
        have e4 : (σ[j]?).join = some v := Option.some.inj e2'
        have e5 : σ[j]? = some (some v) := by
          cases q : σ[j]? with
          | none => rw [q] at e4; cases e4
          | some w => rw [q] at e4; rw [show w = some v from e4]
        have e1' : N[n + (i - n)]? = some x := by rw [show n + (i - n) = i by omega]; exact e1
        obtain ⟨c1, c2, c3⟩ := k5 (i - n) j x ej e1'
        obtain ⟨m', hn', hl'⟩ := I.loc
        obtain ⟨u, ru, lk⟩ := hl' j x v c1 e5 (.inr c2)
        refine ⟨u, ru, ?_⟩
        rcases lk with ⟨hk', _⟩ | ⟨_, c, hc, hcell⟩
        · have hk'' : X.env.scope.names.lookup x = some .local := hk'
          rcases c2 with c2 | c2 <;> (rw [hk''] at c2; cases c2)
        · obtain ⟨c', hc'⟩ := hc2 (x, .free) (PySem.mem_of_lookup c3) rfl
          have := hc1 x c' hc'
          rw [hc] at this
          cases this
          exact .inr ⟨bf x c3, c, hc', isC _ _ hcell⟩
  · obtain ⟨v, z⟩ := I.cell x c (hc1 x c e)
    exact ⟨v, isC _ _ z⟩
  · show (capσ σ n js).length = N.length
    unfold capσ
    rw [List.length_append, List.length_replicate, List.length_map, k1]
end
/-! ### the tests of a block -/
def PIf (X : Cx) (ifs : List Expr) (t : TT) : Prop :=
  ∀ (pins : List (Addr × Obj)) (s : Shared) (σ : St) (H : Hp) (Q : Bool → Hp → Prop), Inv X pins σ H s → t σ H Q →
    wpAny (model X.prog X.w) X.A (forIn ifs true fun c r => if r = true then do let ok ← isTrue c X.env (eval c X.env); pure (ForInStep.yield ok) else pure (ForInStep.yield r)) (TP X pins σ Q) X.xe s
def tYes : TT := fun _ H Q => Q true H
theorem pif_one {X : Cx} {c : Expr} {t : TT} (hc : PT X c t) : PIf X [c] t := fun pins s σ H Q I h => wpAny_tests_one (hc pins s σ H Q I h)
/-- a comprehension's reading: W by the turn, a measure, what is told so far -/
def CompR (J : It) (σ0 : St) (g : TG) (tc : TT) (te : TE) (l : Addr) (Q : VK) (H1 : Hp) : Prop :=
  ∃ W : Nat → Nat → List V → Hp → Prop, (∃ m, W 0 m [] (upd H1 l (.lst []))) ∧ ∀ i m xs H, W i m xs H → H l = some (.lst xs) ∧ xs.length < sizeLine ∧
    ((J.stop i H ∧ Q (.ref l) H) ∨ (J.go i H ∧ ∀ x H', J.yld i H x H' → g x σ0 H' fun σ2 H2 => Sub σ0 σ2 ∧ tc σ2 H2 fun b H3 =>
      if b = true then te σ2 H3 fun v H4 => H4 l = some (.lst xs) ∧ ∃ m', m' < m ∧ W (i + 1) m' (xs ++ [v]) (upd H4 l (.lst (xs ++ [v]))) else ∃ m', m' < m ∧ W (i + 1) m' xs H3))
section
variable {X : Cx} {tg elt iter : Expr} {ifs : List Expr} {scope : Scope} {pos : Pos} {N : List Str} {n : Nat} {js : List Nat} {g : CA → TG} {tc : CA → TT} {te : CA → TE}
theorem comp_core {pins : List (Addr × Obj)} {σ : St} {H₁ : Hp} {s₂ : Shared} {E : Value → Shared → Prop} (cap : capOk X.env.scope.names X.N scope.names N n js = true) (hkind : scope.kind = .function) (hcalm : X.calm = true)
    (hg : ∀ a, PG (X.comp scope N a) tg (g a)) (hc : ∀ a, PIf (X.comp scope N a) ifs (tc a)) (he : ∀ a, PE (X.comp scope N a) elt (te a))
    (I : Inv X pins σ H₁ s₂) {it : Addr} {fp : List Addr} {tn : Nat → Heap → Prop} {J : It} (T : Turn X.prog X.w X.K tg J fp it tn) (h0 : tn 0 s₂.heap) (hf : ∀ b ∈ fp, FpOk X pins H₁ b)
    {cl : List (Str × Addr)} (hc1 : ∀ x c, cl.lookup x = some c → X.env.cells.lookup x = some c) (hc2 : ∀ p ∈ scope.names, p.2 = NameKind.free → ∃ c, cl.lookup p.1 = some c)
    {Q : VK} (hq : ∀ l, H₁ l = none → ∀ a, CompR J (capσ σ n js) (g a) (tc a) (te a) l Q H₁)
    {RR : Value → Addr → Result → Shared → Prop}
    (hRR : ∀ l C H' s' m, Inv X pins σ H' s' → s'.heap.Ns C m → H' C = none → C ≠ X.env.locals → X.s₀.heap.objs.size ≤ C → (∀ x c, X.env.cells.lookup x = some c → c ≠ C) → (∀ p ∈ X.pn ++ pins, p.1 ≠ C) → C ∉ X.fs → Q (.ref l) H' → RR (.ref l) C (.ok .next) s') :
    wpAny (model X.prog X.w) X.A (newList []) (fun acc s₃ => wpAny (model X.prog X.w) X.A (newFunctionEnv scope X.env.globals cl [] X.env.qual none .none (some X.env)) (fun cenv s₄ =>
      codeAny (model X.prog X.w) X.A (.compStart (.ListComp elt [⟨tg, iter, ifs, 0⟩] scope pos) 0 (.ref it) acc { cenv with scope := relabel scope X.env }) (RR acc cenv.locals) s₄) E s₃) E s₂ := by
  obtain ⟨k1, k2, k3, k4, k5⟩ := cap_facts cap
  refine wpAny_newObj_type (wpAny_newFunctionEnv k2 (by intro y hy; simp at hy) (fun h₁ hns₁ hsb₁ => ?_) hkind)
  dsimp only at hns₁ hsb₁ ⊢
  obtain ⟨s3, hs3⟩ : ∃ s3 : Shared, s3 = { s₂ with heap := s₂.heap.push { cls := .type "list", dict := none, data := .seq ([] : List Value).toArray } } := ⟨_, rfl⟩
  have eh : s₂.heap.push { cls := .type "list", dict := none, data := .seq ([] : List Value).toArray } = s3.heap := by rw [hs3]
  rw [eh] at hns₁ hsb₁ ⊢
  have kp3 : ∀ b o, s₂.heap.get? b = some o → s3.heap.get? b = some o := fun b o e => by rw [← eh]; exact Heap.get?_push_of_some _ e
  have hl0 : H₁ s₂.heap.objs.size = none := I.hok.fresh (Nat.le_refl _)
  have I3 : Inv X pins σ (upd H₁ s₂.heap.objs.size (.lst [])) s3 := by
    rw [hs3]
    exact I.laid (t' := s₂.toks) (fun b u e => Heap.get?_push_of_some _ e) (Nat.le_refl _) ⟨Nat.zero_le _, [], 0, .nil, Heap.get?_push_size _ rfl⟩
  have fpo : ∀ b ∈ fp, ∃ o, s₂.heap.get? b = some o := fun b hb => let ⟨o, e, _⟩ := T.obj _ _ h0 b hb; ⟨o, e⟩
  have fpl : ∀ b ∈ fp, b ≠ s₂.heap.objs.size := fun b hb z => let ⟨o, e⟩ := fpo b hb; Nat.lt_irrefl _ (z ▸ Heap.lt_size e)
  have hf3 : ∀ b ∈ fp, FpOk X pins (upd H₁ s₂.heap.objs.size (.lst [])) b := fun b hb => ⟨by rw [upd_ne (fpl b hb)]; exact (hf b hb).1, (hf b hb).2⟩
  have hlt3 : ∀ b ∈ fp, b < s3.heap.objs.size := fun b hb => let ⟨o, e⟩ := fpo b hb; Heap.lt_size (kp3 b o e)
  have kp1 : ∀ b o, s3.heap.get? b = some o → h₁.get? b = some o := fun b o e => hsb₁.extBut b o (Nat.ne_of_lt (Heap.lt_size e)) (Heap.get?_push_of_some _ e)
  have IC := comp_inv (t := s3.toks) cap hkind I3 hc1 hc2 hf3 hlt3 hns₁ kp1
  have hCl : X.env.locals < s3.heap.objs.size := I3.lt
  obtain ⟨a, ha⟩ : ∃ a : CA, a = ⟨cl, s3.heap.objs.size, s3, upd H₁ s₂.heap.objs.size (.lst []), fp⟩ := ⟨_, rfl⟩
  rw [← ha] at IC
  have aC : a.C = s3.heap.objs.size := by rw [ha]
  obtain ⟨W, ⟨m0, w0⟩, turn⟩ := hq _ hl0 a
  have tn1 : tn 0 h₁ := T.keep _ _ _ h0 fun b _ o e => kp1 b o (kp3 b o e)
  -- the iterator's records, seen from the block
  have stat : ∀ {H' : Hp}, (∀ b ∈ fp, H' b = none) → ∀ b ∈ fp, FpOk (X.comp scope N a) [] H' b := fun {H'} hn b hb =>
    ⟨hn b hb, by show b ≠ a.C; rw [aC]; exact Nat.ne_of_lt (hlt3 b hb), fun hz => by
        rcases List.mem_cons.mp (I3.stkSub b hz) with z | z
        · exact (hf b hb).2.1 z
        · exact (hf b hb).2.2.1 z, .inl (by show b ∈ a.fp; rw [ha]; exact hb), fun x c e => (hf b hb).2.2.2.2.1 x c (hc1 x c (by rw [ha] at e; exact e)), fun p hp => absurd hp (by simp [Cx.comp])⟩
  have loop : ∀ s4 : Shared, s4 = { s3 with heap := h₁, toks := s3.toks } →
      codeAny (model X.prog X.w) X.A (.compLoop (.ListComp elt [⟨tg, iter, ifs, 0⟩] scope pos) 0 (.ref it) (.ref s₂.heap.objs.size) (X.comp scope N a).env) (RR (.ref s₂.heap.objs.size) s3.heap.objs.size) s4 := by
    rintro s4 rfl
    refine compLoop_go (fun k s' => ∃ i xs H', Inv (X.comp scope N a) [] (capσ σ n js) H' s' ∧ tn i s'.heap ∧ (∀ b ∈ fp, H' b = none) ∧ W i k xs H') ?_ m0 ⟨0, [], _, IC, tn1, fun b hb => (hf3 b hb).1, w0⟩
    rintro k s5 ⟨i, xs, H5, I5, t5, f5, w5⟩
    obtain ⟨hl5, hz5, alt⟩ := turn i k xs H5 w5
    rcases alt with ⟨stop, qn⟩ | ⟨go, step⟩
    · refine thn (T.done (X.comp scope N a) rfl rfl rfl hcalm i [] s5 _ H5 NoE I5 (stat f5) t5 stop) fun r s6 ⟨hr, I6⟩ => ?_
      subst hr
      obtain ⟨m6, hn6, _⟩ := I6.loc
      have hn6' : s6.heap.Ns s3.heap.objs.size m6 := by rw [← aC]; exact hn6
      have u6 : Un (frs X.stack) fp (upd H₁ s₂.heap.objs.size (.lst [])) H5 s3.heap s6.heap := by
        have z := I6.base
        rw [ha] at z
        exact z
      have os6 : s6.os = s3.os := by
        have z := I6.os
        rw [ha] at z
        exact z
      have I7 : Inv X pins σ H5 s6 := I3.call' os6 u6 I6.hok I6.bare fun b hb => ⟨(hf b hb).2.2.2.1, (hf b hb).2.1, (hf b hb).2.2.2.2.1, (hf b hb).2.2.2.2.2⟩
      refine hRR _ _ H5 s6 m6 I7 hn6' (by have z := I6.free; rw [show (X.comp scope N a).env.locals = s3.heap.objs.size from aC] at z; exact z) (Nat.ne_of_gt hCl) I3.sz (fun x c e z => ?_) (fun p hp z => ?_) (I3.nofs (Nat.le_refl _)) qn
      · obtain ⟨v, q⟩ := I3.cell x c e
        exact Nat.lt_irrefl _ (z ▸ q.lt)
      · exact Nat.lt_irrefl _ (z ▸ Heap.lt_size (I3.pin p hp).1)
    · refine thn (T.item (X.comp scope N a) rfl rfl rfl hcalm i [] s5 _ H5 NoE I5 (stat f5) t5 go) fun r s6 ⟨u, hr, h6⟩ => ?_
      subst hr
      refine thn h6 fun _ s7 ⟨x, H7, I7, r7, y7, t7, f7⟩ => ?_
      have I7' := I7.pinned (stat f7) (T.obj _ _ t7)
      rw [List.nil_append] at I7'
      refine thn (hg a _ s7 _ H7 x u _ I7' r7 (step x H7 y7)) fun _ s8 ⟨σ8, H8, I8, sub8, q8⟩ => ?_
      refine thn (hc a _ s8 σ8 H8 _ I8 q8) fun ok s9 ⟨H9, I9, q9⟩ => ?_
      have back : ∀ {σ' : St} {H' : Hp} {s' : Shared}, Inv (X.comp scope N a) (pinsAt fp s7.heap) σ' H' s' → Sub (capσ σ n js) σ' → Inv (X.comp scope N a) [] (capσ σ n js) H' s' ∧ tn (i + 1) s'.heap ∧ ∀ b ∈ fp, H' b = none := fun {σ' H' s'} I' sb => by
        refine ⟨(I'.pins_of fun p hp => absurd hp (by simp)).weak sb.1 sb.2, T.keep _ _ _ t7 fun b hb o e => (I'.pin (b, o) (List.mem_append_right _ (mem_pinsAt hb e))).1, fun b hb => ?_⟩
        obtain ⟨o, e, d⟩ := T.obj _ _ t7 b hb
        exact (I'.pin (b, o) (List.mem_append_right _ (mem_pinsAt hb e))).2.1
      cases ok with
      | false =>
        obtain ⟨m', lt, w'⟩ := q9
        obtain ⟨b1, b2, b3⟩ := back I9 sub8
        exact ⟨m', lt, i + 1, xs, H9, b1, b2, b3, w'⟩
      | true =>
        refine thn (he a _ s9 σ8 H9 _ I9 q9) fun y s10 ⟨v, H10, I10, r10, hl10, m', lt, w'⟩ => ?_
        refine thn (mt_append (X := X.comp scope N a) _ s10 σ8 H10 (.ref s₂.heap.objs.size) [v] _ [y] (fun _ H' => H' = upd H10 s₂.heap.objs.size (.lst (xs ++ [v]))) I10 rfl (.cons r10 .nil) ⟨_, xs, v, rfl, rfl, hl10, hz5, rfl⟩) fun _ s11 ⟨_, H11, I11, _, e11⟩ => ?_
        subst e11
        obtain ⟨b1, b2, b3⟩ := back I11 sub8
        exact ⟨m', lt, i + 1, _, _, b1, b2, b3, w'⟩
  have eE : { newEnv scope s3.heap.objs.size X.env.globals cl X.env.qual none Value.none (some X.env) builtinsNs with scope := relabel scope X.env } = (X.comp scope N a).env := by rw [ha]; rfl
  have lp := loop _ rfl
  rw [← eE] at lp
  have sf := T.self X.A 0 { s3 with heap := h₁, toks := s3.toks } (fun it' s' => codeAny (model X.prog X.w) X.A (.compLoop (.ListComp elt [⟨tg, iter, ifs, 0⟩] scope pos) 0 it' (.ref s₂.heap.objs.size) { newEnv scope s3.heap.objs.size X.env.globals cl X.env.qual none Value.none (some X.env) builtinsNs with scope := relabel scope X.env }) (RR (.ref s₂.heap.objs.size) s3.heap.objs.size) s')
    (notedBy (model X.prog X.w) X.A { newEnv scope s3.heap.objs.size X.env.globals cl X.env.qual none Value.none (some X.env) builtinsNs with scope := relabel scope X.env } fun x s' => RR (.ref s₂.heap.objs.size) s3.heap.objs.size (.error x) s') tn1 lp
  have fin := codeAny_compStart_list lp sf
  rw [hs3] at fin ⊢
  exact fin
def tComp (n : Nat) (js : List Nat) (wi : TI) (g : CA → TG) (tc : CA → TT) (te : CA → TE) : TE := fun σ H Q => wi σ H fun J H1 => ∀ l, H1 l = none → ∀ a : CA, CompR J (capσ σ n js) (g a) (tc a) (te a) l Q H1
theorem comp_closure {pins : List (Addr × Obj)} {σ : St} {H : Hp} {s : Shared} (cap : capOk X.env.scope.names X.N scope.names N n js = true) (I : Inv X pins σ H s) :
    ∃ cl, closureFor scope X.env = pure cl ∧ (∀ x c, cl.lookup x = some c → X.env.cells.lookup x = some c) ∧ ∀ p ∈ scope.names, p.2 = NameKind.free → ∃ c, cl.lookup p.1 = some c :=
  closure_of fun p hp e => I.ok.has p.1 ((cap_facts cap).2.2.2.1 p hp e).2
/-- [elt for tg in iter if ..] -/
theorem pe_comp {wi : TI} (cap : capOk X.env.scope.names X.N scope.names N n js = true) (hkind : scope.kind = .function) (hcalm : X.calm = true) (hi : PI X tg iter wi)
    (hg : ∀ a, PG (X.comp scope N a) tg (g a)) (hc : ∀ a, PIf (X.comp scope N a) ifs (tc a)) (he : ∀ a, PE (X.comp scope N a) elt (te a))
    (hs : ∀ x, foldedSetIterable iter X.env x = pure x := by intro _; rfl) : PE X (.ListComp elt [⟨tg, iter, ifs, 0⟩] scope pos) (tComp n js wi g tc te) := by
  intro pins s σ H Q I h
  obtain ⟨cl, hclos, hc1, hc2⟩ := comp_closure cap I
  rw [eval_ListComp]
  refine wpAny_comprehension_free (use := none) rfl hs hclos hkind (cap_facts cap).2.2.1 (thn (hi pins s σ H _ I h) fun v s1 h1 => thn h1 fun itv s2 h2 => ?_)
  obtain ⟨it, fp, tn, J, H2, rfl, I2, T, st2, f2, q⟩ := h2
  refine comp_core (RR := fun acc C => compPost (model X.prog X.w) X.A X.xe none (EP X pins σ Q) acc C) cap hkind hcalm hg hc he I2 T st2 f2 hc1 hc2 q ?_
  intro l C H' s' m I' hn hC hL hs0 hcell hpin hfs hq
  exact ⟨m, hn, fun h' hsb => ⟨.ref l, H', I'.turned (t' := s'.toks) (fun b o hb e => (hsb.2 b hb).trans e) hC hL (.inr hs0) hcell hpin, rfl, hq⟩⟩
end
/-! ### readings -/
/-- an iterator that yields just ys, whatever comes up beside -/
structure Lists (J : It) (H1 : Hp) (ys : List V) : Prop where
  go : ∀ i H, Same H1 H → i < ys.length → J.go i H
  stop : ∀ H, Same H1 H → J.stop ys.length H
  yld : ∀ i H x H', Same H1 H → J.yld i H x H' → i < ys.length → H' = H ∧ ys[i]? = some x
theorem lists_tup {K : PySem.W.Frag} {H1 : Hp} {a : Addr} {ys : List V} (h : SqT K H1 a ys) : Lists (Itt K a) H1 ys where
  go := fun i H sm hi => ⟨ys, ys[i], sm.sqT h, List.getElem?_eq_getElem hi⟩
  stop := fun H sm => ⟨ys, sm.sqT h, Nat.le_refl _⟩
  yld := fun i H x H' sm ⟨e, y⟩ _ => ⟨e, y ys (sm.sqT h)⟩
def rng (lo : Int) (n : Nat) : List V := (List.range n).map fun (i : Nat) => V.int (lo + i)
end L2

/-! ## wide numbers; sum, all of a list; values as trees, and their equality -/
namespace L2
open PySem PySem.Spec PyProof.Rows
section
variable {X : Cx}
theorem bb_sum : bootBuiltins "sum" = some (.builtin "sum") := by decide +kernel
theorem preSum_list (ns : List Int) : ∀ k, k ≤ ns.length → PySem.preSum (fun i => ns.getD i 0) k = (ns.take k).sum
  | 0, _ => rfl
  | k + 1, h => by
    show PySem.preSum (fun i => ns.getD i 0) k + ns.getD k 0 = _
    rw [preSum_list ns k (by omega), List.take_add_one, List.sum_append, List.getD_eq_getElem?_getD, List.getElem?_eq_getElem (by omega)]
    simp
end
/-! ### values as trees -/
inductive D where
  | non
  | bl (b : Bool)
  | int (i : Int)
  | str (cs : List Nat)
  | tup (ds : List D)
  | lst (ds : List D)
def all2 (f : D → V → Prop) : List D → List V → Prop
  | [], [] => True
  | d :: ds, x :: xs => f d x ∧ all2 f ds xs
  | _, _ => False
/-- the value at v is this tree, of at most so many levels -/
def Dp (K : PySem.W.Frag) (H : Hp) : Nat → D → V → Prop
  | _, .non, v => v = .non
  | _, .bl b, v => v = .bl b
  | _, .int i, v => v = .int i
  | _, .str cs, v => v = .str (SL cs)
  | n + 1, .tup ds, v => ∃ a xs, v = .ref a ∧ SqT K H a xs ∧ all2 (Dp K H n) ds xs
  | n + 1, .lst ds, v => ∃ a xs, v = .ref a ∧ SqL K H a xs ∧ all2 (Dp K H n) ds xs
  | 0, .tup _, _ => False
  | 0, .lst _, _ => False
def all2b (f : D → D → Bool) : List D → List D → Bool
  | [], [] => true
  | a :: r, b :: t => f a b && all2b f r t
  | _, _ => false
/-- == of trees -/
def eqb : Nat → D → D → Bool
  | _, .non, .non => true
  | _, .bl a, .bl b => a == b
  | _, .bl a, .int b => (if a then 1 else 0) == b
  | _, .int a, .bl b => a == (if b then 1 else 0)
  | _, .int a, .int b => a == b
  | _, .str a, .str b => a == b
  | n + 1, .tup a, .tup b => all2b (eqb n) a b
  | n + 1, .lst a, .lst b => all2b (eqb n) a b
  | _, _, _ => false
def isSeq : D → Bool
  | .tup _ => true
  | .lst _ => true
  | _ => false
/-- what == is told of here: no list or tuple beside another kind -/
def cmpOk : Nat → D → D → Prop
  | n + 1, .tup a, .tup b => ∀ (j : Nat) (x y : D), a[j]? = some x → b[j]? = some y → cmpOk n x y
  | n + 1, .lst a, .lst b => ∀ (j : Nat) (x y : D), a[j]? = some x → b[j]? = some y → cmpOk n x y
  | _, a, b => isSeq a = false ∧ isSeq b = false
theorem all2_len {f : D → V → Prop} : ∀ {ds : List D} {xs : List V}, all2 f ds xs → ds.length = xs.length
  | [], [], _ => rfl
  | _ :: _, _ :: _, h => by rw [List.length_cons, List.length_cons, all2_len h.2]
  | [], _ :: _, h => h.elim
  | _ :: _, [], h => h.elim
theorem all2_get {f : D → V → Prop} : ∀ {ds : List D} {xs : List V} {j : Nat} {d : D} {x : V}, all2 f ds xs → ds[j]? = some d → xs[j]? = some x → f d x
  | [], [], _, _, _, _, h, _ => by simp at h
  | a :: r, b :: t, 0, d, x, h, h1, h2 => by
    simp at h1 h2
    rw [← h1, ← h2]
    exact h.1
  | a :: r, b :: t, j + 1, d, x, h, h1, h2 => all2_get h.2 (by simpa using h1) (by simpa using h2)
  | [], _ :: _, _, _, _, h, _, _ => h.elim
  | _ :: _, [], _, _, _, h, _, _ => h.elim
theorem all2_imp {f g : D → V → Prop} : ∀ {ds : List D} {xs : List V}, (∀ d ∈ ds, ∀ x, f d x → g d x) → all2 f ds xs → all2 g ds xs
  | [], [], _, _ => trivial
  | d :: r, x :: t, h, q => ⟨h d List.mem_cons_self x q.1, all2_imp (fun d hd => h d (List.mem_cons_of_mem _ hd)) q.2⟩
  | [], _ :: _, _, h => h.elim
  | _ :: _, [], _, h => h.elim
theorem Dp.same {K : PySem.W.Frag} {H H' : Hp} (sm : Same H H') : ∀ {n : Nat} {d : D} {v : V}, Dp K H n d v → Dp K H' n d v
  | _, .non, _, h => by unfold Dp at h ⊢; exact h
  | _, .bl _, _, h => by unfold Dp at h ⊢; exact h
  | _, .int _, _, h => by unfold Dp at h ⊢; exact h
  | _, .str _, _, h => by unfold Dp at h ⊢; exact h
  | n + 1, .tup ds, v, h => by
    unfold Dp at h ⊢
    obtain ⟨a, xs, e, hq, hs⟩ := h
    exact ⟨a, xs, e, sm.sqT hq, all2_imp (fun d _ x q => Dp.same sm q) hs⟩
  | n + 1, .lst ds, v, h => by
    unfold Dp at h ⊢
    obtain ⟨a, xs, e, hq, hs⟩ := h
    exact ⟨a, xs, e, sm.seq hq, all2_imp (fun d _ x q => Dp.same sm q) hs⟩
  | 0, .tup _, _, h => by unfold Dp at h; exact h.elim
  | 0, .lst _, _, h => by unfold Dp at h; exact h.elim
theorem all2b_refl {f : D → D → Bool} : ∀ {ds : List D}, (∀ d ∈ ds, f d d = true) → all2b f ds ds = true
  | [], _ => rfl
  | d :: r, h => by
    unfold all2b
    rw [h d List.mem_cons_self, all2b_refl fun x hx => h x (List.mem_cons_of_mem _ hx)]
    rfl
theorem all2_mem {f : D → V → Prop} {ds : List D} {xs : List V} (h : all2 f ds xs) {d : D} (hd : d ∈ ds) : ∃ x, f d x := by
  obtain ⟨j, hj, rfl⟩ := List.getElem_of_mem hd
  have hl := all2_len h
  exact ⟨xs[j], all2_get h (List.getElem?_eq_getElem hj) (List.getElem?_eq_getElem (by omega))⟩
theorem eqb_refl {K : PySem.W.Frag} {H : Hp} : ∀ {n : Nat} {d : D} {v : V}, Dp K H n d v → eqb n d d = true
  | _, .non, _, _ => by unfold eqb; rfl
  | _, .bl _, _, _ => by unfold eqb; simp
  | _, .int _, _, _ => by unfold eqb; simp
  | _, .str _, _, _ => by unfold eqb; simp
  | n + 1, .tup ds, v, h => by
    unfold Dp at h
    obtain ⟨a, xs, e, hq, hs⟩ := h
    unfold eqb
    exact all2b_refl fun d hd => let ⟨x, hx⟩ := all2_mem hs hd; eqb_refl hx
  | n + 1, .lst ds, v, h => by
    unfold Dp at h
    obtain ⟨a, xs, e, hq, hs⟩ := h
    unfold eqb
    exact all2b_refl fun d hd => let ⟨x, hx⟩ := all2_mem hs hd; eqb_refl hx
  | 0, .tup _, _, h => by unfold Dp at h; exact h.elim
  | 0, .lst _, _, h => by unfold Dp at h; exact h.elim
theorem cmpOk_refl {K : PySem.W.Frag} {H : Hp} : ∀ {n : Nat} {d : D} {v : V}, Dp K H n d v → cmpOk n d d
  | 0, .non, _, _ => ⟨rfl, rfl⟩
  | 0, .bl _, _, _ => ⟨rfl, rfl⟩
  | 0, .int _, _, _ => ⟨rfl, rfl⟩
  | 0, .str _, _, _ => ⟨rfl, rfl⟩
  | _ + 1, .non, _, _ => ⟨rfl, rfl⟩
  | _ + 1, .bl _, _, _ => ⟨rfl, rfl⟩
  | _ + 1, .int _, _, _ => ⟨rfl, rfl⟩
  | _ + 1, .str _, _, _ => ⟨rfl, rfl⟩
  | n + 1, .tup ds, v, h => by
    unfold Dp at h
    obtain ⟨a, xs, e, hq, hs⟩ := h
    intro j x y h1 h2
    rw [h1] at h2
    cases h2
    obtain ⟨z, hz⟩ := all2_mem hs (List.mem_of_getElem? h1)
    exact cmpOk_refl hz
  | n + 1, .lst ds, v, h => by
    unfold Dp at h
    obtain ⟨a, xs, e, hq, hs⟩ := h
    intro j x y h1 h2
    rw [h1] at h2
    cases h2
    obtain ⟨z, hz⟩ := all2_mem hs (List.mem_of_getElem? h1)
    exact cmpOk_refl hz
  | 0, .tup _, _, h => by unfold Dp at h; exact h.elim
  | 0, .lst _, _, h => by unfold Dp at h; exact h.elim
/-- a tree that is no list and no tuple -/
def sc : D → Option V
  | .non => some .non
  | .bl b => some (.bl b)
  | .int i => some (.int i)
  | .str cs => some (.str (SL cs))
  | _ => none
theorem Dp.sc {K : PySem.W.Frag} {H : Hp} {n : Nat} {d : D} {v x : V} (h : sc d = some x) : Dp K H n d v = (v = x) := by
  cases d with
  | non => cases h; unfold Dp; rfl
  | bl b => cases h; unfold Dp; rfl
  | int i => cases h; unfold Dp; rfl
  | str cs => cases h; unfold Dp; rfl
  | tup ds => cases h
  | lst ds => cases h
theorem Dp.flat {K : PySem.W.Frag} {H : Hp} {d : D} {v : V} (h : Dp K H 0 d v) : ∃ x, L2.sc d = some x := by
  cases d with
  | tup ds => unfold Dp at h; exact h.elim
  | lst ds => unfold Dp at h; exact h.elim
  | _ => exact ⟨_, rfl⟩
theorem Dp.isRef {K : PySem.W.Frag} {H : Hp} {n : Nat} {d : D} {v : V} (h : L2.sc d = none) (p : Dp K H n d v) : ∃ a, v = .ref a := by
  cases d with
  | tup ds =>
    cases n with
    | zero => unfold Dp at p; exact p.elim
    | succ n => unfold Dp at p; obtain ⟨a, _, e, _⟩ := p; exact ⟨a, e⟩
  | lst ds =>
    cases n with
    | zero => unfold Dp at p; exact p.elim
    | succ n => unfold Dp at p; obtain ⟨a, _, e, _⟩ := p; exact ⟨a, e⟩
  | non => cases h
  | bl _ => cases h
  | int _ => cases h
  | str _ => cases h
theorem sc_ref {d : D} {x : V} {a : Addr} (h : sc d = some x) : x ≠ .ref a := by
  cases d <;> cases h <;> (intro z; cases z)
theorem sc_flat {d : D} {x : V} (h : sc d = some x) : flatV x = true := by
  cases d <;> cases h <;> rfl
theorem sc_inj {d e : D} {x : V} (h : sc d = some x) (g : sc e = some x) : d = e := by
  cases d <;> cases h <;> cases e <;> first
    | rfl
    | (cases g; rfl)
    | cases g
    | (have z := V.str.inj (Option.some.inj g)
       rw [SL_inj] at z
       rw [z])
theorem cmp_mix1 {n : Nat} {d e : D} {x : V} (h : sc d = some x) (g : sc e = none) : ¬ cmpOk n d e := by
  intro c
  cases n <;> cases d <;> cases h <;> cases e <;> first
    | (unfold cmpOk at c; obtain ⟨_, z⟩ := c; cases z; done)
    | (cases g; done)
theorem cmp_mix2 {n : Nat} {d e : D} {x : V} (h : sc d = none) (g : sc e = some x) : ¬ cmpOk n d e := by
  intro c
  cases n <;> cases e <;> cases g <;> cases d <;> first
    | (unfold cmpOk at c; obtain ⟨z, _⟩ := c; cases z; done)
    | (cases h; done)
theorem SL_beq (a b : List Nat) : (SL a == SL b) = (a == b) := by
  rw [Bool.eq_iff_iff, beq_iff_eq, beq_iff_eq, SL_inj]
theorem eqb_sc {n : Nat} {d e : D} {x y : V} (h : sc d = some x) (g : sc e = some y) : eqb n d e = eqV x y := by
  cases d <;> cases h <;> cases e <;> cases g <;> (unfold eqb eqV) <;> first
    | rfl
    | exact (SL_beq _ _).symm
section
variable {X : Cx} {pins : List (Addr × Obj)} {σ : St} {H : Hp} {s : Shared}
theorem tl_apart (I : Inv X pins σ H s) {a : Addr} {xs ys : List V} (h : SqT X.K H a xs) (g : SqL X.K H a ys) : False := by
  obtain ⟨i1, _, ⟨o1, e1, c1, _⟩, _⟩ := I.tuple h
  obtain ⟨i2, _, ⟨o2, n2, e2, c2, _⟩, _⟩ := I.list g
  rw [e1] at e2
  cases e2
  rw [c1] at c2
  revert c2
  simp
theorem all2_det {f g : D → V → Prop} : ∀ {ds es : List D} {xs : List V}, (∀ d ∈ ds, ∀ e x, f d x → g e x → d = e) → all2 f ds xs → all2 g es xs → ds = es
  | [], [], [], _, _, _ => rfl
  | d :: r, e :: t, x :: z, h, p, q => by rw [h d List.mem_cons_self e x p.1 q.1, all2_det (fun d hd => h d (List.mem_cons_of_mem _ hd)) p.2 q.2]
  | [], _ :: _, [], _, _, q => q.elim
  | [], _ :: _, _ :: _, _, p, _ => p.elim
  | _ :: _, [], [], _, p, _ => p.elim
  | _ :: _, [], _ :: _, _, _, q => q.elim
  | _ :: _, _ :: _, [], _, p, _ => p.elim
  | [], [], _ :: _, _, p, _ => p.elim
theorem Dp.det (I : Inv X pins σ H s) : ∀ {n : Nat} {d e : D} {v : V}, Dp X.K H n d v → Dp X.K H n e v → d = e := by
  intro n
  induction n with
  | zero =>
    intro d e v p q
    obtain ⟨x, hx⟩ := Dp.flat p
    obtain ⟨y, hy⟩ := Dp.flat q
    rw [Dp.sc hx] at p
    rw [Dp.sc hy] at q
    exact sc_inj hx (by rw [hy, ← q, p])
  | succ n ih =>
    intro d e v p q
    cases hx : L2.sc d with
    | some x =>
      rw [Dp.sc hx] at p
      cases hy : L2.sc e with
      | some y =>
        rw [Dp.sc hy] at q
        exact sc_inj hx (by rw [hy, ← q, p])
      | none =>
        obtain ⟨a, e2⟩ := Dp.isRef hy q
        exact absurd (p.symm.trans e2) (sc_ref hx)
    | none =>
      cases hy : L2.sc e with
      | some y =>
        rw [Dp.sc hy] at q
        obtain ⟨a, e2⟩ := Dp.isRef hx p
        exact absurd (q.symm.trans e2) (sc_ref hy)
      | none =>
        cases d with
        | tup ds =>
          unfold Dp at p
          obtain ⟨a, xs, rfl, h1, p⟩ := p
          cases e with
          | tup es =>
            unfold Dp at q
            obtain ⟨b, ys, eb, h2, q⟩ := q
            cases eb
            have exy := I.tuple_inj h1 h2
            subst exy
            exact congrArg D.tup (all2_det (f := Dp X.K H n) (g := Dp X.K H n) (fun d _ e x p q => ih p q) p q)
          | lst es =>
            unfold Dp at q
            obtain ⟨b, ys, eb, h2, q⟩ := q
            cases eb
            exact (tl_apart I h1 h2).elim
          | non => cases hy
          | bl _ => cases hy
          | int _ => cases hy
          | str _ => cases hy
        | lst ds =>
          unfold Dp at p
          obtain ⟨a, xs, rfl, h1, p⟩ := p
          cases e with
          | lst es =>
            unfold Dp at q
            obtain ⟨b, ys, eb, h2, q⟩ := q
            cases eb
            have exy := I.list_inj h1 h2
            subst exy
            exact congrArg D.lst (all2_det (f := Dp X.K H n) (g := Dp X.K H n) (fun d _ e x p q => ih p q) p q)
          | tup es =>
            unfold Dp at q
            obtain ⟨b, ys, eb, h2, q⟩ := q
            cases eb
            exact (tl_apart I h2 h1).elim
          | non => cases hy
          | bl _ => cases hy
          | int _ => cases hy
          | str _ => cases hy
        | non => cases hx
        | bl _ => cases hx
        | int _ => cases hx
        | str _ => cases hx
theorem range_all2 {n : Nat} : ∀ (ds es : List D), ((List.range (min ds.length es.length)).all (fun j => eqb n (ds.getD j .non) (es.getD j .non)) && ds.length == es.length) = all2b (eqb n) ds es := by
  intro ds es
  rw [Bool.eq_iff_iff, Bool.and_eq_true, List.all_eq_true, beq_iff_eq]
  induction ds generalizing es with
  | nil =>
    cases es with
    | nil => simp [all2b]
    | cons e t => simp [all2b]
  | cons d r ih =>
    cases es with
    | nil => simp [all2b]
    | cons e t =>
      unfold all2b
      rw [Bool.and_eq_true, ← ih t]
      constructor
      · rintro ⟨h, hl⟩
        refine ⟨by simpa using h 0 (List.mem_range.mpr (by simp)), fun j hj => ?_, by simpa using hl⟩
        have := h (j + 1) (List.mem_range.mpr (by rw [List.length_cons, List.length_cons]; have := List.mem_range.mp hj; omega))
        simpa using this
      · rintro ⟨h0, h, hl⟩
        refine ⟨fun j hj => ?_, by simpa using hl⟩
        cases j with
        | zero => simpa using h0
        | succ j =>
          have hj' := List.mem_range.mp hj
          rw [List.length_cons, List.length_cons] at hj'
          simpa using h j (List.mem_range.mpr (by omega))
theorem all2_at {n : Nat} {ds : List D} {xs : List V} {its : List Value} (h : all2 (Dp X.K H n) ds xs) (r : Vals xs its) (j : Nat) (hj : j < its.toArray.size) : ∃ x, ds[j]? = some (ds.getD j .non) ∧ Dp X.K H n (ds.getD j .non) x ∧ RelV x its.toArray[j] := by
  have hl := all2_len h
  have hr := r.length
  have hj' : j < its.length := by simpa using hj
  have e1 : ds[j]? = some (ds.getD j .non) := by
    rw [List.getD_eq_getElem?_getD, List.getElem?_eq_getElem (by omega)]
    rfl
  have e2 : xs[j]? = some xs[j] := List.getElem?_eq_getElem (by omega)
  obtain ⟨u, eu, ru⟩ := r.get e2
  refine ⟨xs[j], e1, all2_get h e1 e2, ?_⟩
  rw [List.getElem?_eq_getElem hj'] at eu
  rw [List.getElem_toArray]
  rw [Option.some.inj eu]
  exact ru
/-- == of two trees -/
theorem eqAt_deep (I : Inv X pins σ H s) : ∀ {n : Nat} {d e : D} {v w : V} {u u' : Value} {A : Around}, cmpOk n d e → Dp X.K H n d v → Dp X.K H n e w → RelV v u → RelV w u' → A.units + n < cLine → SeqAt.EqAt A s u u' (eqb n d e) := by
  intro n
  induction n with
  | zero =>
    intro d e v w u u' A c p q rv rw' hu
    obtain ⟨x, hx⟩ := Dp.flat p
    obtain ⟨y, hy⟩ := Dp.flat q
    rw [Dp.sc hx] at p
    rw [Dp.sc hy] at q
    subst p q
    rw [eqb_sc hx hy]
    exact eqAt_V rv rw' (sc_flat hx) (sc_flat hy)
  | succ n ih =>
    intro d e v w u u' A c p q rv rw' hu
    cases hx : L2.sc d with
    | some x =>
      cases hy : L2.sc e with
      | some y =>
        rw [Dp.sc hx] at p
        rw [Dp.sc hy] at q
        subst p q
        rw [eqb_sc hx hy]
        exact eqAt_V rv rw' (sc_flat hx) (sc_flat hy)
      | none => exact absurd c (cmp_mix1 hx hy)
    | none =>
      cases hy : L2.sc e with
      | some y => exact absurd c (cmp_mix2 hx hy)
      | none =>
        by_cases same : v = w
        · subst same
          have ed := Dp.det I p q
          subst ed
          rw [eqb_refl p]
          have eu : u = u' := by
            obtain ⟨a, rfl⟩ := Dp.isRef hx p
            cases rv
            cases rw'
            rfl
          subst eu
          exact SeqAt.EqAt.same _
        · cases d with
          | tup ds =>
            cases e with
            | tup es =>
              unfold Dp at p q
              obtain ⟨a, xs, rfl, h1, p⟩ := p
              obtain ⟨b, ys, rfl, h2, q⟩ := q
              cases rv
              cases rw'
              obtain ⟨i1, r1, t1, _⟩ := I.tuple h1
              obtain ⟨i2, r2, t2, _⟩ := I.tuple h2
              have l1 := all2_len p
              have l2 := all2_len q
              have l3 := r1.length
              have l4 := r2.length
              refine SeqAt.EqAt.of_refs (fun z => same (by rw [z])) ?_
              have fin := SeqAt.RcAt.tuples (A := A) (e := fun j => eqb n (ds.getD j .non) (es.getD j .non)) t1 t2 (by omega) (fun j j1 j2 => ?_)
              · rw [List.size_toArray, List.size_toArray, show i1.length = ds.length by omega, show i2.length = es.length by omega, range_all2] at fin
                unfold eqb
                exact fin
              · obtain ⟨x, g1, d1, f1⟩ := all2_at p r1 j j1
                obtain ⟨y, g2, d2, f2⟩ := all2_at q r2 j j2
                exact ih (c j _ _ g1 g2) d1 d2 f1 f2 (by show A.units + 1 + n < cLine; omega)
            | lst es => exact absurd c (by unfold cmpOk; simp [isSeq])
            | non => cases hy
            | bl _ => cases hy
            | int _ => cases hy
            | str _ => cases hy
          | lst ds =>
            cases e with
            | lst es =>
              unfold Dp at p q
              obtain ⟨a, xs, rfl, h1, p⟩ := p
              obtain ⟨b, ys, rfl, h2, q⟩ := q
              cases rv
              cases rw'
              obtain ⟨i1, r1, t1, _⟩ := I.list h1
              obtain ⟨i2, r2, t2, _⟩ := I.list h2
              have l1 := all2_len p
              have l2 := all2_len q
              have l3 := r1.length
              have l4 := r2.length
              refine SeqAt.EqAt.of_refs (fun z => same (by rw [z])) ?_
              have r0 := range_all2 (n := n) ds es
              unfold eqb
              by_cases hs : i1.length = i2.length
              · have fin := SeqAt.RcAt.lists (A := A) (e := fun j => eqb n (ds.getD j .non) (es.getD j .non)) t1.isList t2.isList (by simpa using hs) (by omega) (fun j j1 j2 => ?_)
                · have e1 : ds.length = es.length := by omega
                  rw [← e1, Nat.min_self, beq_self_eq_true, Bool.and_true] at r0
                  rw [List.size_toArray, show i1.length = ds.length by omega, r0] at fin
                  exact fin
                · obtain ⟨x, g1, d1, f1⟩ := all2_at p r1 j j1
                  obtain ⟨y, g2, d2, f2⟩ := all2_at q r2 j j2
                  exact ih (c j _ _ g1 g2) d1 d2 f1 f2 (by show A.units + 1 + n < cLine; omega)
              · have fin := SeqAt.RcAt.lists_lengths (A := A) t1.isList t2.isList (by simpa using hs) (by omega)
                have z : (ds.length == es.length) = false := by
                  rw [beq_eq_false_iff_ne]
                  omega
                rw [z, Bool.and_false] at r0
                rw [← r0]
                exact fin
            | tup es => exact absurd c (by unfold cmpOk; simp [isSeq])
            | non => cases hy
            | bl _ => cases hy
            | int _ => cases hy
            | str _ => cases hy
          | non => cases hx
          | bl _ => cases hx
          | int _ => cases hx
          | str _ => cases hx
theorem rcAt_deep (I : Inv X pins σ H s) {n : Nat} {d e : D} {v w : V} {u u' : Value} {A : Around} (c : cmpOk (n + 1) d e) (p : Dp X.K H (n + 1) d v) (q : Dp X.K H (n + 1) e w) (hx : sc d = none) (hy : sc e = none) (rv : RelV v u) (rw' : RelV w u') (hu : A.units + (n + 1) < cLine) :
    SeqAt.RcAt A s u u' (eqb (n + 1) d e) ∧ SeqAt.RcNeAt A s u u' (!eqb (n + 1) d e) := by
  cases d with
  | tup ds =>
    cases e with
    | tup es =>
      unfold Dp at p q
      obtain ⟨a, xs, rfl, h1, p⟩ := p
      obtain ⟨b, ys, rfl, h2, q⟩ := q
      cases rv
      cases rw'
      obtain ⟨i1, r1, t1, _⟩ := I.tuple h1
      obtain ⟨i2, r2, t2, _⟩ := I.tuple h2
      have l1 := all2_len p
      have l2 := all2_len q
      have l3 := r1.length
      have l4 := r2.length
      have el : ∀ j (j1 : j < i1.toArray.size) (j2 : j < i2.toArray.size), SeqAt.EqAt A.in1 s i1.toArray[j] i2.toArray[j] (eqb n (ds.getD j .non) (es.getD j .non)) := fun j j1 j2 => by
        obtain ⟨x, g1, d1, f1⟩ := all2_at p r1 j j1
        obtain ⟨y, g2, d2, f2⟩ := all2_at q r2 j j2
        exact eqAt_deep I (c j _ _ g1 g2) d1 d2 f1 f2 (by show A.units + 1 + n < cLine; omega)
      have f1 := SeqAt.RcAt.tuples (A := A) (e := fun j => eqb n (ds.getD j .non) (es.getD j .non)) t1 t2 (by omega) el
      have f2 := SeqAt.RcNeAt.tuples (A := A) (e := fun j => eqb n (ds.getD j .non) (es.getD j .non)) t1 t2 (by omega) el
      rw [List.size_toArray, List.size_toArray, show i1.length = ds.length by omega, show i2.length = es.length by omega, range_all2] at f1 f2
      unfold eqb
      exact ⟨f1, f2⟩
    | lst es => exact absurd c (by unfold cmpOk; simp [isSeq])
    | non => cases hy
    | bl _ => cases hy
    | int _ => cases hy
    | str _ => cases hy
  | lst ds =>
    cases e with
    | lst es =>
      unfold Dp at p q
      obtain ⟨a, xs, rfl, h1, p⟩ := p
      obtain ⟨b, ys, rfl, h2, q⟩ := q
      cases rv
      cases rw'
      obtain ⟨i1, r1, t1, _⟩ := I.list h1
      obtain ⟨i2, r2, t2, _⟩ := I.list h2
      have l1 := all2_len p
      have l2 := all2_len q
      have l3 := r1.length
      have l4 := r2.length
      have el : ∀ j (j1 : j < i1.toArray.size) (j2 : j < i2.toArray.size), SeqAt.EqAt A.in1 s i1.toArray[j] i2.toArray[j] (eqb n (ds.getD j .non) (es.getD j .non)) := fun j j1 j2 => by
        obtain ⟨x, g1, d1, f1⟩ := all2_at p r1 j j1
        obtain ⟨y, g2, d2, f2⟩ := all2_at q r2 j j2
        exact eqAt_deep I (c j _ _ g1 g2) d1 d2 f1 f2 (by show A.units + 1 + n < cLine; omega)
      have r0 := range_all2 (n := n) ds es
      unfold eqb
      by_cases hs : i1.length = i2.length
      · have f1 := SeqAt.RcAt.lists (A := A) (e := fun j => eqb n (ds.getD j .non) (es.getD j .non)) t1.isList t2.isList (by simpa using hs) (by omega) el
        have f2 := SeqAt.RcNeAt.lists (A := A) (e := fun j => eqb n (ds.getD j .non) (es.getD j .non)) t1.isList t2.isList (by simpa using hs) (by omega) el
        have e1 : ds.length = es.length := by omega
        rw [← e1, Nat.min_self, beq_self_eq_true, Bool.and_true] at r0
        rw [List.size_toArray, show i1.length = ds.length by omega, r0] at f1 f2
        exact ⟨f1, f2⟩
      · have f1 := SeqAt.RcAt.lists_lengths (A := A) t1.isList t2.isList (by simpa using hs) (by omega)
        have f2 := SeqAt.RcNeAt.lists_lengths (A := A) t1.isList t2.isList (by simpa using hs) (by omega)
        have z : (ds.length == es.length) = false := by
          rw [beq_eq_false_iff_ne]
          omega
        rw [z, Bool.and_false] at r0
        rw [← r0]
        exact ⟨f1, f2⟩
    | tup es => exact absurd c (by unfold cmpOk; simp [isSeq])
    | non => cases hy
    | bl _ => cases hy
    | int _ => cases hy
    | str _ => cases hy
  | non => cases hx
  | bl _ => cases hx
  | int _ => cases hx
  | str _ => cases hx
end
section
variable {X : Cx}
/-- == (neg: !=) of two lists or two tuples, by their trees -/
def rEqD (K : PySem.W.Frag) (neg : Bool) : R2 := fun x y H Q => ∃ n d e, Dp K H (n + 1) d x ∧ Dp K H (n + 1) e y ∧ sc d = none ∧ sc e = none ∧ n ≤ 50 ∧ cmpOk (n + 1) d e ∧ Q (.bl (if neg then !eqb (n + 1) d e else eqb (n + 1) d e)) H
theorem op_eqD {k : Nat} (hr : Room k X.A) : OpR X (compareOp .Eq) (rEqD X.K false) := by
  intro pins s σ H x y v u Q I rx ry h
  obtain ⟨n, d, e, p, q, hx, hy, hn, c, hq⟩ := h
  have hu := hr.units
  exact (rcAt_deep I (A := X.A) c p q hx hy rx ry (by omega)).1 X.prog X.w _ _ ⟨.bl _, H, I, rfl, hq⟩
theorem op_neD {k : Nat} (hr : Room k X.A) : OpR X (compareOp .NotEq) (rEqD X.K true) := by
  intro pins s σ H x y v u Q I rx ry h
  obtain ⟨n, d, e, p, q, hx, hy, hn, c, hq⟩ := h
  have hu := hr.units
  exact (rcAt_deep I (A := X.A) c p q hx hy rx ry (by omega)).2 X.prog X.w _ _ ⟨.bl _, H, I, rfl, hq⟩
/-- the two are one tree -/
theorem eqD {K : PySem.W.Frag} {H : Hp} {n : Nat} {d : D} {x y : V} {Q : VK} (p : Dp K H (n + 1) d x) (q : Dp K H (n + 1) d y) (hx : sc d = none) (hn : n ≤ 50) (h : Q (.bl true) H) : rEqD K false x y H Q :=
  ⟨n, d, d, p, q, hx, hx, hn, cmpOk_refl p, by rw [eqb_refl p]; exact h⟩
theorem neD {K : PySem.W.Frag} {H : Hp} {n : Nat} {d : D} {x y : V} {Q : VK} (p : Dp K H (n + 1) d x) (q : Dp K H (n + 1) d y) (hx : sc d = none) (hn : n ≤ 50) (h : Q (.bl false) H) : rEqD K true x y H Q :=
  ⟨n, d, d, p, q, hx, hx, hn, cmpOk_refl p, by rw [eqb_refl p]; exact h⟩
end
theorem Dp_tup {K : PySem.W.Frag} {H : Hp} {n : Nat} {a : Addr} {ds : List D} {xs : List V} (h : SqT K H a xs) (q : all2 (Dp K H n) ds xs) : Dp K H (n + 1) (.tup ds) (.ref a) := by
  unfold Dp
  exact ⟨a, xs, rfl, h, q⟩
theorem Dp_lst {K : PySem.W.Frag} {H : Hp} {n : Nat} {a : Addr} {ds : List D} {xs : List V} (h : SqL K H a xs) (q : all2 (Dp K H n) ds xs) : Dp K H (n + 1) (.lst ds) (.ref a) := by
  unfold Dp
  exact ⟨a, xs, rfl, h, q⟩
theorem Dp_int {K : PySem.W.Frag} {H : Hp} {n : Nat} {i : Int} : Dp K H n (.int i) (.int i) := by unfold Dp; rfl
theorem Dp_str {K : PySem.W.Frag} {H : Hp} {n : Nat} {cs : List Nat} : Dp K H n (.str cs) (.str (SL cs)) := by unfold Dp; rfl
theorem all2_ints {K : PySem.W.Frag} {H : Hp} {n : Nat} : ∀ is : List Int, all2 (Dp K H n) (is.map D.int) (is.map V.int)
  | [] => trivial
  | _ :: r => ⟨Dp_int, all2_ints r⟩
end L2

/-! ## new things, told by what stands there alone (no upd in the reading) -/
namespace L2
open PySem PySem.Spec PyProof.Rows
/-- a new object: its address was free, all else stays -/
def New (H : Hp) (o : HO) (Q : VK) : Prop := ∀ p H', H p = none → Same H H' → H' p = some o → Q (.ref p) H'
theorem New.at {H : Hp} {o : HO} {Q : VK} (h : New H o Q) {p : Addr} (hp : H p = none) : Q (.ref p) (upd H p o) := h p _ hp (same_new hp o) upd_same
section
variable {X : Cx} {es : List Expr} {t : TA} {pos : Pos}
def tTupS (t : TA) : TE := fun σ H Q => t σ H fun xs H1 => xs.length ≤ sizeLine ∧ New H1 (.tup xs) Q
def tLstS (t : TA) : TE := fun σ H Q => t σ H fun xs H1 => xs.length ≤ sizeLine ∧ New H1 (.lst xs) Q
theorem pe_tupS {x1} (h : PA X es t) : PE X (.Tuple es x1 pos) (tTupS t) := by
  intro pins s σ H Q I hq
  refine wpAny_Tuple_spliced (thn (h pos pins s σ H _ I hq) fun us s1 ⟨xs, H1, I1, r, z, q⟩ => ⟨by rw [← r.length]; exact z, ?_⟩)
  have hf : H1 s1.heap.objs.size = none := I1.hok.fresh (Nat.le_refl _)
  refine ⟨.ref s1.heap.objs.size, upd H1 s1.heap.objs.size (.tup xs), I1.laid (t' := s1.toks) (fun b u e => Heap.get?_push_of_some _ e) (Nat.le_refl _) ?_, rfl, q.at hf⟩
  exact ⟨z, us, r, ⟨_, Heap.get?_push_size _ rfl, rfl, _, rfl⟩⟩
theorem pe_lstS (h : PA X es t) : PE X (.List es pos) (tLstS t) := by
  intro pins s σ H Q I hq
  refine wpAny_List_spliced (thn (h pos pins s σ H _ I hq) fun us s1 ⟨xs, H1, I1, r, z, q⟩ => ⟨by rw [← r.length]; exact z, ?_⟩)
  have hf : H1 s1.heap.objs.size = none := I1.hok.fresh (Nat.le_refl _)
  refine ⟨.ref s1.heap.objs.size, upd H1 s1.heap.objs.size (.lst xs), I1.laid (t' := s1.toks) (fun b u e => Heap.get?_push_of_some _ e) (Nat.le_refl _) ?_, rfl, q.at hf⟩
  exact ⟨z, us, 0, r, Heap.get?_push_size _ rfl⟩
theorem OpR.imp {f : Value → Value → Sem Value} {r r' : R2} (h : OpR X f r) (i : ∀ x y H Q, r' x y H Q → r x y H Q) : OpR X f r' := fun pins s σ H x y v u Q I rx ry q => h pins s σ H x y v u Q I rx ry (i _ _ _ _ q)
theorem SlR.imp {r r' : V → Option Int → Option Int → Hp → VK → Prop} (h : SlR X r) (i : ∀ x lo hi H Q, r' x lo hi H Q → r x lo hi H Q) : SlR X r' :=
  fun pins s σ H x v vl vu lo hi sl Q I rx hs pl pu q => h pins s σ H x v vl vu lo hi sl Q I rx hs pl pu (i _ _ _ _ _ q)
theorem CallR.imp {f : Value} {r r' : List V → Hp → VK → Prop} (h : CallR X f r) (i : ∀ xs H Q, r' xs H Q → r xs H Q) : CallR X f r' := fun pins s σ H xs us Q I rx q => h pins s σ H xs us Q I rx (i _ _ _ q)
def rCatS : R2 := fun x y H Q => ∃ p q xs ys, x = .ref p ∧ y = .ref q ∧ H p = some (.lst xs) ∧ H q = some (.lst ys) ∧ xs.length + ys.length ≤ sizeLine ∧ New H (.lst (xs ++ ys)) Q
theorem op_catS : OpR X (binaryOp .Add) rCatS := op_cat.imp fun _ _ _ _ ⟨p, q, xs, ys, e1, e2, h1, h2, hz, hq⟩ => ⟨p, q, xs, ys, e1, e2, h1, h2, hz, fun _ hp => hq.at hp⟩
def rSlLS (K : PySem.W.Frag) : V → Option Int → Option Int → Hp → VK → Prop := fun x lo hi H Q => ∃ a xs, x = .ref a ∧ SqL K H a xs ∧ New H (.lst (cutV xs lo hi)) Q
theorem sl_listS : SlR X (rSlLS X.K) := sl_list.imp fun _ _ _ _ _ ⟨a, xs, e, h, q⟩ => ⟨a, xs, e, h, fun _ hp => q.at hp⟩
end
end L2
namespace L2
open PySem PySem.Spec PyProof.Rows
theorem small_len {n : Nat} (h : n ≤ 1000) : n < sizeLine := Nat.lt_of_le_of_lt h (by decide)
theorem le_line {n : Nat} (h : n ≤ 1000) : n ≤ sizeLine := Nat.le_of_lt (small_len h)
end L2
namespace L2
open PySem PySem.Spec PyProof.Rows
def tEither (t u : TE) : TE := fun σ H Q => t σ H Q ∨ u σ H Q
end L2

/-! ## a loop's iterator on its own; two lists side by side (zip) -/
namespace L2
open PySem PySem.Spec PyProof.Rows
/-- what a loop asks of its iterator -/
def Loop (g : TG) (tb : TS) (D : Ends) (σ : St) (J : It) (H1 : Hp) : Prop := ∃ W : Nat → Nat → St → Hp → Prop, (∃ m, W 0 m σ H1) ∧ ∀ i m σ H, W i m σ H →
  (J.stop i H ∧ D.nx σ H) ∨ (J.go i H ∧ ∃ N : St → Hp → Prop, (∀ σ' H', N σ' H' → ∃ m', m' < m ∧ W (i + 1) m' σ' H') ∧ ∀ x H', J.yld i H x H' → g x σ H' fun σ2 H2 => tb { D with nx := N, ct := N, bk := D.nx } σ2 H2)
/-- the loop's rest as one name, so that the simp call sees the iterator only -/
theorem for_by {wi : TI} {g : TG} {tb : TS} {D : Ends} {σ : St} {H : Hp} (k : ∀ R : It → Hp → Prop, (∀ J H1, Loop g tb D σ J H1 → R J H1) → wi σ H R) : tFor wi g tb D σ H := k _ fun _ _ h => h
/-- two lists side by side: each turn makes a new pair -/
def Itz (K : PySem.W.Frag) (a b : Addr) : It :=
  ⟨fun i H => ∃ xs ys x y, SqL K H a xs ∧ SqL K H b ys ∧ xs[i]? = some x ∧ ys[i]? = some y,
   fun i H v H' => ∃ p, v = .ref p ∧ H p = none ∧ Same H H' ∧ ∃ x y, H' p = some (.tup [x, y]) ∧ (∀ xs, SqL K H a xs → xs[i]? = some x) ∧ ∀ ys, SqL K H b ys → ys[i]? = some y,
   fun i H => ∃ xs ys, SqL K H a xs ∧ SqL K H b ys ∧ (xs.length ≤ i ∨ ys.length ≤ i)⟩
section
variable {X : Cx} {pins : List (Addr × Obj)} {σ : St} {H : Hp} {s : Shared} {h' : Heap} {ch : List Addr} {t' : Nat}
end
def iZip (K : PySem.W.Frag) (ta : TA) : TI := fun σ H R => ta σ H fun vs H1 => ∃ a b, vs = [.ref a, .ref b] ∧ (∃ xs, SqL K H1 a xs) ∧ (∃ ys, SqL K H1 b ys) ∧ R (Itz K a b) H1
section
variable {X : Cx}
end
/-! ### f(e, .., k = v, ..) where f may raise -/
section
variable {X : Cx} {Ek : St → XK} {k : Nat} {f : Addr} {fd : FuncData} {ps ks : List Str} {sp : Sp} {x : Str} {p pos : Pos} {e : Expr} {es : List Expr} {kws : List Keyword} {t tk : TA} {g : List Value → List Value → List Value} {gV : List V → List V → List V}
def tCallKX (sp : Sp) (gV : List V → List V → List V) (Ek : St → XK) (t tk : TA) : TE := fun σ H Q => t σ H fun vs H1 => tk σ H1 fun zs H2 => sp (gV vs zs) H2 Q (Ek σ)
end
/-! ### a def with a default for its last argument -/
structure FunD (K : PySem.W.Frag) (x qual : Str) (st : Stmt) (f : Addr) (fd : FuncData) : Prop where
  ex : ∃ (dV oc : Value) (od : Option Addr) (kV doc pm : Value) (an : Option Addr) (cdv ct : Value) (osl : Array (Option Value)),
    fd = PySem.W.fnOf x qual (defArgs st) (defBody st) (defScope st) dV kV doc pm an cdv ct ∧ K.lookup f = some ⟨oc, od, .func fd, osl⟩ ∧ PySem.W.codeIn K cdv qual = true
  kp : PySem.W.keepIn K (.ref f) = true
theorem FunD.okX {P : Program} {w : World} {K : PySem.W.Frag} {mg : Str → Option Value} {base : Heap} {x qual : Str} {st : Stmt} {f : Addr} {fd : FuncData} {N ps : List Str} {k : Nat} {sp : Sp} (F : FunD K x qual st f fd) (S : FnScope N ps (defScope st)) (len : ∀ vs H Q E, sp vs H Q E → vs.length = ps.length)
    (hbody : ∀ (cdv : Value) (A : Around) (outer : List Env) (s : Shared) (H : Hp) (vs : List V) (Q : VK) (E : XK), LvR (cxOf (CXE P w) P w K mg base N qual (defScope st) f cdv A outer s H E) (fun _ => E) → Room k (A.deeper (envOfC qual (defScope st) s.heap.objs.size f cdv)) → sp vs H Q E →
      ∃ t, PSs (cxOf (CXE P w) P w K mg base N qual (defScope st) f cdv A outer s H E) (defBody st) t ∧ t { nx := fun _ H' => Q .non H', rt := Q } (start N vs) H) : FnOk P w K mg base (CXE P w) (k + 1) f fd ps sp := by
  obtain ⟨dV, oc, od, kV, doc, pm, an, cdv, ct, osl, rfl, lk, hcd⟩ := F.ex
  exact fn_of lk hcd S len fun A outer s H vs Q E hr hsp => hbody cdv A outer s H vs Q E lv_def hr hsp
/-- one argument by place, one by name -/
def kwG {α : Type} (us ws : List α) : List α := match us, ws with
  | [a], [b] => [a, b]
  | _, _ => []
theorem kwG_one {α : Type} (a b : α) : kwG [a] [b] = [a, b] := rfl
end L2

/-! ## an amount spread by weights -/
namespace Parts
/-- the parts of an amount A, by weights that come behind some of sum w, all of sum s -/
def pts (A s : Int) : Int → List Int → List Int
  | _, [] => []
  | w, x :: r => (A * (w + x) / s - A * w / s) :: pts A s (w + x) r
def parts (A : Int) (ws : List Int) : List Int := pts A ws.sum 0 ws
variable {A s : Int}
end Parts

/-! ## an argument that is no star, told once (its reduction over a long list is slow) -/
namespace L2
open PySem
section
variable {env : Env} {es : List Expr} {p : Pos}
theorem star_Constant {c : Const} {j : Nat} : starEach (.Constant c j p :: es) env = (false, eval (.Constant c j p) env) :: starEach es env := rfl
theorem star_Name {x : Str} : starEach (.Name x p :: es) env = (false, eval (.Name x p) env) :: starEach es env := rfl
theorem star_BinOp {a b : Expr} {o : Operator} : starEach (.BinOp a o b p :: es) env = (false, eval (.BinOp a o b p) env) :: starEach es env := rfl
theorem star_Tuple {xs : List Expr} {k} : starEach (.Tuple xs k p :: es) env = (false, eval (.Tuple xs k p) env) :: starEach es env := rfl
theorem star_Subscript {a b : Expr} : starEach (.Subscript a b p :: es) env = (false, eval (.Subscript a b p) env) :: starEach es env := rfl
theorem star_Call {f : Expr} {xs : List Expr} {ks : List Keyword} : starEach (.Call f xs ks p :: es) env = (false, eval (.Call f xs ks p) env) :: starEach es env := rfl
end
end L2
/-! ## where a token has been made, through statements and calls (str.replace asks for that) -/
namespace L2
open PySem PySem.Spec PyProof.Rows
def PSt (X : Cx) (st : Stmt) (t : TS) : Prop :=
  ∀ (pins : List (Addr × Obj)) (s : Shared) (σ : St) (H : Hp) (D : Ends), 0 < s.toks → Inv X pins σ H s → t D σ H → wpAny (model X.prog X.w) X.A (exec st X.env) (SP X pins D) X.xe s
def PTt (X : Cx) (e : Expr) (t : TT) : Prop :=
  ∀ (pins : List (Addr × Obj)) (s : Shared) (σ : St) (H : Hp) (Q : Bool → Hp → Prop), 0 < s.toks → Inv X pins σ H s → t σ H Q → wpAny (model X.prog X.w) X.A (isTrue e X.env (eval e X.env)) (TP X pins σ Q) X.xe s
def PWt (X : Cx) (e : Expr) (t : TT) : Prop :=
  ∀ (whole : Sem Value) (pins : List (Addr × Obj)) (s : Shared) (σ : St) (H : Hp) (Q : Bool → Hp → Prop), 0 < s.toks → Inv X pins σ H s → t σ H Q → wpAny (model X.prog X.w) X.A (isTrue e X.env whole) (TP X pins σ Q) X.xe s
theorem PWt.pt {X : Cx} {e : Expr} {t : TT} (h : PWt X e t) : PTt X e t := h _
section
variable {X : Cx} {st : Stmt} {sts rest : List Stmt} {e a b : Expr} {es : List Expr} {u v : TS} {te ta tb to : TE} {tc tA tB' : TT} {tl : TA} {pos : Pos}
theorem PE.t (h : PE X e te) : PEt X e te := fun pins s σ H Q _ I q => h pins s σ H Q I q
theorem PA.t (h : PA X es tl) : PAt X es tl := fun ps pins s σ H Q _ I q => h ps pins s σ H Q I q
theorem PS.t (h : PS X st u) : PSt X st u := fun pins s σ H D _ I q => h pins s σ H D I q
theorem PSs.t (h : PSs X sts u) : PSst X sts u := fun pins s σ H D _ I q => h pins s σ H D I q
theorem PT.t (h : PT X e tc) : PTt X e tc := fun pins s σ H Q _ I q => h pins s σ H Q I q
theorem PW.t (h : PW X e tc) : PWt X e tc := fun wh pins s σ H Q _ I q => h wh pins s σ H Q I q
end
/-! ### a statement that makes a token -/
def PEm (X : Cx) (e : Expr) (t : TE) : Prop :=
  ∀ (pins : List (Addr × Obj)) (s : Shared) (σ : St) (H : Hp) (Q : VK), Inv X pins σ H s → t σ H Q → wpAny (model X.prog X.w) X.A (eval e X.env) (fun v s' => 0 < s'.toks ∧ EP X pins σ Q v s') X.xe s
def PSm (X : Cx) (st : Stmt) (t : TS) : Prop :=
  ∀ (pins : List (Addr × Obj)) (s : Shared) (σ : St) (H : Hp) (D : Ends), Inv X pins σ H s → t D σ H → wpAny (model X.prog X.w) X.A (exec st X.env) (fun f s' => 0 < s'.toks ∧ SP X pins D f s') X.xe s
section
variable {X : Cx} {st : Stmt} {rest : List Stmt} {e a : Expr} {t u : TS} {te ta : TE} {pos cp : Pos}
end
/-! ### defs that are called where a token has been made -/
structure FnOkT (P : Program) (w : World) (K : PySem.W.Frag) (mg : Str → Option Value) (base : Heap) (CX : CXT) (k : Nat) (f : Addr) (fd : FuncData) (ps : List Str) (sp : Sp) : Prop where
  len : ∀ vs H Q E, sp vs H Q E → vs.length = ps.length
  run : ∀ (A : Around) (outer : List Env) (s : Shared) (H : Hp) (args : Args) (us : List Value) (vs : List V) (Q : VK) (E : XK), 0 < s.toks → Room k A → Env0 P w K mg base A outer s H → BindsTo s fd args (ps.zip us) → Vals vs us → sp vs H Q E →
    codeAny (model P w) A (.call (.ref f) args) (CR CX outer P w H s Q E) s
theorem fn_ofT {CX : CXT} {P : Program} {w : World} {K : PySem.W.Frag} {mg : Str → Option Value} {base : Heap} {k : Nat} {f : Addr} {name qual : Str} {params : Arguments} {body : List Stmt} {scope : Scope} {dV kV doc pm cdv ct oc : Value} {an od : Option Addr}
    {osl : Array (Option Value)} {N ps : List Str} {sp : Sp} (lk : K.lookup f = some ⟨oc, od, .func (PySem.W.fnOf name qual params body scope dV kV doc pm an cdv ct), osl⟩) (hcd : PySem.W.codeIn K cdv qual = true) (S : FnScope N ps scope)
    (len : ∀ vs H Q E, sp vs H Q E → vs.length = ps.length)
    (hbody : ∀ (A : Around) (outer : List Env) (s : Shared) (H : Hp) (vs : List V) (Q : VK) (E : XK), Room k (A.deeper (envOfC qual scope s.heap.objs.size f cdv)) → sp vs H Q E →
      ∃ t, PSst (cxOf CX P w K mg base N qual scope f cdv A outer s H E) body t ∧ t { nx := fun _ H' => Q .non H', rt := Q } (start N vs) H) :
    FnOkT P w K mg base CX (k + 1) f (PySem.W.fnOf name qual params body scope dV kV doc pm an cdv ct) ps sp := by
  refine ⟨len, fun A outer s H args us vs Q E h0 hr e0 hb r hsp => ?_⟩
  have hl := len _ _ _ _ hsp
  have KX : K.In s.heap := e0.mod.kin.keeps fun b o e => (e0.bs b o e).1
  have lim : s.heap.NoLimit := e0.mod.nolimit.keeps fun b o e => (e0.bs b o e).1
  have hkind : ∀ y ∈ ps.zip us, scope.names.lookup y.1 = some .local ∨ (scope.names.lookup y.1 = some .cell ∧ ((cellsFrom (s.heap.objs.size + 1) scope.names []).lookup y.1).isSome = true) := fun ⟨n, v⟩ hy => by
    rcases S.par n (List.of_mem_zip hy).1 with q | q
    · exact .inl q
    · exact .inr ⟨q, PySem.W.cellsFrom_some _ _ _ (.inl q)⟩
  refine codeAny_call_function hr.depth (KX _ _ lk) rfl S.co S.gen rfl (PySem.W.codeRec_of KX hcd) (hb _ _ _ _ ?_)
  refine wpAny_with_toks (n := 1) h0 (wpAny_newFunctionEnv_cells S.kind hkind fun env he s1 x l1 => ?_)
  subst he
  refine ⟨lim.keeps x.toInCall.keep, codeAny_func ?_⟩
  obtain ⟨t, ht, hq⟩ := hbody A outer s H vs Q E (hr.deeper _) hsp
  have I : Inv (cxOf CX P w K mg base N qual scope f cdv A outer s H E) [] (start N vs) H s1 := inv_start S hr.hd e0 hl r x
  refine wpAny_mono (ht [] s1 (start N vs) H _ l1 I hq) (fun fl s' hs => ?_) fun e s' hs => hs
  have fin : ∀ {σ' : St} {H' : Hp} {v : V} {u : Value}, Inv (cxOf CX P w K mg base N qual scope f cdv A outer s H E) [] σ' H' s' → RelV v u → Q v H' → CE outer P w H s Q u s' :=
    fun {σ' H' v u} J rv q => ⟨v, H', J.os, J.bare, J.base, J.hok, rv, q⟩
  cases fl with
  | ret u =>
    obtain ⟨v, σ', H', J, rv, q⟩ := hs
    exact fin J rv q
  | next =>
    obtain ⟨σ', H', J, q⟩ := hs
    exact fin (v := V.non) (u := Value.none) J rfl q
  | brk =>
    obtain ⟨_, _, _, q⟩ := hs
    exact False.elim q
  | cont =>
    obtain ⟨_, _, _, q⟩ := hs
    exact False.elim q
section
variable {P : Program} {w : World} {K : PySem.W.Frag} {mg : Str → Option Value} {base : Heap} {x qual : Str} {st : Stmt} {f : Addr} {fd : FuncData} {N ps : List Str} {k : Nat} {sp : Sp}
theorem Fun.okXT (F : Fun K x qual st f fd) (S : FnScope N ps (defScope st)) (len : ∀ vs H Q E, sp vs H Q E → vs.length = ps.length)
    (hbody : ∀ (cdv : Value) (A : Around) (outer : List Env) (s : Shared) (H : Hp) (vs : List V) (Q : VK) (E : XK), LvR (cxOf (CXE P w) P w K mg base N qual (defScope st) f cdv A outer s H E) (fun _ => E) → Room k (A.deeper (envOfC qual (defScope st) s.heap.objs.size f cdv)) → sp vs H Q E →
      ∃ t, PSst (cxOf (CXE P w) P w K mg base N qual (defScope st) f cdv A outer s H E) (defBody st) t ∧ t { nx := fun _ H' => Q .non H', rt := Q } (start N vs) H) : FnOkT P w K mg base (CXE P w) (k + 1) f fd ps sp := by
  obtain ⟨oc, od, kV, doc, pm, an, cdv, ct, osl, rfl, lk, hcd⟩ := F.ex
  exact fn_ofT lk hcd S len fun A outer s H vs Q E hr hsp => hbody cdv A outer s H vs Q E lv_def hr hsp
theorem FunD.okXT (F : FunD K x qual st f fd) (S : FnScope N ps (defScope st)) (len : ∀ vs H Q E, sp vs H Q E → vs.length = ps.length)
    (hbody : ∀ (cdv : Value) (A : Around) (outer : List Env) (s : Shared) (H : Hp) (vs : List V) (Q : VK) (E : XK), LvR (cxOf (CXE P w) P w K mg base N qual (defScope st) f cdv A outer s H E) (fun _ => E) → Room k (A.deeper (envOfC qual (defScope st) s.heap.objs.size f cdv)) → sp vs H Q E →
      ∃ t, PSst (cxOf (CXE P w) P w K mg base N qual (defScope st) f cdv A outer s H E) (defBody st) t ∧ t { nx := fun _ H' => Q .non H', rt := Q } (start N vs) H) : FnOkT P w K mg base (CXE P w) (k + 1) f fd ps sp := by
  obtain ⟨dV, oc, od, kV, doc, pm, an, cdv, ct, osl, rfl, lk, hcd⟩ := F.ex
  exact fn_ofT lk hcd S len fun A outer s H vs Q E hr hsp => hbody cdv A outer s H vs Q E lv_def hr hsp
end
section
variable {X : Cx} {Ek : St → XK} {k : Nat} {f : Addr} {fd : FuncData} {ps ks : List Str} {sp : Sp} {x : Str} {p pos : Pos} {e : Expr} {es : List Expr} {kws : List Keyword} {t tk : TA} {g : List Value → List Value → List Value} {gV : List V → List V → List V} {dvs : List V} {ds : List Value}
end
section
variable {X : Cx} {body suite : List Stmt} {b₀ : Stmt} {n xn : Str} {i : Nat} {C : Addr} {tb : (St → XK) → TS} {ts : TS} {np hpos pos : Pos}
end
end L2
namespace L2
open PySem PySem.Spec PyProof.Rows
section
variable {X : Cx}
end
end L2

/-! ## amounts with places, as texts -/
namespace L2
open PySem PySem.NumText
/-- the figures, padded with noughts ahead, are those ahead of the point and those behind it -/
theorem zf_split : ∀ (p m : Nat), zf (dg m) (p + 1) = dg (m / 10 ^ p) ++ fig p (m : Int)
  | 0, m => by
    rw [Nat.pow_zero, Nat.div_one]
    unfold zf
    have := dg_pos m
    rw [show 0 + 1 - (dg m).length = 0 by omega]
    show dg m = dg m ++ []
    rw [List.append_nil]
  | p + 1, m => by
    rw [fig_snoc]
    have e : ((m : Int) / 10) = ((m / 10 : Nat) : Int) := by omega
    have e2 : ((m : Int) % 10).toNat = m % 10 := by omega
    have e3 : m / 10 ^ (p + 1) = m / 10 / 10 ^ p := by rw [Nat.pow_succ, Nat.mul_comm, Nat.div_div_eq_div_mul]
    rw [e, e2, e3, ← List.append_assoc, ← zf_split p (m / 10)]
    by_cases c : m < 10
    · rw [dg_lt c, show m / 10 = 0 by omega, show m % 10 = m by omega, dg_lt (show 0 < 10 by decide)]
      unfold zf
      rw [List.length_singleton, List.length_singleton, Nat.add_sub_cancel, Nat.add_sub_cancel, List.replicate_succ']
    · rw [dg_ge (n := m) (by omega)]
      unfold zf
      rw [List.length_append, List.length_singleton, ← List.append_assoc]
      congr 3
      omega
/-- the text of the amount n with p places -/
def atxt (n : Int) (p : Nat) : List Nat :=
  (if n < 0 then [45] else []) ++ (dg (n.natAbs / 10 ^ p) ++ (if p = 0 then [] else 46 :: fig p (n.natAbs : Int)))
/-- how many figures it has -/
def acnt (n : Int) (p : Nat) : Nat := (dg (n.natAbs / 10 ^ p)).length + p
theorem dg_len : ∀ (k n : Nat), 0 < k → n < 10 ^ k → (dg n).length ≤ k
  | 0, _, h, _ => absurd h (by decide)
  | k + 1, n, _, h => by
    by_cases c : n < 10
    · rw [dg_lt c, List.length_singleton]; omega
    · rw [dg_ge (by omega), List.length_append, List.length_singleton]
      have k0 : 0 < k := by
        rcases k with _ | k
        · simp at h; omega
        · omega
      have := dg_len k (n / 10) k0 (by rw [Nat.pow_succ] at h; omega)
      omega
theorem strike_digits {cs : List Nat} (h : AllDigits cs) (c : Nat) (hc : c < 48) : cs.filter (· != c) = cs := by
  rw [List.filter_eq_self]
  intro a ha
  have := h a ha
  simp
  omega
theorem atxt_strike (n : Int) (p : Nat) : ((atxt n p).filter (· != 45)).filter (· != 46) = zf (dg n.natAbs) (p + 1) := by
  rw [zf_split]
  have d1 := dg_digits (n.natAbs / 10 ^ p)
  have d2 := fig_digits p (n.natAbs : Int)
  unfold atxt
  rw [List.filter_append, List.filter_append, List.filter_append, List.filter_append]
  rw [strike_digits d1 45 (by decide), strike_digits d1 46 (by decide)]
  have e1 : (List.filter (· != 46) (List.filter (· != 45) (if n < 0 then [45] else []))) = [] := by split <;> rfl
  rw [e1, List.nil_append]
  congr 1
  by_cases z : p = 0
  · subst z
    rfl
  · rw [if_neg z, List.filter_cons, if_pos (by decide), List.filter_cons, if_neg (by decide), strike_digits d2 45 (by decide), strike_digits d2 46 (by decide)]
theorem atxt_head (n : Int) (p : Nat) : (atxt n p).head? = some 45 ↔ n < 0 := by
  unfold atxt
  by_cases h : n < 0
  · rw [if_pos h]
    simp [h]
  · rw [if_neg h, List.nil_append]
    have d1 := dg_digits (n.natAbs / 10 ^ p)
    cases e : dg (n.natAbs / 10 ^ p) with
    | nil => have := dg_pos (n.natAbs / 10 ^ p); rw [e] at this; cases this
    | cons c r =>
      rw [e] at d1
      have := d1 c List.mem_cons_self
      simp only [List.cons_append, List.head?_cons, Option.some.injEq]
      constructor
      · intro z; omega
      · intro z; exact absurd z h
theorem dg_val (n : Nat) : digitsVal (dg n) = n := by
  induction n using Nat.strongRecOn with
  | _ n ih =>
    by_cases h : n < 10
    · rw [dg_lt h]
      have := digitsVal_snoc [] (48 + n)
      simp at this
      rw [this]
      simp [digitsVal]
    · rw [dg_ge (by omega), digitsVal_snoc, ih (n / 10) (by omega)]
      omega
theorem zf_val (m : Nat) : ∀ k, digitsVal (zf (dg m) (k + 1)) = m := by
  intro k
  induction k generalizing m with
  | zero => rw [zf_split, Nat.pow_zero, Nat.div_one]; show digitsVal (dg m ++ []) = m; rw [List.append_nil, dg_val]
  | succ k ih =>
    rw [zf_split, fig_snoc]
    have e : ((m : Int) / 10) = ((m / 10 : Nat) : Int) := by omega
    have e2 : ((m : Int) % 10).toNat = m % 10 := by omega
    have e3 : m / 10 ^ (k + 1) = m / 10 / 10 ^ k := by rw [Nat.pow_succ, Nat.mul_comm, Nat.div_div_eq_div_mul]
    rw [e, e2, e3, ← List.append_assoc, ← zf_split k (m / 10), digitsVal_snoc, ih (m / 10)]
    omega
/-- a text that is written as an amount with p places, of at most sixty figures -/
def Written (cs : List Nat) (p : Nat) (n : Int) : Prop := cs = atxt n p ∧ acnt n p ≤ 60
theorem atxt_inj {n n' : Int} {p : Nat} (h : atxt n p = atxt n' p) : n = n' := by
  have h1 := congrArg (fun cs => digitsVal ((cs.filter (· != 45)).filter (· != 46))) h
  simp only [atxt_strike, zf_val] at h1
  have h2 := atxt_head n p
  have h3 := atxt_head n' p
  rw [h, h3] at h2
  omega
theorem acnt_le {n : Int} {p : Nat} (hn : n.natAbs < 10 ^ 60) (hp : p ≤ 6) : acnt n p ≤ 60 := by
  unfold acnt
  have h : n.natAbs / 10 ^ p < 10 ^ (60 - p) := by
    refine Nat.div_lt_of_lt_mul ?_
    rw [← Nat.pow_add, show p + (60 - p) = 60 by omega]
    exact hn
  have := dg_len (60 - p) _ (by omega) h
  omega
theorem Written.one {cs : List Nat} {p : Nat} {n n' : Int} (h : Written cs p n) (g : Written cs p n') : n = n' := atxt_inj (h.1.symm.trans g.1)
theorem written {n : Int} {p : Nat} (hn : n.natAbs < 10 ^ 60) (hp : p ≤ 6) : Written (atxt n p) p n := ⟨rfl, acnt_le hn hp⟩
/-- how a text behind its sign is read: the point's place, the number, how many figures -/
def Sh (r : List Nat) (pt : Option Nat) (num fg : Nat) : Prop :=
  match pt with
  | none => AllDigits r ∧ num = digitsVal r ∧ fg = r.length
  | some a => ∃ A B, r = A ++ 46 :: B ∧ A.length = a ∧ AllDigits A ∧ AllDigits B ∧ num = digitsVal (A ++ B) ∧ fg = A.length + B.length
theorem Sh.nil : Sh [] none 0 0 := ⟨(fun c h => nomatch h), rfl, rfl⟩
theorem ite_of {c A B : Prop} [Decidable c] (h1 : c → A) (h2 : ¬ c → B) : if c then A else B := by
  by_cases h : c
  · rw [if_pos h]; exact h1 h
  · rw [if_neg h]; exact h2 h
end L2

namespace L2
open PySem PySem.Spec PyProof.Rows

/-! ### lists of pairs as tables -/
section
variable {κ : Type} [DecidableEq κ]
def valV (kvs : List (κ × V)) (k : κ) : Option V := (kvs.find? fun kv => decide (kv.1 = k)).map (·.2)
/-- in its place, or at the end -/
def putK (kvs : List (κ × V)) (k : κ) (v : V) : List (κ × V) :=
  if (kvs.any fun kv => decide (kv.1 = k)) = true then kvs.map (fun kv => if kv.1 = k then (kv.1, v) else kv) else kvs ++ [(k, v)]
def dropK (kvs : List (κ × V)) (k : κ) : List (κ × V) := kvs.filter fun kv => decide (kv.1 ≠ k)

theorem valV_nil {k : κ} : valV ([] : List (κ × V)) k = none := rfl
theorem valV_pos {p : κ × V} {r : List (κ × V)} {k : κ} (e : p.1 = k) : valV (p :: r) k = some p.2 := by simp [valV, List.find?_cons, e]
theorem valV_neg {p : κ × V} {r : List (κ × V)} {k : κ} (e : ¬ p.1 = k) : valV (p :: r) k = valV r k := by simp [valV, List.find?_cons, e]
theorem valV_any (k : κ) : ∀ kvs : List (κ × V), (kvs.any fun kv => decide (kv.1 = k)) = (valV kvs k).isSome
  | [] => rfl
  | p :: r => by
    rw [List.any_cons]
    by_cases e : p.1 = k
    · simp only [valV_pos e, decide_eq_true e, Bool.true_or, Option.isSome_some]
    · rw [valV_neg e, decide_eq_false e, Bool.false_or]; exact valV_any k r
theorem length_putK (kvs : List (κ × V)) (k : κ) (v : V) : (putK kvs k v).length ≤ kvs.length + 1 := by
  unfold putK
  split
  · rw [List.length_map]; omega
  · rw [List.length_append, List.length_cons, List.length_nil]; omega
theorem putK_new {kvs : List (κ × V)} {k : κ} (v : V) (h : valV kvs k = none) : putK kvs k v = kvs ++ [(k, v)] := by
  unfold putK
  rw [valV_any, h]
  exact if_neg (by decide)

theorem RelO.isSome_eq {o : Option V} {u : Option Value} (r : RelO o u) : o.isSome = u.isSome := by
  cases o with
  | none => cases u with
    | none => rfl
    | some _ => exact (show False from r).elim
  | some _ => cases u with
    | none => exact (show False from r).elim
    | some _ => rfl
theorem RelO.getD {o : Option V} {u : Option Value} {d : V} {d' : Value} (r : RelO o u) (rd : RelV d d') : RelV (o.getD d) (u.getD d') := by
  cases o with
  | none => cases u with
    | none => exact rd
    | some _ => exact (show False from r).elim
  | some _ => cases u with
    | none => exact (show False from r).elim
    | some _ => exact r

/-- raw tables of the same keys -/
theorem KV.val {kvs : List (κ × V)} {vs : List (κ × Value)} (r : KV kvs vs) (k : κ) : RelO (valV kvs k) (valueAt vs k) := by
  unfold KV at r
  induction r with
  | nil => exact True.intro
  | @cons p q ps qs h t ih =>
    obtain ⟨h1, h2⟩ := h
    by_cases e : p.1 = k
    · have e' : q.1 = k := h1.symm.trans e
      have b : valueAt (q :: qs) k = some q.2 := by simp [valueAt, List.find?_cons, e']
      rw [valV_pos e, b]; exact h2
    · have e' : ¬ q.1 = k := fun z => e (h1.trans z)
      have b : valueAt (q :: qs) k = valueAt qs k := by simp [valueAt, List.find?_cons, e']
      rw [valV_neg e, b]; exact ih
theorem KV.any {kvs : List (κ × V)} {vs : List (κ × Value)} (r : KV kvs vs) (k : κ) : (kvs.any fun kv => decide (kv.1 = k)) = vs.any fun kv => decide (kv.1 = k) := by
  unfold KV at r
  induction r with
  | nil => rfl
  | cons h t ih => rw [List.any_cons, List.any_cons, ih, h.1]
theorem KV.repl {kvs : List (κ × V)} {vs : List (κ × Value)} (r : KV kvs vs) (k : κ) {y : V} {u : Value} (ry : RelV y u) :
    KV (kvs.map fun kv => if kv.1 = k then (kv.1, y) else kv) (vs.map fun kv => if kv.1 = k then (kv.1, u) else kv) := by
  unfold KV at r ⊢
  induction r with
  | nil => exact .nil
  | @cons p q ps qs h t ih =>
    rw [List.map_cons, List.map_cons]
    refine .cons ?_ ih
    obtain ⟨h1, h2⟩ := h
    by_cases e : p.1 = k
    · rw [if_pos e, if_pos (h1.symm.trans e)]; exact ⟨h1, ry⟩
    · rw [if_neg e, if_neg (fun z => e (h1.trans z))]; exact ⟨h1, h2⟩
theorem KV.put {kvs : List (κ × V)} {vs : List (κ × Value)} (r : KV kvs vs) (k : κ) {y : V} {u : Value} (ry : RelV y u) : KV (putK kvs k y) (stored vs k u) := by
  unfold putK stored
  rw [r.any k]
  by_cases e : (vs.any fun kv => decide (kv.1 = k)) = true
  · rw [if_pos e, if_pos e]; exact r.repl k ry
  · rw [if_neg e, if_neg e]; exact Paired.snoc r ⟨rfl, ry⟩
theorem KV.drop {kvs : List (κ × V)} {vs : List (κ × Value)} (r : KV kvs vs) (k : κ) : KV (dropK kvs k) (without vs k) := by
  unfold KV at r ⊢
  unfold dropK without
  induction r with
  | nil => exact .nil
  | @cons p q ps qs h t ih =>
    obtain ⟨h1, h2⟩ := h
    rw [List.filter_cons, List.filter_cons]
    by_cases e : p.1 = k
    · have a : ¬ decide (p.1 ≠ k) = true := by simp [e]
      have b : ¬ decide (q.1 ≠ k) = true := by simp [h1.symm.trans e]
      rw [if_neg a, if_neg b]; exact ih
    · have e' : ¬ q.1 = k := fun z => e (h1.trans z)
      have a : decide (p.1 ≠ k) = true := by simp [e]
      have b : decide (q.1 ≠ k) = true := by simp [e']
      rw [if_pos a, if_pos b]; exact .cons ⟨h1, h2⟩ ih
theorem KV.keys {kvs : List (κ × V)} {vs : List (κ × Value)} (r : KV kvs vs) : kvs.map (·.1) = vs.map (·.1) := by
  unfold KV at r
  induction r with
  | nil => rfl
  | cons h t ih => rw [List.map_cons, List.map_cons, ih, h.1]
theorem KV.length {kvs : List (κ × V)} {vs : List (κ × Value)} (r : KV kvs vs) : kvs.length = vs.length := Paired.length r
end


/-! ### a tracked dict, its keys ints and texts or tuples of these -/
theorem kV_is {P : Program} {w : World} {k : Key} {u : Value} (r : RelV (kV k) u) : (mixKind P w).is k u = true := by
  cases k with
  | inl i => obtain ⟨t, e⟩ := (show ∃ t, u = Value.int i t from r); subst e; exact mixKind_int P w i t
  | inr x => obtain ⟨t, e⟩ := (show ∃ t, u = Value.str x t from r); subst e; exact mixKind_str P w x t
theorem items_are {P : Program} {w : World} : ∀ {ks : List Key} {us : List Value}, Vals (ks.map kV) us → ItemsAre (mixKind P w) ks us
  | [], _, r => by rw [List.map_nil] at r; cases r; exact .nil
  | k :: ks, _, r => by
    rw [List.map_cons] at r
    cases r with
    | cons h t => exact .cons (kV_is h) (items_are t)

/-- raw entries of a dict with tuple keys -/
abbrev KT (H : Hp) : List (List Key × V) → List (List Key × Addr × Value) → Prop := Paired fun p q => p.1 = q.1 ∧ H q.2.1 = some (.tup (p.1.map kV)) ∧ RelV p.2 q.2.2
theorem KT.val {H : Hp} {kvs : List (List Key × V)} {xs : List (List Key × Addr × Value)} (r : KT H kvs xs) (k : List Key) : RelO (valV kvs k) ((atKey xs k).map (·.2)) := by
  induction r with
  | nil => exact True.intro
  | @cons p q ps qs h t ih =>
    obtain ⟨h1, _, h2⟩ := h
    by_cases e : p.1 = k
    · have e' : q.1 = k := h1.symm.trans e
      have b : atKey (q :: qs) k = some q.2 := by simp [atKey, List.find?_cons, e']
      rw [valV_pos e, b]; exact h2
    · have e' : ¬ q.1 = k := fun z => e (h1.trans z)
      have b : atKey (q :: qs) k = atKey qs k := by simp [atKey, List.find?_cons, e']
      rw [valV_neg e, b]; exact ih
theorem KT.repl {H : Hp} {kvs : List (List Key × V)} {xs : List (List Key × Addr × Value)} (r : KT H kvs xs) (k : List Key) {y : V} {u : Value} (ry : RelV y u) :
    KT H (kvs.map fun kv => if kv.1 = k then (kv.1, y) else kv) (xs.map (putAt k u)) := by
  induction r with
  | nil => exact .nil
  | @cons p q ps qs h t ih =>
    rw [List.map_cons, List.map_cons]
    refine .cons ?_ ih
    obtain ⟨h1, h2, h3⟩ := h
    unfold putAt
    by_cases e : p.1 = k
    · rw [if_pos e, if_pos (h1.symm.trans e)]; exact ⟨h1, h2, ry⟩
    · rw [if_neg e, if_neg (fun z => e (h1.trans z))]; exact ⟨h1, h2, h3⟩
theorem KT.put {H : Hp} {kvs : List (List Key × V)} {xs : List (List Key × Addr × Value)} (r : KT H kvs xs) (k : List Key) {b : Addr} {y : V} {u : Value} (hb : H b = some (.tup (k.map kV))) (ry : RelV y u) :
    KT H (putK kvs k y) (storedH xs k b u) := by
  have e : (kvs.any fun kv => decide (kv.1 = k)) = (atKey xs k).isSome := by
    rw [valV_any, (r.val k).isSome_eq, Option.isSome_map]
  unfold putK storedH
  rw [e]
  by_cases q : (atKey xs k).isSome = true
  · rw [if_pos q, if_pos q]; exact r.repl k ry
  · rw [if_neg q, if_neg q]; exact Paired.snoc r ⟨rfl, hb, ry⟩
theorem KT.keeps {H H' : Hp} {kvs : List (List Key × V)} {xs : List (List Key × Addr × Value)} (r : KT H kvs xs) (ht : ∀ b ys, H b = some (.tup ys) → H' b = some (.tup ys)) : KT H' kvs xs :=
  Paired.mapP r fun _ _ z => ⟨z.1, ht _ _ z.2.1, z.2.2⟩

section
variable {P : Program} {w : World} {H : Hp} {h : Heap} {a : Addr}
theorem rd_of {u : HO} (ok : HOk P w H h) (e : Rd H a u) : ObjOk P w H h a u := e.ok ok
theorem dk_rd {kvs : List (Key × V)} (ok : HOk P w H h) (e : Rd H a (.dK kvs)) : kvs.length ≤ sizeLine ∧ (a == sysModules) = false ∧ ∃ vs, KV kvs vs ∧ h.DictOf (mixKind P w) a vs :=
  show ObjOk P w H h a (.dK kvs) from rd_of ok e
theorem dk_of {kvs : List (Key × V)} (ok : HOk P w H h) (e : H a = some (.dK kvs)) : kvs.length ≤ sizeLine ∧ (a == sysModules) = false ∧ ∃ vs, KV kvs vs ∧ h.DictOf (mixKind P w) a vs := dk_rd ok (.inl e)
/-- a tracked tuple of ints and texts is a key -/
theorem key_of {ks : List Key} (ok : HOk P w H h) (e : H a = some (.tup (ks.map kV))) : (tupleKind (mixKind P w)).is h ks a := by
  obtain ⟨_, its, r, o, h1, h2, n, h3⟩ := (show ObjOk P w H h a (.tup (ks.map kV)) from ok a _ e)
  exact ⟨o, its.toArray, n, h1, h2, h3, by simpa using items_are r⟩
theorem dt_rd {kvs : List (List Key × V)} (ok : HOk P w H h) (e : Rd H a (.dT kvs)) : kvs.length ≤ sizeLine ∧ (a == sysModules) = false ∧
    ∃ xs, KT H kvs xs ∧ h.DictOfH (tupleKind (mixKind P w)) a xs := by
  obtain ⟨z, y, xs, r, o, es, ep, h1, h2, h3, h4, h5⟩ := (show ObjOk P w H h a (.dT kvs) from rd_of ok e)
  refine ⟨z, y, xs, r, o, es, ep, h1, h2, h3, h4, fun x hx => ?_, h5⟩
  have all : ∀ {l : List (List Key × V)} {m : List (List Key × Addr × Value)}, KT H l m → ∀ x ∈ m, (tupleKind (mixKind P w)).is h x.1 x.2.1 := by
    intro l m q
    induction q with
    | nil => intro x hx; exact nomatch hx
    | @cons p q ps qs hq t ih =>
      intro x hx
      rcases List.mem_cons.mp hx with e | hx
      · subst e
        exact key_of ok (by rw [← hq.1]; exact hq.2.1)
      · exact ih x hx
  exact all r x hx
theorem dt_of {kvs : List (List Key × V)} (ok : HOk P w H h) (e : H a = some (.dT kvs)) : kvs.length ≤ sizeLine ∧ (a == sysModules) = false ∧
    ∃ xs, KT H kvs xs ∧ h.DictOfH (tupleKind (mixKind P w)) a xs := dt_rd ok (.inl e)
end

/-- what the dict at a holds at the key y -/
def DGet (H : Hp) (a : Addr) (y : V) (r : Option V) : Prop :=
  (∃ kvs k, Rd H a (.dK kvs) ∧ y = kV k ∧ r = valV kvs k) ∨ ∃ kvs k b, Rd H a (.dT kvs) ∧ y = .ref b ∧ H b = some (.tup (k.map kV)) ∧ r = valV kvs k
/-- the heap behind a[y] = v -/
def DPut (H : Hp) (a : Addr) (y v : V) (H' : Hp) : Prop :=
  (∃ kvs k, H a = some (.dK kvs) ∧ y = kV k ∧ kvs.length < sizeLine ∧ H' = upd H a (.dK (putK kvs k v))) ∨
  ∃ kvs k b, H a = some (.dT kvs) ∧ y = .ref b ∧ H b = some (.tup (k.map kV)) ∧ kvs.length < sizeLine ∧ H' = upd H a (.dT (putK kvs k v))
theorem DGet.k {H : Hp} {a : Addr} {kvs : List (Key × V)} {k : Key} (e : H a = some (.dK kvs)) : DGet H a (kV k) (valV kvs k) := .inl ⟨kvs, k, .inl e, rfl, rfl⟩
theorem DGet.t {H : Hp} {a b : Addr} {kvs : List (List Key × V)} {k : List Key} (e : H a = some (.dT kvs)) (eb : H b = some (.tup (k.map kV))) : DGet H a (.ref b) (valV kvs k) := .inr ⟨kvs, k, b, .inl e, rfl, eb, rfl⟩
theorem DPut.k {H : Hp} {a : Addr} {kvs : List (Key × V)} {k : Key} {v : V} (e : H a = some (.dK kvs)) (hl : kvs.length < sizeLine) : DPut H a (kV k) v (upd H a (.dK (putK kvs k v))) := .inl ⟨kvs, k, e, rfl, hl, rfl⟩
theorem DPut.t {H : Hp} {a b : Addr} {kvs : List (List Key × V)} {k : List Key} {v : V} (e : H a = some (.dT kvs)) (eb : H b = some (.tup (k.map kV))) (hl : kvs.length < sizeLine) :
    DPut H a (.ref b) v (upd H a (.dT (putK kvs k v))) := .inr ⟨kvs, k, b, e, rfl, eb, hl, rfl⟩


section
variable {X : Cx} {pins : List (Addr × Obj)} {σ : St} {H : Hp} {s : Shared} {a : Addr} {y v : V} {u r : Value} {o : Option V} {A : Around} {E : Value → Shared → Prop}

theorem Inv.big (I : Inv X pins σ H s) : sysModules < s.heap.objs.size := by
  have h : mainGlobals < s.heap.objs.size := (I.mod.glob.keeps I.bk).lt
  exact Nat.lt_trans (by decide) h

/-- d[y], there -/
theorem d_getItem {Q : Value → Shared → Prop} (hu : A.units + 1 < cLine) (I : Inv X pins σ H s) (g : DGet H a y (some v)) (ry : RelV y u) (h : ∀ w' s', Inv X pins σ H s' → RelV v w' → Q w' s') :
    wpAny (model X.prog X.w) A (getItem (.ref a) u) Q E s := by
  rcases g with ⟨kvs, k, e, ey, l⟩ | ⟨kvs, k, b, e, ey, eb, l⟩
  · subst ey
    obtain ⟨z, hd, vs, rel, dd⟩ := dk_rd I.hok e
    obtain ⟨w', hw, rw'⟩ := RelO.some_of (v := v) (o := valueAt vs k) (by rw [l]; exact rel.val k)
    exact wpAny_getItem_of (kV_is ry) dd.mapOf hw (h w' _ (I.tok _) rw')
  · subst ey
    cases (show u = Value.ref b from ry)
    obtain ⟨z, hd, xs, rel, dd⟩ := dt_rd I.hok e
    obtain ⟨w', hw, rw'⟩ := RelO.some_of (v := v) (o := (atKey xs k).map (·.2)) (by rw [l]; exact rel.val k)
    obtain ⟨p, hp, hp2⟩ := Option.map_eq_some_iff.mp hw
    refine wpAny_getItem_heap (tupleKind_room_in1 hu) (key_of I.hok eb) dd hp ?_
    rw [hp2]
    exact h w' _ (I.tok _) rw'
/-- a dict's object is replaced -/
theorem d_write {h' : Heap} {t' : Nat} {ob : HO} (I : Inv X pins σ H s) (mu : Mut (H a)) (hs : Heap.SameBut a s.heap h') (he : ∃ q, h'.get? a = some q) (new : ObjOk X.prog X.w (upd H a ob) h' a ob) :
    Inv X pins σ (upd H a ob) { s with heap := h', toks := t' } :=
  I.write (x := a) (e := a) mu (.inl rfl) (fun b q hb z => (hs.2 b hb).trans z) he new
theorem dk_new {P : Program} {w : World} {H' : Hp} {h' : Heap} {kvs : List (Key × V)} {vs : List (Key × Value)} (z : kvs.length ≤ sizeLine) (hd : (a == sysModules) = false) (rel : KV kvs vs) (dd : h'.DictOf (mixKind P w) a vs) :
    ObjOk P w H' h' a (.dK kvs) := ⟨z, hd, vs, rel, dd⟩
/-- d[y] = v -/
theorem d_setItem {H' : Hp} {Q : Unit → Shared → Prop} (hu : A.units + 1 < cLine) (I : Inv X pins σ H s) (g : DPut H a y v H') (ry : RelV y u) (rv : RelV v r) (h : ∀ s', Inv X pins σ H' s' → Q () s') :
    wpAny (model X.prog X.w) A (setItem (.ref a) u r) Q E s := by
  rcases g with ⟨kvs, k, e, ey, l, eH⟩ | ⟨kvs, k, b, e, ey, eb, l, eH⟩
  · subst ey eH
    obtain ⟨z, hd, vs, rel, dd⟩ := dk_of I.hok e
    have hz : vs.length ≤ sizeLine := by rw [← rel.length]; exact z
    have hl : (putK kvs k v).length ≤ sizeLine := by have := length_putK kvs k v; omega
    refine wpAny_setItem_pairs (hsz := hz) (kV_is ry) dd fun h' dd' hs => h _ ?_
    have he : ∃ q, h'.get? a = some q := let ⟨q, _, _, hq, _⟩ := dd'; ⟨q, hq⟩
    exact d_write I (by rw [e]; exact True.intro) hs he (dk_new hl hd (rel.put k rv) dd')
  · subst ey eH
    cases (show u = Value.ref b from ry)
    obtain ⟨z, hd, xs, rel, dd⟩ := dt_of I.hok e
    have hz : xs.length ≤ sizeLine := by rw [← Paired.length rel]; exact z
    have hl : (putK kvs k v).length ≤ sizeLine := by have := length_putK kvs k v; omega
    refine wpAny_setItem_heap (hsz := hz) (tupleKind_room_in1 hu) (key_of I.hok eb) dd fun h' dd' hs => h _ ?_
    obtain ⟨q, es, ep, hq, h2, h3, h4, _, h5⟩ := dd'
    refine d_write I (by rw [e]; exact True.intro) hs ⟨q, hq⟩ ⟨hl, hd, _, (rel.put k eb rv).keeps fun c ys ec => ?_, q, es, ep, hq, h2, h3, h4, h5⟩
    rw [upd_ne (ne_of ec e (fun z => nomatch z))]
    exact ec
end

section
variable {X : Cx} {pins : List (Addr × Obj)} {σ : St} {H : Hp} {s : Shared} {a : Addr} {kvs : List (Key × V)} {k : Key} {u : Value} {A : Around} {E : Value → Shared → Prop}
/-- len(d) -/
theorem d_len {Q : Value → Shared → Prop} (I : Inv X pins σ H s) (e : Rd H a (.dK kvs)) (h : ∀ t s', Inv X pins σ H s' → Q (.int kvs.length t) s') : wpAny (model X.prog X.w) A (call (.builtin "len") [.ref a]) Q E s := by
  obtain ⟨z, hd, vs, rel, dd⟩ := dk_rd I.hok e
  refine call_len_dict hd dd (by rw [← rel.length]; rw [sizeLine_eq] at z; omega) ?_
  rw [← rel.length]
  exact h _ _ (I.tok _)
end


/-! ### readings and rules -/
/-- the element of a subscription, not a slice -/
def NoSl (i : Expr) : Prop := ∀ ov iv, subscripted i false ov iv = operate [ov, iv] (getItem ov iv)
theorem subD_of {prog : Program} {w : World} {A : Around} {E : Value → Shared → Prop} {s : Shared} {env : Env} {value slice : Expr} {pos : Pos} {T id : String} {Q : Value → Shared → Prop}
    (hl : typeLookup (.type T) "__getitem__" = pure (some (.builtin id))) (hs : NoSl slice)
    (h : wpAny (model prog w) A (eval value env) (fun o s₁ => wpAny (model prog w) A (eval slice env) (fun i s₂ => s₂.TypeIs o T ∧ wpAny (model prog w) A (getItem o i) Q E s₂) E s₁) E s) :
    wpAny (model prog w) A (eval (.Subscript value slice pos) env) Q E s := by
  refine Subscript_ (wpAny_mono h (fun o s₁ h₁ => wpAny_mono h₁ (fun i s₂ h₂ => ?_) fun _ _ x => x) fun _ _ x => x)
  obtain ⟨hT, h₂⟩ := h₂
  unfold subscriptTail
  refine wpAny_bind ?_
  rw [getitemInPython_of_ne hT.not_modules]
  refine wpAny_bind (wpAny_specialOf hT hl ?_)
  have fin : wpAny (model prog w) A (subscripted slice false o i) (fun r s₃ => wpAny (model prog w) A (letTemporaryGo value o r >>= fun _ => pure r) Q E s₃) E s₂ := by
    rw [hs o i]
    exact wpAny_operating (wpAny_mono h₂ (fun r s₃ h₃ => wpAny_bind (wpAny_letTemporaryGo (wpAny_pure h₃))) fun _ _ x => x)
  first
    | exact wpAny_pure (wpAny_bind fin)
    | exact wpAny_bind (wpAny_pure (wpAny_bind fin))
    | exact wpAny_bind fin

theorem dict_typeIs {X : Cx} {pins : List (Addr × Obj)} {σ : St} {H : Hp} {s : Shared} {a : Addr} {y : V} {o : Option V} (I : Inv X pins σ H s) (g : DGet H a y o) : s.TypeIs (.ref a) "dict" := by
  rcases g with ⟨kvs, k, e, _, _⟩ | ⟨kvs, k, b, e, _, _, _⟩
  · obtain ⟨_, _, vs, _, dd⟩ := dk_rd I.hok e
    exact dd.typeIs
  · obtain ⟨_, _, xs, _, dd⟩ := dt_rd I.hok e
    exact dd.typeIs
/-- d[y] -/
def tDGet (td ty : TE) : TE := fun σ H Q => td σ H fun x H1 => ty σ H1 fun y H2 => ∃ a v, x = .ref a ∧ DGet H2 a y (some v) ∧ Q v H2
/-- y in d, y not in d -/
def tDIn (ty td : TE) : TE := fun σ H Q => ty σ H fun y H1 => td σ H1 fun x H2 => ∃ a o, x = .ref a ∧ DGet H2 a y o ∧ Q (.bl o.isSome) H2
def tDNotIn (ty td : TE) : TE := fun σ H Q => ty σ H fun y H1 => td σ H1 fun x H2 => ∃ a o, x = .ref a ∧ DGet H2 a y o ∧ Q (.bl (!o.isSome)) H2
/-- d[y] = v -/
def sDPut (td ty tv : TE) : TS := fun D σ H => tv σ H fun v H1 => td σ H1 fun x H2 => ty σ H2 fun y H3 => ∃ a H4, x = .ref a ∧ DPut H3 a y v H4 ∧ D.nx σ H4
section
variable {X : Cx} {o i e value : Expr} {pos pos' tpos : Pos} {td ty tv : TE}
theorem pe_dget (hu : X.A.units + 1 < cLine) (ho : PE X o td) (hi : PE X i ty) (hs : NoSl i) : PE X (.Subscript o i pos) (tDGet td ty) := by
  intro pins s σ H Q I h
  refine subD_of PySem.F.slot_dict_getitem.lookup hs (thn (ho pins s σ H _ I h) fun u s1 ⟨x, H1, I1, rx, q1⟩ => thn (hi pins s1 σ H1 _ I1 q1) fun iv s2 ⟨y, H2, I2, ry, a, v, ex, g, q2⟩ => ?_)
  subst ex
  obtain rfl : u = Value.ref a := rx
  exact ⟨dict_typeIs I2 g, d_getItem hu I2 g ry fun w' s3 I3 rw' => ⟨v, H2, I3, rw', q2⟩⟩
theorem ps_dput (hu : X.A.units + 1 < cLine) (ho : PE X o td) (hi : PE X i ty) (hv : PE X value tv) (hs : swapsWith value (some (.Subscript o i pos')) pos.line X.env = pure false) :
    PS X (.Assign [.Subscript o i pos'] value pos) (sDPut td ty tv) := by
  intro pins s σ H D I h
  refine wpAny_Assign_Subscript (thn (hv pins s σ H _ I h) fun r s1 ⟨v, H1, I1, rv, q1⟩ => thn (ho pins s1 σ H1 _ I1 q1) fun u s2 ⟨x, H2, I2, rx, q2⟩ => thn (hi pins s2 σ H2 _ I2 q2) fun iv s3 ⟨y, H3, I3, ry, a, H4, ex, g, q3⟩ => ?_) hs
  subst ex
  obtain rfl : u = Value.ref a := rx
  exact d_setItem hu I3 g ry rv fun s4 I4 => ⟨σ, H4, I4, q3⟩
end


/-! ### displays -/
theorem dk_empty {P : Program} {w : World} {H : Hp} (h : Heap) (hb : sysModules < h.objs.size) : ObjOk P w H (h.push { cls := .type "dict", data := .dict #[] }) h.objs.size (.dK []) :=
  ⟨Nat.zero_le _, beq_eq_false_iff_ne.mpr (Ne.symm (Nat.ne_of_lt hb)), [], .nil, Heap.DictOf.new h⟩
/-- {}, to be a dict of the kind that is wanted -/
def tDNewK : TE := fun _ H Q => ∀ p, H p = none → Q (.ref p) (upd H p (.dK []))
section
variable {X : Cx} {pos : Pos}
theorem pe_dnewK : PE X (.Dict [] [] pos) tDNewK := fun pins s σ H Q I h =>
  wpAny_Dict_empty ⟨.ref s.heap.objs.size, _, I.laid (a := s.heap.objs.size) (o := .dK []) (t' := s.toks) (fun _ _ q => Heap.get?_push_of_some _ q) (Nat.le_refl _) (dk_empty s.heap I.big), rfl, h _ (I.hok.fresh (Nat.le_refl _))⟩
end

/-- the pairs of a display, from the left -/
def tPairs : List (TE × TE) → St → Hp → (List (V × V) → Hp → Prop) → Prop
  | [], _, H, Q => Q [] H
  | (tk, tv) :: r, σ, H, Q => tk σ H fun x H1 => tv σ H1 fun y H2 => tPairs r σ H2 fun ps H3 => Q ((x, y) :: ps) H3
abbrev VV : List (V × V) → List (Value × Value) → Prop := Paired fun p q => RelV p.1 q.1 ∧ RelV p.2 q.2
def PPs (X : Cx) (pos : Pos) (keys : List (Option Expr)) (values : List Expr) (trs : List (TE × TE)) : Prop :=
  ∀ (pins : List (Addr × Obj)) (s : Shared) (σ : St) (H : Hp) (Q : List (V × V) → Hp → Prop), Inv X pins σ H s → tPairs trs σ H Q →
    wpAny (model X.prog X.w) X.A (evalPairs (pairTrees keys values X.env pos)) (fun vs s' => ∃ ps H', Inv X pins σ H' s' ∧ VV ps vs ∧ Q ps H') X.xe s
theorem pps_nil {X : Cx} {pos : Pos} : PPs X pos [] [] [] := fun pins s σ H Q I h => pairTrees_nil_walk ⟨[], H, I, .nil, h⟩
theorem pps_cons {X : Cx} {pos : Pos} {k v : Expr} {ks : List (Option Expr)} {vs : List Expr} {tk tv : TE} {trs : List (TE × TE)} (hk : PE X k tk) (hv : PE X v tv) (hr : PPs X pos ks vs trs) :
    PPs X pos (some k :: ks) (v :: vs) ((tk, tv) :: trs) := fun pins s σ H Q I h =>
  pairTrees_cons_walk (thn (hk pins s σ H _ I h) fun u s1 ⟨x, H1, I1, rx, q1⟩ => thn (hv pins s1 σ H1 _ I1 q1) fun w2 s2 ⟨y, H2, I2, ry, q2⟩ =>
    thn (hr pins s2 σ H2 _ I2 q2) fun ws s3 ⟨ps, H3, I3, rel, q3⟩ => ⟨(x, y) :: ps, H3, I3, .cons ⟨rx, ry⟩ rel, q3⟩)

def mergeK (kvs more : List (Key × V)) : List (Key × V) := more.foldl (fun acc kv => putK acc kv.1 kv.2) kvs
theorem KV.merge : ∀ {more : List (Key × V)} {rs : List (Key × Value)} {kvs : List (Key × V)} {vs : List (Key × Value)}, KV more rs → KV kvs vs → KV (mergeK kvs more) (merged vs rs) := by
  intro more rs kvs vs r
  unfold KV at r
  induction r generalizing kvs vs with
  | nil => intro q; exact q
  | @cons p q ps qs h t ih =>
    intro r0
    have e : KV (putK kvs p.1 p.2) (stored vs q.1 q.2) := by
      have := r0.put p.1 h.2
      rw [← h.1]; exact this
    exact ih e
theorem length_mergeK : ∀ (more kvs : List (Key × V)), (mergeK kvs more).length ≤ kvs.length + more.length
  | [], kvs => by show kvs.length ≤ kvs.length + 0; omega
  | p :: r, kvs => by
    have h1 := length_mergeK r (putK kvs p.1 p.2)
    have h2 := length_putK kvs p.1 p.2
    show (mergeK (putK kvs p.1 p.2) r).length ≤ _
    rw [List.length_cons]; omega
theorem carries_of {P : Program} {w : World} : ∀ {kvs : List (Key × V)} {ws : List (Value × Value)}, VV (kvs.map fun kv => (kV kv.1, kv.2)) ws → ∃ rs, Carries (mixKind P w) ws rs ∧ KV kvs rs
  | [], _, r => by rw [List.map_nil] at r; cases r; exact ⟨[], True.intro, .nil⟩
  | p :: kvs, _, r => by
    rw [List.map_cons] at r
    cases r with
    | @cons a b as bs h t =>
      obtain ⟨rs, c, q⟩ := carries_of (P := P) (w := w) t
      obtain ⟨b1, b2⟩ := b
      exact ⟨(p.1, b2) :: rs, ⟨kV_is h.1, rfl, c⟩, .cons ⟨rfl, h.2⟩ q⟩
/-- {k: v, ..} with keys ints and texts; the new dict stands empty while the pairs are made -/
def tDisp (trs : List (TE × TE)) : TE := fun σ H Q => ∀ p, H p = none → tPairs trs σ (upd H p (.dK [])) fun ps H2 => H2 p = some (.dK []) ∧ ∃ kvs : List (Key × V), ps = kvs.map (fun kv => (kV kv.1, kv.2)) ∧ kvs.length ≤ 15 ∧ Q (.ref p) (upd H2 p (.dK (mergeK [] kvs)))
theorem pe_disp {X : Cx} {pos : Pos} {keys : List (Option Expr)} {values : List Expr} {trs : List (TE × TE)} (h : PPs X pos keys values trs) (hall : keys.all (·.isSome) = true) (hl : keys.length = values.length) (h0 : keys ≠ [])
    (h15 : keys.length ≤ 15) : PE X (.Dict keys values pos) (tDisp trs) := by
  intro pins s σ H Q I q
  have hn := I.hok.fresh (Nat.le_refl s.heap.objs.size)
  have I1 := I.laid (a := s.heap.objs.size) (o := .dK []) (h' := s.heap.push { cls := .type "dict", data := .dict #[] }) (t' := s.toks) (fun _ _ q => Heap.get?_push_of_some _ q) (Nat.le_refl _) (dk_empty s.heap I.big)
  refine wpAny_Dict_walk (knd := mixKind X.prog X.w) hall hl h0 h15 (thn (h pins _ σ _ _ I1 (q _ hn)) fun ws s2 ⟨ps, H2, I2, rel, e, kvs, ep, lk, q2⟩ => ?_)
  subst ep
  obtain ⟨rs, c, rk⟩ := carries_of (P := X.prog) (w := X.w) rel
  obtain ⟨z, hd, vs0, r0, dd⟩ := dk_of I2.hok e
  cases r0
  refine ⟨rs, c, dd, fun h' dd' hs => ⟨.ref s.heap.objs.size, _, ?_, rfl, q2⟩⟩
  have hz : (mergeK [] kvs).length ≤ sizeLine := by
    have h1 := length_mergeK kvs []
    rw [List.length_nil] at h1
    rw [sizeLine_eq]; omega
  have he : ∃ q, h'.get? s.heap.objs.size = some q := let ⟨q, _, _, hq, _⟩ := dd'; ⟨q, hq⟩
  exact d_write I2 (by rw [e]; exact True.intro) hs he (dk_new hz hd (rk.merge .nil) dd')


/-! ### methods -/
/-- a method call o.m(e) of a built-in, with one argument: what must be seen of the text -/
structure M1 (X : Cx) (o : Expr) (m : Str) (apos : Pos) (e : Expr) (cpos : Pos) : Prop where
  base : attributeBase o m X.env (eval o X.env) = eval o X.env
  few : ((backTo cpos (starEach [e] X.env)).all (fun x => !x.1) && (backToKw cpos (keywordEach [] X.env)).all (fun x => x.1.isSome)
    && decide (([e] : List Expr).length + ([] : List Keyword).length + (if ([] : List Keyword).isEmpty then 0 else 1) < 30)) = true
  line : (apos.endLine == cpos.line) = true
  trees : backTo cpos (starEach [e] X.env) = [(false, eval e X.env)]
structure M2 (X : Cx) (o : Expr) (m : Str) (apos : Pos) (e f : Expr) (cpos : Pos) : Prop where
  base : attributeBase o m X.env (eval o X.env) = eval o X.env
  few : ((backTo cpos (starEach [e, f] X.env)).all (fun x => !x.1) && (backToKw cpos (keywordEach [] X.env)).all (fun x => x.1.isSome)
    && decide (([e, f] : List Expr).length + ([] : List Keyword).length + (if ([] : List Keyword).isEmpty then 0 else 1) < 30)) = true
  line : (apos.endLine == cpos.line) = true
  trees : backTo cpos (starEach [e, f] X.env) = [(false, eval e X.env), (false, eval f X.env)]

/-- a is a dict, whatever its keys -/
def IsD (H : Hp) (a : Addr) : Prop := (∃ kvs, Rd H a (.dK kvs)) ∨ ∃ kvs, Rd H a (.dT kvs)
theorem isD_at {X : Cx} {pins : List (Addr × Obj)} {σ : St} {H : Hp} {s : Shared} {a : Addr} (I : Inv X pins σ H s) (d : IsD H a) :
    s.TypeIs (.ref a) "dict" ∧ (∀ b, Value.ref a = .ref b → ∃ ob, s.heap.get? b = some ob ∧ ob.dict = none) ∧ (a == sysModules) = false := by
  rcases d with ⟨kvs, e⟩ | ⟨kvs, e⟩
  · obtain ⟨_, hd, vs, _, dd⟩ := dk_rd I.hok e
    refine ⟨dd.typeIs, fun b q => ?_, hd⟩
    cases q
    obtain ⟨ob, _, _, h1, h2, _⟩ := dd
    exact ⟨ob, h1, h2.2.1⟩
  · obtain ⟨_, hd, xs, _, dd⟩ := dt_rd I.hok e
    refine ⟨dd.typeIs, fun b q => ?_, hd⟩
    cases q
    obtain ⟨ob, _, _, h1, h2, _⟩ := dd
    exact ⟨ob, h1, h2.2.1⟩

section
variable {X : Cx} {pins : List (Addr × Obj)} {σ : St} {H : Hp} {s : Shared} {a : Addr} {y d : V} {u r : Value} {o : Option V} {A : Around} {E : Value → Shared → Prop}
/-- d.get(y, x) -/
theorem d_get2 {Q : Value → Shared → Prop} (hu : A.units + 1 < cLine) (I : Inv X pins σ H s) (g : DGet H a y o) (ry : RelV y u) (rd : RelV d r) (h : ∀ w' s', Inv X pins σ H s' → RelV (o.getD d) w' → Q w' s') :
    wpAny (model X.prog X.w) A (call (.builtin "dict.get") [.ref a, u, r]) Q E s := by
  rcases g with ⟨kvs, k, e, ey, l⟩ | ⟨kvs, k, b, e, ey, eb, l⟩
  · subst ey
    obtain ⟨z, hd, vs, rel, dd⟩ := dk_rd I.hok e
    refine call_meetsIn PySem.F.slot_dict_get dd.typeIs PySem.F.entry_dict_get (PySem.F.args_dict_get_3 _ _ _) (meets_dict_get_default (mixKind X.prog X.w) a (kV_is ry) hd r) ⟨_, dd.mapOf, h _ _ (I.tok _) ?_⟩
    rw [l]
    exact (rel.val k).getD rd
  · subst ey
    cases (show u = Value.ref b from ry)
    obtain ⟨z, hd, xs, rel, dd⟩ := dt_rd I.hok e
    refine call_meetsIn PySem.F.slot_dict_get dd.typeIs PySem.F.entry_dict_get (PySem.F.args_dict_get_3 _ _ _) (meetsH_dict_get_default (tupleKind (mixKind X.prog X.w)) a b hd r) ⟨tupleKind_room_in1 hu, k, xs, key_of I.hok eb, dd, h _ _ (I.tok _) ?_⟩
    rw [l]
    exact (rel.val k).getD rd
end

def tDGet2 (td ty tx : TE) : TE := fun σ H Q => td σ H fun x H1 => ∃ a, x = .ref a ∧ IsD H1 a ∧ ty σ H1 fun y H2 => tx σ H2 fun z H3 => ∃ o, DGet H3 a y o ∧ Q (o.getD z) H3
/-- d.pop(k): there; d.pop(k, x): there or not -/
def tDPop1 (td ty : TE) : TE := fun σ H Q => td σ H fun x H1 => ∃ a, x = .ref a ∧ IsD H1 a ∧ ty σ H1 fun y H2 => ∃ kvs k v, H2 a = some (.dK kvs) ∧ y = kV k ∧ valV kvs k = some v ∧ Q v (upd H2 a (.dK (dropK kvs k)))
section
variable {X : Cx} {o e f : Expr} {apos cpos : Pos} {td ty tx : TE}
theorem pe_dget2 (hu : X.A.units + 1 < cLine) (ho : PE X o td) (he : PE X e ty) (hf : PE X f tx) (m : M2 X o "get" apos e f cpos) : PE X (.Call (.Attribute o "get" apos) [e, f] [] cpos) (tDGet2 td ty tx) := by
  intro pins s σ H Q I h
  refine wpAny_Call_method m.base m.few m.line PySem.F.plainAttrs_dict PySem.F.slot_dict_get PySem.F.type_dict_get (thn (ho pins s σ H _ I h) fun u s1 ⟨x, H1, I1, rx, a, ex, d, q1⟩ => ?_)
  subst ex
  obtain rfl : u = Value.ref a := rx
  obtain ⟨t1, t2, _⟩ := isD_at I1 d
  refine ⟨t1, t2, ?_⟩
  rw [m.trees]
  refine Calls.callWith_builtin rfl (Calls.evalArgs_plain (Calls.spliced_cons (thn (he pins s1 σ H1 _ I1 q1) fun iv s2 ⟨y, H2, I2, ry, q2⟩ =>
    Calls.spliced_cons (thn (hf pins s2 σ H2 _ I2 q2) fun fv s3 ⟨z, H3, I3, rz, ov, g, q3⟩ => Calls.spliced_nil ?_))))
  exact d_get2 hu I3 g ry rz fun w' s4 I4 rw' => ⟨_, H3, I4, rw', q3⟩
end

end L2

/-! ## dicts of texts that were met -/
namespace L2
open PySem PySem.Spec PyProof.Rows
def tDNewS : TE := fun _ H Q => New H (.dK []) Q
theorem pe_dnewS {X : Cx} {pos : Pos} : PE X (.Dict [] [] pos) tDNewS := fun pins s σ H Q I h => pe_dnewK pins s σ H Q I fun p hp => h.at hp
/-! ### a whole number or a text; accounts as trees -/
def sv : D → V
  | .int i => .int i
  | .str cs => .str (SL cs)
  | _ => .non
def btw (lo hi : Int) : D → Bool
  | .int i => decide (lo ≤ i) && decide (i ≤ hi)
  | _ => false
def nmOk : D → Bool
  | .str cs => decide (1 ≤ cs.length) && decide (cs.length ≤ 8) && cs.all fun c => decide (97 ≤ c ∧ c ≤ 122)
  | _ => false
def planOk : List D → Bool
  | [n, p, c] => nmOk n && (btw 0 (10 ^ 30 - 1) p && btw 0 400 c)
  | _ => false
def nmOf : List D → List Nat
  | .str cs :: _ => cs
  | _ => []
def plansOk (dss : List (List D)) : Prop := 1 ≤ dss.length ∧ dss.length ≤ 8 ∧ (∀ ds ∈ dss, planOk ds = true) ∧ (dss.map nmOf).Nodup
end L2
namespace L2
open PySem PySem.Spec PyProof.Rows
/-- a comprehension by an invariant of the turn, of what is told, of the heap off the told list -/
theorem comp_by {J : It} {H1 : Hp} {ys : List V} {σ0 : St} {g : TG} {tc : TT} {te : TE} {l : Addr} {Q : VK} (Pv : Nat → List V → Hp → Prop) (L : Lists J H1 ys) (hl : H1 l = none) (hz : ys.length < sizeLine)
    (h0 : ∀ H, Same H1 H → Pv 0 [] H)
    (hs : ∀ i x xs H (K1 : VK) (K0 : Hp → Prop), ys[i]? = some x → Same H1 H → Pv i xs H → H l = some (.lst xs) →
      (∀ v H4, Same H H4 → (∀ H5, (∀ b o, b ≠ l → H4 b = some o → H5 b = some o) → Pv (i + 1) (xs ++ [v]) H5) → K1 v H4) → (∀ H3, Same H H3 → Pv (i + 1) xs H3 → K0 H3) →
      g x σ0 H fun σ2 H2 => Sub σ0 σ2 ∧ tc σ2 H2 fun b H3 => if b = true then te σ2 H3 K1 else K0 H3)
    (hd : ∀ xs H, Same H1 H → Pv ys.length xs H → xs.length ≤ ys.length → H l = some (.lst xs) → Q (.ref l) H) : CompR J σ0 g tc te l Q H1 := by
  refine ⟨fun i m xs H => i ≤ ys.length ∧ m = ys.length - i ∧ Same H1 H ∧ Pv i xs H ∧ xs.length ≤ i ∧ H l = some (.lst xs), ⟨ys.length, Nat.zero_le _, by omega, same_new hl _, h0 _ (same_new hl _), Nat.le_refl _, upd_same⟩, ?_⟩
  rintro i m xs H ⟨hi, rfl, sm, pv, hx, e⟩
  refine ⟨e, Nat.lt_of_le_of_lt hx (by omega), ?_⟩
  by_cases hlt : i < ys.length
  · refine .inr ⟨L.go i H sm hlt, fun x H' y => ?_⟩
    obtain ⟨rfl, hx'⟩ := L.yld i H x H' sm y hlt
    refine hs i x xs H' _ _ hx' sm pv e (fun v H4 s4 p4 => ?_) (fun H3 s3 p3 => ?_)
    · exact ⟨s4 _ _ e, ys.length - (i + 1), by omega, hlt, rfl, same_upd (sm.trans s4) hl, p4 _ fun b o hb q => by rw [upd_ne hb]; exact q, by rw [List.length_append]; simp only [List.length_cons, List.length_nil]; omega, upd_same⟩
    · exact ⟨ys.length - (i + 1), by omega, hlt, rfl, sm.trans s3, p3, by omega, s3 _ _ e⟩
  · have ei : i = ys.length := by omega
    subst ei
    exact .inl ⟨L.stop H sm, hd xs H sm pv hx e⟩
end L2
namespace L2
open PySem PySem.Spec PyProof.Rows
/-! ### plans -/
/-- a plan: its name, its price, its count -/
abbrev Pl := List Nat × Int × Int
def plD (x : Pl) : List D := [.str x.1, .int x.2.1, .int x.2.2]
def NmOk (w : List Nat) : Prop := 1 ≤ w.length ∧ w.length ≤ 8 ∧ ∀ c ∈ w, 97 ≤ c ∧ c ≤ 122
def PlOk (x : Pl) : Prop := NmOk x.1 ∧ 0 ≤ x.2.1 ∧ x.2.1 < 10 ^ 30 ∧ 0 ≤ x.2.2 ∧ x.2.2 ≤ 400
def PlsOk (xs : List Pl) : Prop := 1 ≤ xs.length ∧ xs.length ≤ 8 ∧ (∀ x ∈ xs, PlOk x) ∧ (xs.map (·.1)).Nodup
def IsPl (K : PySem.W.Frag) (H : Hp) (z : V × Pl) : Prop := ∃ p, z.1 = .ref p ∧ SqT K H p [.str (SL z.2.1), .int z.2.2.1, .int z.2.2.2]
/-- the plans zs lie there -/
def PlsAt (K : PySem.W.Frag) (H : Hp) (zs : List (V × Pl)) : Prop := ∀ z ∈ zs, IsPl K H z
theorem IsPl.same {K : PySem.W.Frag} {H H' : Hp} {z : V × Pl} (h : IsPl K H z) (s : Same H H') : IsPl K H' z := let ⟨p, e, q⟩ := h; ⟨p, e, s.sqT q⟩
theorem PlsAt.same {K : PySem.W.Frag} {H H' : Hp} {zs : List (V × Pl)} (h : PlsAt K H zs) (s : Same H H') : PlsAt K H' zs := fun z hz => (h z hz).same s
theorem PlOk.len {x : Pl} (h : PlOk x) : x.1.length ≤ sizeLine := le_line (by have := h.1.2.1; omega)
theorem PlOk.ok {x : Pl} (h : PlOk x) : planOk (plD x) = true := by
  obtain ⟨⟨h1, h2, h3⟩, h4, h5, h6, h7⟩ := h
  show (nmOk (.str x.1) && (btw 0 (10 ^ 30 - 1) (.int x.2.1) && btw 0 400 (.int x.2.2))) = true
  have e1 : nmOk (.str x.1) = true := by
    show (decide (1 ≤ x.1.length) && decide (x.1.length ≤ 8) && x.1.all fun c => decide (97 ≤ c ∧ c ≤ 122)) = true
    rw [decide_eq_true h1, decide_eq_true h2, List.all_eq_true.mpr fun c hc => decide_eq_true (h3 c hc)]
    rfl
  have e2 : btw 0 (10 ^ 30 - 1) (.int x.2.1) = true := by
    show (decide (0 ≤ x.2.1) && decide (x.2.1 ≤ 10 ^ 30 - 1)) = true
    rw [decide_eq_true h4, decide_eq_true (by omega)]
    rfl
  have e3 : btw 0 400 (.int x.2.2) = true := by
    show (decide (0 ≤ x.2.2) && decide (x.2.2 ≤ 400)) = true
    rw [decide_eq_true h6, decide_eq_true h7]
    rfl
  rw [e1, e2, e3]
  rfl
theorem PlsOk.ok {xs : List Pl} (h : PlsOk xs) : plansOk (xs.map plD) := by
  obtain ⟨h1, h2, h3, h4⟩ := h
  refine ⟨by rw [List.length_map]; exact h1, by rw [List.length_map]; exact h2, fun ds hd => ?_, ?_⟩
  · obtain ⟨x, hx, rfl⟩ := List.mem_map.mp hd
    exact (h3 x hx).ok
  · rw [List.map_map]
    exact h4
theorem PlsAt.all2 {K : PySem.W.Frag} {H : Hp} : ∀ {zs : List (V × Pl)}, PlsAt K H zs → all2 (Dp K H 1) ((zs.map fun z => plD z.2).map D.tup) (zs.map (·.1))
  | [], _ => trivial
  | z :: r, h => by
    refine ⟨?_, PlsAt.all2 fun y hy => h y (List.mem_cons_of_mem _ hy)⟩
    obtain ⟨p, e, q⟩ := h z List.mem_cons_self
    show Dp K H 1 (D.tup (plD z.2)) z.1
    rw [e]
    exact Dp_tup q ⟨Dp_str, Dp_int, Dp_int, trivial⟩
theorem sqT_off {K : PySem.W.Frag} {H H' : Hp} {p l : Addr} {xs ys : List V} (h : SqT K H p xs) (e : H l = some (.lst ys)) (k : ∀ b o, b ≠ l → H b = some o → H' b = some o) : SqT K H' p xs := by
  rcases h with (h | ⟨ob, h⟩) | h
  · have np : p ≠ l := fun z => by rw [z, e] at h; cases h
    exact .inl (.inl (k _ _ np h))
  · have np : p ≠ l := fun z => by rw [z, e] at h; cases h
    exact .inl (.inr ⟨ob, k _ _ np h⟩)
  · exact .inr h
theorem PlsAt.off {K : PySem.W.Frag} {H H' : Hp} {zs : List (V × Pl)} {l : Addr} {ys : List V} (h : PlsAt K H zs) (e : H l = some (.lst ys)) (k : ∀ b o, b ≠ l → H b = some o → H' b = some o) : PlsAt K H' zs := fun z hz =>
  let ⟨p, e1, q⟩ := h z hz; ⟨p, e1, sqT_off q e k⟩
end L2

/-! ## enumerate; list.remove; dict.pop -/
namespace L2
open PySem PySem.Spec PyProof.Rows
/-! ### list.remove, of whole numbers -/
end L2

/-! ## changes, entries, the terms that stand -/
namespace L2
open PySem
/-- a change -/
inductive Ch where
  | plan (d : Int) (nm : List Nat)
  | seats (d n : Int)
  | word (w : Nat) (d : Int)
  | undo (k : Int)
  | grant (a : Int)
  | back
def wordS : Nat → List Nat
  | 0 => [104, 111, 108, 100]
  | 1 => [103, 111]
  | 2 => [115, 116, 111, 112]
  | _ => [108, 97, 115, 116]
def chD : Ch → List D
  | .plan d nm => [.str [112, 108, 97, 110], .int d, .str nm]
  | .seats d n => [.str [115, 101, 97, 116, 115], .int d, .int n]
  | .word w d => [.str (wordS w), .int d]
  | .undo k => [.str [117, 110, 100, 111], .int k]
  | .grant a => [.str [103, 114, 97, 110, 116], .int a]
  | .back => [.str [98, 97, 99, 107]]
theorem ite_t {c : Prop} [Decidable c] {a b : Prop} (h : c) (x : a) : if c then a else b := by rw [if_pos h]; exact x
theorem ite_f {c : Prop} [Decidable c] {a b : Prop} (h : ¬ c) (x : b) : if c then a else b := by rw [if_neg h]; exact x
theorem Same.put {H H' : Hp} {a : Addr} (s : Same H H') (n : H a = none) (o : HO) : Same H (upd H' a o) := fun b u e => by
  rw [upd_ne (ne_of_none e n)]
  exact s b u e
/-- an entry: its value, where its change lies, the day on which it is entered, its change -/
abbrev En := V × Addr × Int × Ch
def stepL (n : Nat) (L : List Int) : Ch → List Int
  | .undo k => L.erase k
  | .grant _ => L
  | .back => L
  | _ => L ++ [(n : Int)]
def foldS (cs : List Ch) (s : Nat × List Int) : Nat × List Int := cs.foldl (fun s c => (s.1 + 1, stepL s.1 s.2 c)) s
/-- the terms that stand behind these changes -/
def standF (cs : List Ch) : List Int := (foldS cs (0, [])).2
theorem foldS_fst : ∀ (cs : List Ch) (s : Nat × List Int), (foldS cs s).1 = s.1 + cs.length
  | [], _ => rfl
  | c :: r, s => by
    show (foldS r (s.1 + 1, _)).1 = _
    rw [foldS_fst r, List.length_cons]
    omega
theorem stand_snoc (cs : List Ch) (c : Ch) : standF (cs ++ [c]) = stepL cs.length (standF cs) c := by
  unfold standF foldS
  rw [List.foldl_append]
  show stepL (foldS cs (0, [])).1 _ c = _
  rw [foldS_fst]
  show stepL (0 + cs.length) _ c = _
  rw [Nat.zero_add]
/-! ### a dict by whole numbers -/
/-! ### entries that lie there -/
def IsEn (K : PySem.W.Frag) (H : Hp) (z : En) : Prop := ∃ p, z.1 = .ref p ∧ SqT K H p [.int z.2.2.1, .ref z.2.1] ∧ SqT K H z.2.1 ((chD z.2.2.2).map sv)
def EnsAt (K : PySem.W.Frag) (H : Hp) (zs : List En) : Prop := ∀ z ∈ zs, IsEn K H z
theorem EnsAt.same {K : PySem.W.Frag} {H H' : Hp} {zs : List En} (h : EnsAt K H zs) (s : Same H H') : EnsAt K H' zs := fun z hz =>
  let ⟨p, e, q1, q2⟩ := h z hz; ⟨p, e, s.sqT q1, s.sqT q2⟩
theorem EnsAt.take {K : PySem.W.Frag} {H : Hp} {zs : List En} (h : EnsAt K H zs) (n : Nat) : EnsAt K H (zs.take n) := fun z hz => h z (List.mem_of_mem_take hz)
theorem EnsAt.off {K : PySem.W.Frag} {H H' : Hp} {zs : List En} {l : Addr} {ys : List V} (h : EnsAt K H zs) (e : H l = some (.lst ys)) (k : ∀ b o, b ≠ l → H b = some o → H' b = some o) : EnsAt K H' zs := fun z hz =>
  let ⟨p, e1, q1, q2⟩ := h z hz; ⟨p, e1, sqT_off q1 e k, sqT_off q2 e k⟩
def enD (z : En) : D := .tup [.int z.2.2.1, .tup (chD z.2.2.2)]
/-- what a change is, by the names, from days f up to e, of terms that stand -/
def ChIn (nms : List (List Nat)) (f e : Int) (L : List Int) : Ch → Prop
  | .plan d nm => f ≤ d ∧ d < e ∧ nm ∈ nms
  | .seats d n => f ≤ d ∧ d < e ∧ 0 ≤ n ∧ n ≤ 1000000
  | .word w d => w < 4 ∧ f ≤ d ∧ d < e
  | .undo k => k ∈ L
  | .grant a => 1 ≤ a ∧ a < 10 ^ 30
  | .back => True
def chs (zs : List En) : List Ch := zs.map fun z => z.2.2.2
theorem chs_len (zs : List En) : (chs zs).length = zs.length := List.length_map ..
def EnsOk (nms : List (List Nat)) (f e : Int) (zs : List En) : Prop := ∀ i z, zs[i]? = some z → f ≤ z.2.2.1 ∧ z.2.2.1 < e ∧ (∀ y ∈ zs.take i, y.2.2.1 ≤ z.2.2.1) ∧ ChIn nms f e (standF (chs (zs.take i))) z.2.2.2
theorem EnsOk.nil {nms : List (List Nat)} {f e : Int} : EnsOk nms f e [] := fun i z h => by rw [List.getElem?_nil] at h; cases h
theorem EnsOk.take {nms : List (List Nat)} {f e : Int} {zs : List En} (h : EnsOk nms f e zs) (n : Nat) : EnsOk nms f e (zs.take n) := fun i z hz => by
  rw [List.getElem?_take] at hz
  split at hz
  · rename_i hi
    rw [List.take_take, Nat.min_eq_left (by omega)]
    exact h i z hz
  · cases hz
theorem EnsOk.snoc {nms : List (List Nat)} {f e : Int} {zs : List En} {z : En} (h : EnsOk nms f e zs) (h1 : f ≤ z.2.2.1) (h2 : z.2.2.1 < e) (h3 : ∀ y ∈ zs, y.2.2.1 ≤ z.2.2.1) (h4 : ChIn nms f e (standF (chs zs)) z.2.2.2) : EnsOk nms f e (zs ++ [z]) := fun i y hy => by
  by_cases hi : i < zs.length
  · rw [List.getElem?_append_left hi] at hy
    rw [List.take_append_of_le_length (by omega)]
    exact h i y hy
  · rw [List.getElem?_append_right (by omega)] at hy
    have e0 : i = zs.length := by
      have := (List.getElem?_eq_some_iff.mp hy).1
      rw [List.length_singleton] at this
      omega
    subst e0
    rw [Nat.sub_self] at hy
    cases hy
    rw [List.take_append_of_le_length (Nat.le_refl _), List.take_length]
    exact ⟨h1, h2, h3, h4⟩
theorem sqT_off2 {K : PySem.W.Frag} {H H' : Hp} {p l m : Addr} {xs ys ws : List V} (h : SqT K H p xs) (e : H l = some (.lst ys)) (e2 : H m = some (.lst ws)) (k : ∀ b o, b ≠ l → b ≠ m → H b = some o → H' b = some o) : SqT K H' p xs := by
  rcases h with (h | ⟨ob, h⟩) | h
  · exact .inl (.inl (k _ _ (fun z => by rw [z, e] at h; cases h) (fun z => by rw [z, e2] at h; cases h) h))
  · exact .inl (.inr ⟨ob, k _ _ (fun z => by rw [z, e] at h; cases h) (fun z => by rw [z, e2] at h; cases h) h⟩)
  · exact .inr h
/-- entries and the terms that stand, while they are drawn: H0 is what there was ahead -/
structure EnInv (K : PySem.W.Frag) (H0 H : Hp) (le ll : Addr) (nms : List (List Nat)) (f e : Int) (zs : List En) : Prop where
  same : Same H0 H
  n1 : H0 le = none
  n2 : H0 ll = none
  ne : le ≠ ll
  e1 : H le = some (.lst (zs.map (·.1)))
  e2 : H ll = some (.lst ((standF (chs zs)).map V.int))
  at' : EnsAt K H zs
  ok : EnsOk nms f e zs
theorem EnInv.step {K : PySem.W.Frag} {H0 H H' : Hp} {le ll : Addr} {nms : List (List Nat)} {f e : Int} {zs : List En} {pe p : Addr} {en : Int} {ch : Ch} (I : EnInv K H0 H le ll nms f e zs) (ep : H pe = some (.tup [.int en, .ref p])) (ec : H p = some (.tup ((chD ch).map sv)))
    (kp : ∀ b o, b ≠ le → b ≠ ll → H b = some o → H' b = some o) (e1 : H' le = some (.lst (zs.map (·.1) ++ [.ref pe]))) (e2 : H' ll = some (.lst ((stepL zs.length (standF (chs zs)) ch).map V.int)))
    (h1 : f ≤ en) (h2 : en < e) (h3 : ∀ y ∈ zs, y.2.2.1 ≤ en) (h4 : ChIn nms f e (standF (chs zs)) ch) : EnInv K H0 H' le ll nms f e (zs ++ [(.ref pe, p, en, ch)]) := by
  refine ⟨fun b o eb => kp b o (ne_of_none eb I.n1) (ne_of_none eb I.n2) (I.same b o eb), I.n1, I.n2, I.ne, by rw [e1, List.map_append]; rfl, ?_, fun z hz => ?_, I.ok.snoc h1 h2 h3 h4⟩
  · have ec : chs (zs ++ [(V.ref pe, p, en, ch)]) = chs zs ++ [ch] := by unfold chs; rw [List.map_append]; rfl
    rw [e2, ec, stand_snoc, chs_len]
  · rcases List.mem_append.mp hz with y | y
    · obtain ⟨q, ez, q1, q2⟩ := I.at' z y
      exact ⟨q, ez, sqT_off2 q1 I.e1 I.e2 kp, sqT_off2 q2 I.e1 I.e2 kp⟩
    · rw [List.mem_singleton.mp y]
      exact ⟨pe, rfl, sqT_off2 (SqT.of ep) I.e1 I.e2 kp, sqT_off2 (SqT.of ec) I.e1 I.e2 kp⟩
theorem chD_all2 {K : PySem.W.Frag} {H : Hp} {n : Nat} (c : Ch) : all2 (Dp K H n) (chD c) ((chD c).map sv) := by
  cases c with
  | plan d nm => exact ⟨Dp_str, Dp_int, Dp_str, trivial⟩
  | seats d m => exact ⟨Dp_str, Dp_int, Dp_int, trivial⟩
  | word w d => exact ⟨Dp_str, Dp_int, trivial⟩
  | undo k => exact ⟨Dp_str, Dp_int, trivial⟩
  | grant a => exact ⟨Dp_str, Dp_int, trivial⟩
  | back => exact ⟨Dp_str, trivial⟩
theorem EnsAt.all2 {K : PySem.W.Frag} {H : Hp} : ∀ {zs : List En}, EnsAt K H zs → all2 (Dp K H 2) (zs.map enD) (zs.map (·.1))
  | [], _ => trivial
  | z :: r, h => by
    obtain ⟨p, e, q1, q2⟩ := h z List.mem_cons_self
    refine ⟨?_, EnsAt.all2 fun y hy => h y (List.mem_cons_of_mem _ hy)⟩
    show Dp K H 2 (enD z) z.1
    rw [e]
    exact Dp_tup q1 ⟨Dp_int, Dp_tup q2 (chD_all2 _), trivial⟩
theorem cut_ints (ns : List Int) (lo hi : Option Int) : ∃ ms : List Int, cutV (ns.map V.int) lo hi = ms.map V.int ∧ ms.length ≤ ns.length := by
  unfold cutV
  rw [← List.map_drop, ← List.map_take]
  exact ⟨_, rfl, by rw [List.length_take, List.length_drop]; omega⟩
end L2

/-! ## d != {}; list(d); objects of a class -/
namespace L2
open PySem PySem.Spec PyProof.Rows
/-- d != {} -/
def rNeDE : R2 := fun x y H Q => ∃ a b kvs, x = .ref a ∧ y = .ref b ∧ H a = some (.dK kvs) ∧ H b = some (.dK []) ∧ Q (.bl (!kvs.isEmpty)) H
theorem op_neDE {X : Cx} (hu : X.A.units < cLine) : OpR X (compareOp .NotEq) rNeDE := by
  intro pins s σ H x y v u Q I rx ry h
  obtain ⟨a, b, kvs, rfl, rfl, ea, eb, hq⟩ := h
  cases (show v = Value.ref a from rx)
  cases (show u = Value.ref b from ry)
  obtain ⟨z, hd, vs, rel, dd⟩ := dk_of I.hok ea
  obtain ⟨z2, hd2, vs2, rel2, dd2⟩ := dk_of I.hok eb
  cases rel2
  refine wpAny_richCompare_same_room (T := "dict") (id := "dict.__ne__") (op := .NotEq) dd.typeIs dd2.typeIs PySem.F.slot_dict_ne (wpAny_call_entry PySem.F.slot_dict_ne dd.typeIs PySem.F.entry_dict_ne ?_ (PySem.F.args_dict_ne_2 _ _)) hu
  show wpAny _ _ (isInstance (.ref b) (.type "dict") >>= _) _ _ s
  refine wpAny_bind (wpAny_isInstance (T := "dict") (b := true) dd2.typeIs (by rw [isSubtype_type]; kernel_rfl) ?_)
  show wpAny _ _ (Builtin.Dict.samePairs _ a b >>= _) _ _ s
  unfold Builtin.Dict.samePairs
  have sh : ∀ d, (d == sysModules) = false → Builtin.Dict.showsAll d = pure () := fun d h => by unfold Builtin.Dict.showsAll; rw [h]; rfl
  rw [sh a hd, sh b hd2]
  obtain ⟨o, es, ep, ho, hc, hdat, hk, hp, hn⟩ := dd
  obtain ⟨o2, es2, ep2, ho2, hc2, hdat2, hk2, hp2, hn2⟩ := dd2
  have l1 : es.size = kvs.length := by rw [rel.length, ← hp.length]; simp
  have l2 : es2.size = 0 := by have := hp2.length; simp at this; simp [this]
  simp only [pure_bind, bind_assoc]
  refine wpAny_bind (wpAny_dictEntries ho hdat (wpAny_bind (wpAny_dictEntries ho2 hdat2 ?_)))
  rw [l2]
  cases kvs with
  | nil =>
    have l0 : es.size = 0 := l1
    rw [l0]
    refine wpAny_bind ?_
    rw [if_neg (by decide)]
    refine wpAny_bind (wpAny_dictEpoch ho hdat ?_)
    simp only [Std.Legacy.Range.forIn_eq_forIn_range', Std.Legacy.Range.size, Nat.sub_zero, Nat.zero_add, Nat.div_one, Nat.reduceAdd, Nat.reduceSub, Nat.reduceDiv, List.range'_zero, List.forIn_nil, pure_bind]
    exact wpAny_pure (wpAny_pure ⟨_, rfl, by simp, .bl false, H, I, rfl, hq⟩)
  | cons p r =>
    rw [if_pos (by rw [l1]; rfl)]
    refine wpAny_bind (wpAny_bind (wpAny_rule ?_))
    exact wpAny_pure (wpAny_pure ⟨_, rfl, by simp, .bl true, H, I, rfl, hq⟩)
theorem vals_of : ∀ {xs : List V} {us : List Value}, xs.length = us.length → (∀ (i : Nat) x u, xs[i]? = some x → us[i]? = some u → RelV x u) → Vals xs us
  | [], [], _, _ => .nil
  | x :: r, u :: t, hl, h => .cons (h 0 x u rfl rfl) (vals_of (by simpa using hl) fun i y v hy hv => h (i + 1) y v (by simpa using hy) (by simpa using hv))
  | [], _ :: _, hl, _ => by cases hl
  | _ :: _, [], hl, _ => by cases hl
theorem kv_key : ∀ {kvs : List (Key × V)} {vs : List (Key × Value)} {i : Nat} {kv : Key × V} {k : Key} {y : Value}, KV kvs vs → kvs[i]? = some kv → vs[i]? = some (k, y) → kv.1 = k
  | _ :: _, _ :: _, 0, _, _, _, .cons r _, h1, h2 => by
    cases h1
    cases h2
    exact r.1
  | _ :: _, _ :: _, i + 1, _, _, _, .cons _ t, h1, h2 => kv_key (i := i) t (by simpa using h1) (by simpa using h2)
theorem call_list_dict {X : Cx} (hc : X.calm = true) : CallR X (.type "list") (fun xs H Q => ∃ d kvs, xs = [.ref d] ∧ H d = some (.dK kvs) ∧ New H (.lst (kvs.map fun kv => kV kv.1)) Q) := by
  intro pins s σ H xs us Q I r h
  obtain ⟨d, kvs, rfl, e, q⟩ := h
  obtain ⟨u, rfl, ru⟩ := vals1 r
  obtain rfl : u = Value.ref d := ru
  obtain ⟨z, hd, vs, rel, dd⟩ := dk_of I.hok e
  obtain ⟨ep, hat⟩ := dd.dictAt
  refine PySem.W.kdl_call (PySem.W.kdl_dict (knd := mixKind X.prog X.w) (kvs := vs) (ep := ep) hd) (I.ok.hd hc) hat (by rw [← rel.length]; exact z) fun h' tk acc' c' hk hS hacc => ?_
  have hl : (kvs.map fun kv => kV kv.1).length = acc'.toList.length := by rw [List.length_map, Array.length_toList]; exact (show kvs.length = vs.length from rel.length).trans hacc.1.symm
  have hv : Vals (kvs.map fun kv => kV kv.1) acc'.toList := vals_of hl fun i x u hx hu => by
    rw [List.getElem?_map] at hx
    obtain ⟨kv, hkv, rfl⟩ := Option.map_eq_some_iff.mp hx
    obtain ⟨k, y, hy, ik⟩ := hacc.2 i u (by rw [← Array.getElem?_toList]; exact hu)
    have e1 : kv.1 = k := kv_key rel hkv hy
    subst e1
    rcases keyIs_shape ik with ⟨j, t, ej, rfl⟩ | ⟨x, t, ej, rfl⟩
    · rw [ej]; exact ⟨t, rfl⟩
    · rw [ej]; exact ⟨t, rfl⟩
  exact ⟨.ref s.heap.objs.size, _, I.laid (t' := tk) hk (Nat.le_refl _) (show ObjOk X.prog X.w _ h' _ (.lst (kvs.map fun kv => kV kv.1)) from ⟨by rw [List.length_map]; exact z, acc'.toList, c', hv, by rw [Array.toArray_toList]; exact hS⟩), rfl, q.at (I.hok.fresh (Nat.le_refl _))⟩
theorem call_lenD' {X : Cx} : CallR X (.builtin "len") (fun xs H Q => ∃ a kvs, xs = [V.ref a] ∧ H a = some (.dK kvs) ∧ Q (.int kvs.length) H) := by
  intro pins s σ H xs us Q I r h
  obtain ⟨a, kvs, rfl, e, q⟩ := h
  obtain ⟨u, rfl, ru⟩ := vals1 r
  obtain rfl : u = Value.ref a := ru
  exact d_len I (Rd.of e) fun t s' I' => ⟨.int _, H, I', ⟨t, rfl⟩, q⟩
/-- no exception comes of it -/
theorem passF {X : Cx} : Passes (CXE X.prog X.w) X (fun _ _ _ => False) := fun _ _ _ _ _ _ _ h => by
  obtain ⟨_, _, _, _, _, z⟩ := h
  exact z.elim
theorem call_sumT {X : Cx} (hc : X.calm = true) : CallR X (.builtin "sum") (fun xs H Q => ∃ (p : Addr) (ns : List Int), xs = [.ref p] ∧ SqT X.K H p (ns.map V.int) ∧ Q (.int ns.sum) H) := by
  intro pins s σ H xs us Q I r h
  obtain ⟨p, ns, rfl, hq, q⟩ := h
  obtain ⟨u, rfl, ru⟩ := vals1 r
  obtain rfl : u = Value.ref p := ru
  obtain ⟨its, rv, pl, hz⟩ := I.tuple hq
  have hl : ns.length = its.length := by rw [← rv.length, List.length_map]
  obtain ⟨o0, e0, _, _⟩ := id pl
  have ne : p ≠ s.heap.objs.size := Nat.ne_of_lt (Heap.lt_size e0)
  refine call_sum_walkG (wpAny_pyIter_tuple pl ?_)
  refine ⟨s.heap.objs.size, _, _, _, _, _, fun i => ns.getD i 0, rfl, Walks.tuple (show X.A.in1.handled = none from I.ok.hd hc) s.heap.objs.size p ne its.toArray, ⟨⟨_, Heap.get?_push_size _ rfl, rfl, rfl⟩, ?_⟩, ?_, ?_, fun h' tk t' hk => ?_⟩
  · exact Heap.IsTuple.at pl fun o e => Heap.get?_push_of_some _ e
  · intro b hb
    have hb' : b = s.heap.objs.size ∨ b = p := by simpa using hb
    show b < (s.heap.push _).objs.size
    rw [Heap.size_push]
    rcases hb' with rfl | rfl
    · exact Nat.lt_succ_self _
    · exact Nat.lt_succ_of_lt (Heap.lt_size e0)
  · intro i v hv
    have hi : its[i]? = some v := by simpa using hv
    obtain ⟨hlt, _⟩ := List.getElem?_eq_some_iff.mp hi
    have hb : (ns.map V.int)[i]? = some (.int ns[i]) := by rw [List.getElem?_map, List.getElem?_eq_getElem (by omega)]; rfl
    obtain ⟨u', e', t, rfl⟩ := rv.get hb
    rw [hi] at e'
    cases e'
    have z : ns.getD i 0 = ns[i] := by rw [List.getD_eq_getElem?_getD, List.getElem?_eq_getElem (by omega)]; rfl
    exact ⟨t, by show Value.int ns[i] t = Value.int (ns.getD i 0) t; rw [z]⟩
  · have e : PySem.preSum (fun i => ns.getD i 0) its.toArray.size = ns.sum := by rw [List.size_toArray, ← hl, preSum_list ns _ (Nat.le_refl _), List.take_length]
    rw [e]
    refine ⟨.int _, H, I.kept (t' := tk) fun b o hb => hk b o (fun z => ?_) (Heap.get?_push_of_some _ hb), ⟨_, rfl⟩, q⟩
    have z' : b = s.heap.objs.size := by simpa using z
    exact absurd (z' ▸ Heap.lt_size hb) (Nat.lt_irrefl _)
end L2

namespace Cal
/-- 1 in a year that has a 29 February, else 0 -/
def lp (y : Int) : Int := if y % 4 = 0 ∧ (y % 100 ≠ 0 ∨ y % 400 = 0) then 1 else 0
def dim (y m : Int) : Int := if m = 2 then 28 + lp y else if m = 4 ∨ m = 6 ∨ m = 9 ∨ m = 11 then 30 else 31
def ahead (y : Int) : Int := (y - 1) * 365 + (y - 1) / 4 - (y - 1) / 100 + (y - 1) / 400
/-- the days of a year ahead of a month's first -/
def cum (y m : Int) : Int :=
  if m ≤ 1 then 0 else if m = 2 then 31 else if m = 3 then 59 + lp y else if m = 4 then 90 + lp y else if m = 5 then 120 + lp y
  else if m = 6 then 151 + lp y else if m = 7 then 181 + lp y else if m = 8 then 212 + lp y else if m = 9 then 243 + lp y
  else if m = 10 then 273 + lp y else if m = 11 then 304 + lp y else if m = 12 then 334 + lp y else 365 + lp y
def num (y m d : Int) : Int := ahead y + cum y m + d - 1
def Valid (y m d : Int) : Prop := 1 ≤ y ∧ y ≤ 9999 ∧ 1 ≤ m ∧ m ≤ 12 ∧ 1 ≤ d ∧ d ≤ dim y m
end Cal
namespace Cal
end Cal
namespace Cal
def monY (y m k : Int) : Int := (y * 12 + m - 1 + k) / 12
def monM (y m k : Int) : Int := (y * 12 + m - 1 + k) % 12 + 1
def monD (y m d k : Int) : Int := if dim (monY y m k) (monM y m k) < d then dim (monY y m k) (monM y m k) else d
end Cal

namespace Cal
open Classical in
/-- the day that is so many months on from a day -/
noncomputable def mon (n k : Int) : Int :=
  if h : ∃ p : Int × Int × Int, Valid p.1 p.2.1 p.2.2 ∧ num p.1 p.2.1 p.2.2 = n then
    num (monY (choose h).1 (choose h).2.1 k) (monM (choose h).1 (choose h).2.1 k) (monD (choose h).1 (choose h).2.1 (choose h).2.2 k) else 0
/-- where span k begins: dy: a cycle of days, else of months -/
noncomputable def beg (f : Int) (dy : Bool) (c k : Int) : Int := if dy = true then f + k * c else mon f (k * c)
end Cal

namespace K60
open PySem L2
seal L2.PE L2.PA L2.PS L2.PSs L2.PT L2.PW L2.PG L2.PGs L2.PI L2.PK L2.PO L2.PIf L2.PEt L2.PAt L2.PSt L2.PSst L2.PTt L2.PWt L2.PEm L2.PSm L2.PC
def top (i : Nat) : Stmt := PySem.Challenge.pw_paidspan_k60_pots_walked.main.body.getD i (.Pass ⟨0, 0, 0, 0⟩)
def inner (s : Stmt) (j : Nat) : Stmt := match s with
  | .ClassDef _ _ _ b _ _ _ _ _ _ _ => b.getD j (.Pass ⟨0, 0, 0, 0⟩)
  | _ => .Pass ⟨0, 0, 0, 0⟩
abbrev s_xL_whole : Stmt := top 3
abbrev s_xL_are : Stmt := top 4
abbrev s_xL_amount : Stmt := top 5
abbrev s_xL_take : Stmt := top 6
abbrev s_xL_give : Stmt := top 7
abbrev s_xL_done : Stmt := top 8
abbrev s_xL_looked : Stmt := top 9
abbrev s_law : Stmt := top 10
abbrev s_Pots___init__ : Stmt := inner (top 1) 0
abbrev s_Pots_grant : Stmt := inner (top 1) 1
abbrev s_Pots_take : Stmt := inner (top 1) 2
abbrev s_Pots_give : Stmt := inner (top 1) 3
abbrev s_Pots_pay_back : Stmt := inner (top 1) 4
abbrev s_Pots_took : Stmt := inner (top 1) 5
abbrev s_Pots_left : Stmt := inner (top 1) 6
theorem st_0 : Str.ofString "given" = SL [103, 105, 118, 101, 110] := by decide +kernel
theorem st_1 : Str.ofString "own" = SL [111, 119, 110] := by decide +kernel
theorem st_2 : Str.ofString "took" = SL [116, 111, 111, 107] := by decide +kernel
/-- where things stand -/
structure Adr where
  a_xL_whole : Addr
  d_xL_whole : FuncData
  a_xL_are : Addr
  d_xL_are : FuncData
  a_xL_amount : Addr
  d_xL_amount : FuncData
  a_xL_take : Addr
  d_xL_take : FuncData
  a_xL_give : Addr
  d_xL_give : FuncData
  a_xL_done : Addr
  d_xL_done : FuncData
  a_xL_looked : Addr
  d_xL_looked : FuncData
  a_law : Addr
  d_law : FuncData
  a_Pots___init__ : Addr
  d_Pots___init__ : FuncData
  a_Pots_grant : Addr
  d_Pots_grant : FuncData
  a_Pots_take : Addr
  d_Pots_take : FuncData
  a_Pots_give : Addr
  d_Pots_give : FuncData
  a_Pots_pay_back : Addr
  d_Pots_pay_back : FuncData
  a_Pots_took : Addr
  d_Pots_took : FuncData
  a_Pots_left : Addr
  d_Pots_left : FuncData
  c_Pots : Addr
/-- what stands there -/
structure Txt (K : PySem.W.Frag) (mg : Str → Option Value) (t : Adr) : Prop where
  mg_xL_whole : mg "_law_whole" = some (.ref t.a_xL_whole)
  fn_xL_whole : Fun K "_law_whole" "_law_whole" s_xL_whole t.a_xL_whole t.d_xL_whole
  b_xL_whole : Binds K t.d_xL_whole ["_law_found"] []
  mg_xL_are : mg "_law_are" = some (.ref t.a_xL_are)
  fn_xL_are : Fun K "_law_are" "_law_are" s_xL_are t.a_xL_are t.d_xL_are
  b_xL_are : Binds K t.d_xL_are ["_law_found", "_law_due"] []
  mg_xL_amount : mg "_law_amount" = some (.ref t.a_xL_amount)
  fn_xL_amount : Fun K "_law_amount" "_law_amount" s_xL_amount t.a_xL_amount t.d_xL_amount
  b_xL_amount : Binds K t.d_xL_amount ["_law_cell"] []
  mg_xL_take : mg "_law_take" = some (.ref t.a_xL_take)
  fn_xL_take : Fun K "_law_take" "_law_take" s_xL_take t.a_xL_take t.d_xL_take
  b_xL_take : Binds K t.d_xL_take ["_law_known", "_law_k", "_law_amount_here"] []
  mg_xL_give : mg "_law_give" = some (.ref t.a_xL_give)
  fn_xL_give : Fun K "_law_give" "_law_give" s_xL_give t.a_xL_give t.d_xL_give
  b_xL_give : Binds K t.d_xL_give ["_law_known", "_law_k", "_law_amount_here"] []
  mg_xL_done : mg "_law_done" = some (.ref t.a_xL_done)
  fn_xL_done : Fun K "_law_done" "_law_done" s_xL_done t.a_xL_done t.d_xL_done
  b_xL_done : Binds K t.d_xL_done ["_law_pots", "_law_known", "_law_cell"] []
  mg_xL_looked : mg "_law_looked" = some (.ref t.a_xL_looked)
  fn_xL_looked : Fun K "_law_looked" "_law_looked" s_xL_looked t.a_xL_looked t.d_xL_looked
  b_xL_looked : Binds K t.d_xL_looked ["_law_pots", "_law_known", "_law_cell"] []
  mg_law : mg "law" = some (.ref t.a_law)
  fn_law : Fun K "law" "law" s_law t.a_law t.d_law
  b_law : Binds K t.d_law ["_law_script"] []
  me_Pots___init__ : Meth K t.c_Pots "__init__" t.a_Pots___init__
  fn_Pots___init__ : Fun K "__init__" "Pots.__init__" s_Pots___init__ t.a_Pots___init__ t.d_Pots___init__
  b_Pots___init__ : Binds K t.d_Pots___init__ ["self"] []
  me_Pots_grant : Meth K t.c_Pots "grant" t.a_Pots_grant
  fn_Pots_grant : Fun K "grant" "Pots.grant" s_Pots_grant t.a_Pots_grant t.d_Pots_grant
  b_Pots_grant : Binds K t.d_Pots_grant ["self", "amount"] []
  me_Pots_take : Meth K t.c_Pots "take" t.a_Pots_take
  fn_Pots_take : Fun K "take" "Pots.take" s_Pots_take t.a_Pots_take t.d_Pots_take
  b_Pots_take : Binds K t.d_Pots_take ["self", "k", "amount"] []
  me_Pots_give : Meth K t.c_Pots "give" t.a_Pots_give
  fn_Pots_give : Fun K "give" "Pots.give" s_Pots_give t.a_Pots_give t.d_Pots_give
  b_Pots_give : Binds K t.d_Pots_give ["self", "k", "amount"] []
  me_Pots_pay_back : Meth K t.c_Pots "pay_back" t.a_Pots_pay_back
  fn_Pots_pay_back : Fun K "pay_back" "Pots.pay_back" s_Pots_pay_back t.a_Pots_pay_back t.d_Pots_pay_back
  b_Pots_pay_back : Binds K t.d_Pots_pay_back ["self"] []
  me_Pots_took : Meth K t.c_Pots "took" t.a_Pots_took
  fn_Pots_took : Fun K "took" "Pots.took" s_Pots_took t.a_Pots_took t.d_Pots_took
  b_Pots_took : Binds K t.d_Pots_took ["self", "k"] []
  me_Pots_left : Meth K t.c_Pots "left" t.a_Pots_left
  fn_Pots_left : Fun K "left" "Pots.left" s_Pots_left t.a_Pots_left t.d_Pots_left
  b_Pots_left : Binds K t.d_Pots_left ["self"] []
  mg_Pots : mg "Pots" = some (.ref t.c_Pots)
  cs_Pots : Cls K t.c_Pots
  mk_Pots : Mk K t.c_Pots t.a_Pots___init__
  na_Pots_given : NoAttr K t.c_Pots "given"
  na_Pots_own : NoAttr K t.c_Pots "own"
  na_Pots_taken : NoAttr K t.c_Pots "taken"
  no_isinstance : mg "isinstance" = none
  no_int : mg "int" = none
  no_bool : mg "bool" = none
  no_tuple : mg "tuple" = none
  no_min : mg "min" = none
  no_sum : mg "sum" = none
  no_list : mg "list" = none
  no_len : mg "len" = none
  cl_Pots : ClsOk K t.c_Pots
section
variable {P : Program} {w : World} {K : PySem.W.Frag} {mg : Str → Option Value} {base : Heap} {t : Adr}
/-- the fields of pots -/
def fsP (g o : Int) (d : Addr) : List (Str × V) := [("given", .int g), ("own", .int o), ("taken", .ref d)]
theorem put_g (g o x : Int) (d : Addr) : putF "given" (.int x) (fsP g o d) = fsP x o d := by unfold fsP; rw [putF, if_pos rfl]
theorem put_o (g o x : Int) (d : Addr) : putF "own" (.int x) (fsP g o d) = fsP g x d := by unfold fsP; rw [putF, if_neg (by decide), putF, if_pos rfl]
theorem get_g (g o : Int) (d : Addr) : (fsP g o d).lookup (Str.ofString "given") = some (.int g) := rfl
theorem get_o (g o : Int) (d : Addr) : (fsP g o d).lookup (Str.ofString "own") = some (.int o) := rfl
theorem get_t (g o : Int) (d : Addr) : (fsP g o d).lookup (Str.ofString "taken") = some (.ref d) := rfl
theorem get_n (g o : Int) (d : Addr) {m : Str} (h1 : (m == Str.ofString "given") = false) (h2 : (m == Str.ofString "own") = false) (h3 : (m == Str.ofString "taken") = false) : (fsP g o d).lookup m = none := by
  unfold fsP
  simp only [List.lookup, h1, h2, h3]
/-- what the spans took -/
abbrev Tab := List (Int × Int × Int)
def tGet : Tab → Int → Int × Int
  | [], _ => (0, 0)
  | z :: r, k => if z.1 = k then z.2 else tGet r k
def tPut (T : Tab) (k : Int) (v : Int × Int) : Tab := if (T.any fun z => decide (z.1 = k)) = true then T.map (fun z => if z.1 = k then (z.1, v) else z) else T ++ [(k, v)]
def Row (K : PySem.W.Frag) (H : Hp) (z : Int × Int × Int) (kv : Key × V) : Prop := kv.1 = Sum.inl z.1 ∧ ∃ p, kv.2 = .ref p ∧ H p = some (.tup [.int z.2.1, .int z.2.2])
def Rows (K : PySem.W.Frag) (H : Hp) : Tab → List (Key × V) → Prop
  | [], [] => True
  | z :: r, kv :: s => Row K H z kv ∧ Rows K H r s
  | _, _ => False
def KeepT (K : PySem.W.Frag) (H H' : Hp) : Prop := ∀ p xs, H p = some (.tup xs) → H' p = some (.tup xs)
theorem KeepT.of_same {H H' : Hp} (s : Same H H') : KeepT K H H' := fun _ _ h => s _ _ h
theorem KeepT.trans {A B C : Hp} (a : KeepT K A B) (b : KeepT K B C) : KeepT K A C := fun p xs h => b p xs (a p xs h)
theorem KeepT.dict {H : Hp} {a : Addr} {kvs : List (Key × V)} (e : H a = some (.dK kvs)) (o : HO) : KeepT K H (upd H a o) := fun p xs h => by
  rw [upd_ne (fun z => by rw [z, e] at h; cases h)]
  exact h
theorem KeepT.ins {H : Hp} {a C dx : Addr} {fs : List (Str × V)} (e : H a = some (.ins C dx fs)) (o : HO) : KeepT K H (upd H a o) := fun p xs h => by
  rw [upd_ne (fun z => by rw [z, e] at h; cases h)]
  exact h
theorem Rows.keep {H H' : Hp} (k : KeepT K H H') : ∀ {T : Tab} {kvs : List (Key × V)}, Rows K H T kvs → Rows K H' T kvs
  | [], [], _ => trivial
  | _ :: _, _ :: _, ⟨⟨h1, p, h2, h3⟩, h⟩ => ⟨⟨h1, p, h2, k _ _ h3⟩, h.keep k⟩
  | [], _ :: _, h => h.elim
  | _ :: _, [], h => h.elim
theorem Rows.val {H : Hp} (k : Int) : ∀ {T : Tab} {kvs : List (Key × V)}, Rows K H T kvs → (valV kvs (Sum.inl k) = none ∧ tGet T k = (0, 0)) ∨ ∃ p, valV kvs (Sum.inl k) = some (.ref p) ∧ H p = some (.tup [.int (tGet T k).1, .int (tGet T k).2])
  | [], [], _ => .inl ⟨rfl, rfl⟩
  | z :: r, kv :: s, ⟨⟨h1, p, h2, h3⟩, h⟩ => by
    by_cases e : z.1 = k
    · refine .inr ⟨p, ?_, ?_⟩
      · rw [valV_pos (by rw [h1, e]), h2]
      · rw [tGet, if_pos e]; exact h3
    · rw [valV_neg (by rw [h1]; exact fun q => e (Sum.inl.inj q)), tGet, if_neg e]
      exact h.val k
  | [], _ :: _, h => h.elim
  | _ :: _, [], h => h.elim
theorem Rows.any {H : Hp} (k : Int) : ∀ {T : Tab} {kvs : List (Key × V)}, Rows K H T kvs → (kvs.any fun kv => decide (kv.1 = Sum.inl k)) = T.any fun z => decide (z.1 = k)
  | [], [], _ => rfl
  | z :: r, kv :: s, ⟨⟨h1, p, h2, h3⟩, h⟩ => by
    rw [List.any_cons, List.any_cons, h.any k, h1]
    congr 1
    exact decide_eq_decide.mpr ⟨fun q => Sum.inl.inj q, fun q => by rw [q]⟩
  | [], _ :: _, h => h.elim
  | _ :: _, [], h => h.elim
theorem Rows.map {H : Hp} {k g m : Int} {q : Addr} (hq : H q = some (.tup [.int g, .int m])) : ∀ {T : Tab} {kvs : List (Key × V)}, Rows K H T kvs → Rows K H (T.map fun z => if z.1 = k then (z.1, (g, m)) else z) (kvs.map fun kv => if kv.1 = Sum.inl k then (kv.1, .ref q) else kv)
  | [], [], _ => trivial
  | z :: r, kv :: s, ⟨⟨h1, p, h2, h3⟩, h⟩ => by
    rw [List.map_cons, List.map_cons]
    refine ⟨?_, h.map hq⟩
    by_cases e : z.1 = k
    · rw [if_pos e, if_pos (by rw [h1, e])]
      exact ⟨h1, q, rfl, hq⟩
    · rw [if_neg e, if_neg (by rw [h1]; exact fun q => e (Sum.inl.inj q))]
      exact ⟨h1, p, h2, h3⟩
  | [], _ :: _, h => h.elim
  | _ :: _, [], h => h.elim
theorem Rows.snoc {H : Hp} {z : Int × Int × Int} {kv : Key × V} (x : Row K H z kv) : ∀ {T : Tab} {kvs : List (Key × V)}, Rows K H T kvs → Rows K H (T ++ [z]) (kvs ++ [kv])
  | [], [], _ => ⟨x, trivial⟩
  | _ :: _, _ :: _, ⟨h1, h⟩ => ⟨h1, h.snoc x⟩
  | [], _ :: _, h => h.elim
  | _ :: _, [], h => h.elim
theorem Rows.put {H : Hp} {k g m : Int} {q : Addr} {T : Tab} {kvs : List (Key × V)} (h : Rows K H T kvs) (hq : H q = some (.tup [.int g, .int m])) : Rows K H (tPut T k (g, m)) (putK kvs (Sum.inl k) (.ref q)) := by
  unfold tPut putK
  rw [h.any k]
  by_cases e : (T.any fun z => decide (z.1 = k)) = true
  · rw [if_pos e, if_pos e]
    exact h.map hq
  · rw [if_neg e, if_neg e]
    exact h.snoc ⟨rfl, q, rfl, hq⟩
theorem Rows.len {H : Hp} : ∀ {T : Tab} {kvs : List (Key × V)}, Rows K H T kvs → kvs.length = T.length
  | [], [], _ => rfl
  | _ :: _, _ :: _, ⟨_, h⟩ => congrArg Nat.succ h.len
  | [], _ :: _, h => h.elim
  | _ :: _, [], h => h.elim
theorem Rows.keys {H : Hp} : ∀ {T : Tab} {kvs : List (Key × V)}, Rows K H T kvs → (kvs.map fun kv => kV kv.1) = (T.map (·.1)).map V.int
  | [], [], _ => rfl
  | z :: _, kv :: _, ⟨⟨h1, _⟩, h⟩ => by
    rw [List.map_cons, List.map_cons, List.map_cons, h.keys, h1]
    rfl
  | [], _ :: _, h => h.elim
  | _ :: _, [], h => h.elim
theorem tPut_len (T : Tab) (k : Int) (v : Int × Int) : (tPut T k v).length ≤ T.length + 1 := by
  unfold tPut
  split
  · rw [List.length_map]; omega
  · rw [List.length_append]; exact Nat.le_refl _
def TabOk (T : Tab) : Prop := ∀ z ∈ T, 0 ≤ z.2.1 ∧ 0 ≤ z.2.2
theorem TabOk.get {k : Int} : ∀ {T : Tab}, TabOk T → 0 ≤ (tGet T k).1 ∧ 0 ≤ (tGet T k).2
  | [], _ => ⟨Int.le_refl _, Int.le_refl _⟩
  | z :: r, h => by
    rw [tGet]
    split
    · exact h z List.mem_cons_self
    · exact TabOk.get (k := k) (T := r) fun y hy => h y (List.mem_cons_of_mem _ hy)
theorem TabOk.put {T : Tab} {k : Int} {v : Int × Int} (h : TabOk T) (h1 : 0 ≤ v.1) (h2 : 0 ≤ v.2) : TabOk (tPut T k v) := fun z hz => by
  unfold tPut at hz
  split at hz
  · obtain ⟨y, hy, rfl⟩ := List.mem_map.mp hz
    by_cases e : y.1 = k
    · rw [if_pos e]; exact ⟨h1, h2⟩
    · rw [if_neg e]; exact h y hy
  · rcases List.mem_append.mp hz with y | y
    · exact h z y
    · rw [List.mem_singleton.mp y]; exact ⟨h1, h2⟩
def spInit (t : Adr) : Sp := fun vs H Q _ => ∃ (p dx : Addr), vs = [.ref p] ∧ H p = some (.ins t.c_Pots dx []) ∧ ∀ d H', H d = none → H' d = some (.dK []) → H' p = some (.ins t.c_Pots dx (fsP 0 0 d)) → (∀ b o, b ≠ p → H b = some o → H' b = some o) → Q .non H'
theorem sc_Pots___init__ : FnScope ["self"] ["self"] (defScope s_Pots___init__) := ⟨rfl, rfl, rfl, by decide +kernel, rfl, by decide +kernel, by decide +kernel⟩
theorem ok_Pots___init__ (T : Txt K mg t) : FnOk P w K mg base (CXE P w) 1 t.a_Pots___init__ t.d_Pots___init__ ["self"] (spInit t) := by
  refine T.fn_Pots___init__.okX sc_Pots___init__ (fun vs H Q E h => ?_) (fun cdv A outer s H vs Q E L hr h => ?_)
  · obtain ⟨p, dx, rfl, hp, q⟩ := h
    rfl
  obtain ⟨p, dx, rfl, hp, q⟩ := h
  have nd := sc_Pots___init__.nd
  refine ⟨_, (pss_cons (ps_fld (pv 0) pe_int rfl) (pss_cons (ps_fld (pv 0) pe_int rfl) (pss_one (ps_fld (pv 0) pe_dnewS rfl)))), ?_⟩
  simp only [tFld, sFld, sFldAug, tMeth, tMake, rAdd, rSub, tDNewS, tDIn, tDNotIn, sDPut, tDPop1, tDGet2, tDGet, tCallKX, kwG_one, tEither, tTupS, tLstS, comp_K, capσ, sub_nil, sub_none, sub_some, tYes, List.replicate, Option.join_some, Option.join_none, SL_inj, iStr, tPart, tNoPart, tSl, tLst, tTup, cx_K, slT, CDiv, Int.reduceLT, Int.reduceLE, Int.reduceToNat, Int.reduceNeg, Int.reduceAdd, Int.reduceSub, Int.reduceMul, forall_const, tSeq, tNext, tIfS, tRet, tRetN, tDrop, tAsg, gName, gCons, gNil, tVar, tC, tOp, rI, rI0, tUn, rU, tTest, tB, tAnd, tOr, tNot, tAndV, tOrV, tNotV, tIf, tCons, tNil, tCallX, tCallL, tCB, sRaise, rEq, rNe, scal_ii, scal_bb, scal_ss, scal_ni, scal_in, tChain, tAug, ipI, L2.start, List.map_cons, List.map_nil, List.length_cons, List.length_nil, List.cons_append, List.nil_append, List.append_nil, List.replicate_succ, List.replicate_zero, Nat.reduceAdd, Nat.reduceSub, List.getElem?_cons_zero, List.getElem?_cons_succ, List.set_cons_zero, List.set_cons_succ, Option.some.injEq, V.int.injEq, V.bl.injEq, V.ref.injEq, V.str.injEq, exists_eq_left', exists_eq_left, exists_eq', exists_and_left, List.cons.injEq, and_true, true_and, and_self, and_assoc, decide_eq_true_eq, if_true, if_false, Bool.true_eq_false, Bool.false_eq_true, Bool.not_eq_true', Bool.not_true, Bool.not_false, decide_eq_false_iff_not, ite_true, ite_false, reduceCtorEq, false_and, exists_false, false_or, or_false, and_false, Nat.reduceLeDiff]
  refine ⟨_, _, _, hp, T.cs_Pots, T.na_Pots_given, by decide, _, _, _, upd_same, T.cs_Pots, T.na_Pots_own, by decide, fun d H1 hd s1 e1 => ?_⟩
  have dp : d ≠ p := fun z => by rw [z, upd_same] at hd; cases hd
  rw [upd_ne dp, upd_ne dp] at hd
  have ep := s1 _ _ (upd_same (H := upd H p _) (a := p))
  refine ⟨_, _, _, ep, T.cs_Pots, T.na_Pots_taken, by decide, q d _ hd (by rw [upd_ne dp]; exact e1) upd_same fun b o hb eb => ?_⟩
  rw [upd_ne hb]
  exact s1 _ _ (by rw [upd_ne hb, upd_ne hb]; exact eb)
def spGrant (t : Adr) : Sp := fun vs H Q _ => ∃ (p dx d : Addr) (a g o : Int), vs = [.ref p, .int a] ∧ H p = some (.ins t.c_Pots dx (fsP g o d)) ∧ Q .non (upd H p (.ins t.c_Pots dx (fsP (g + a) o d)))
theorem sc_Pots_grant : FnScope ["self", "amount"] ["self", "amount"] (defScope s_Pots_grant) := ⟨rfl, rfl, rfl, by decide +kernel, rfl, by decide +kernel, by decide +kernel⟩
theorem ok_Pots_grant (T : Txt K mg t) : FnOk P w K mg base (CXE P w) 1 t.a_Pots_grant t.d_Pots_grant ["self", "amount"] (spGrant t) := by
  refine T.fn_Pots_grant.okX sc_Pots_grant (fun vs H Q E h => ?_) (fun cdv A outer s H vs Q E L hr h => ?_)
  · obtain ⟨p, dx, d, a, g, o, rfl, hp, q⟩ := h
    rfl
  obtain ⟨p, dx, d, a, g, o, rfl, hp, q⟩ := h
  have nd := sc_Pots_grant.nd
  refine ⟨_, (pss_one (ps_fldaug (pv 0) (pv 1) in_add)), ?_⟩
  simp only [tFld, sFld, sFldAug, tMeth, tMake, rAdd, rSub, tDNewS, tDIn, tDNotIn, sDPut, tDPop1, tDGet2, tDGet, tCallKX, kwG_one, tEither, tTupS, tLstS, comp_K, capσ, sub_nil, sub_none, sub_some, tYes, List.replicate, Option.join_some, Option.join_none, SL_inj, iStr, tPart, tNoPart, tSl, tLst, tTup, cx_K, slT, CDiv, Int.reduceLT, Int.reduceLE, Int.reduceToNat, Int.reduceNeg, Int.reduceAdd, Int.reduceSub, Int.reduceMul, forall_const, tSeq, tNext, tIfS, tRet, tRetN, tDrop, tAsg, gName, gCons, gNil, tVar, tC, tOp, rI, rI0, tUn, rU, tTest, tB, tAnd, tOr, tNot, tAndV, tOrV, tNotV, tIf, tCons, tNil, tCallX, tCallL, tCB, sRaise, rEq, rNe, scal_ii, scal_bb, scal_ss, scal_ni, scal_in, tChain, tAug, ipI, L2.start, List.map_cons, List.map_nil, List.length_cons, List.length_nil, List.cons_append, List.nil_append, List.append_nil, List.replicate_succ, List.replicate_zero, Nat.reduceAdd, Nat.reduceSub, List.getElem?_cons_zero, List.getElem?_cons_succ, List.set_cons_zero, List.set_cons_succ, Option.some.injEq, V.int.injEq, V.bl.injEq, V.ref.injEq, V.str.injEq, exists_eq_left', exists_eq_left, exists_eq', exists_and_left, List.cons.injEq, and_true, true_and, and_self, and_assoc, decide_eq_true_eq, if_true, if_false, Bool.true_eq_false, Bool.false_eq_true, Bool.not_eq_true', Bool.not_true, Bool.not_false, decide_eq_false_iff_not, ite_true, ite_false, reduceCtorEq, false_and, exists_false, false_or, or_false, and_false, Nat.reduceLeDiff]
  refine ⟨_, _, _, hp, T.cs_Pots, T.na_Pots_given, _, get_g g o d, _, rfl, _, _, hp, by simp [fsP], ?_⟩
  rw [put_g]
  exact q
def spLeft (t : Adr) : Sp := fun vs H Q _ => ∃ (p dx d : Addr) (g o : Int), vs = [.ref p] ∧ H p = some (.ins t.c_Pots dx (fsP g o d)) ∧ ∀ r H', Same H H' → H' r = some (.tup [.int o, .int g]) → Q (.ref r) H'
theorem sc_Pots_left : FnScope ["self"] ["self"] (defScope s_Pots_left) := ⟨rfl, rfl, rfl, by decide +kernel, rfl, by decide +kernel, by decide +kernel⟩
theorem ok_Pots_left (T : Txt K mg t) : FnOk P w K mg base (CXE P w) 1 t.a_Pots_left t.d_Pots_left ["self"] (spLeft t) := by
  refine T.fn_Pots_left.okX sc_Pots_left (fun vs H Q E h => ?_) (fun cdv A outer s H vs Q E L hr h => ?_)
  · obtain ⟨p, dx, d, g, o, rfl, hp, q⟩ := h
    rfl
  obtain ⟨p, dx, d, g, o, rfl, hp, q⟩ := h
  have nd := sc_Pots_left.nd
  refine ⟨_, (pss_one (ps_ret (pe_tupS (pa_cons (pe_fld (pv 0) rfl) (pa_cons (pe_fld (pv 0) rfl) pa_nil))))), ?_⟩
  simp only [tFld, sFld, sFldAug, tMeth, tMake, rAdd, rSub, tDNewS, tDIn, tDNotIn, sDPut, tDPop1, tDGet2, tDGet, tCallKX, kwG_one, tEither, tTupS, tLstS, comp_K, capσ, sub_nil, sub_none, sub_some, tYes, List.replicate, Option.join_some, Option.join_none, SL_inj, iStr, tPart, tNoPart, tSl, tLst, tTup, cx_K, slT, CDiv, Int.reduceLT, Int.reduceLE, Int.reduceToNat, Int.reduceNeg, Int.reduceAdd, Int.reduceSub, Int.reduceMul, forall_const, tSeq, tNext, tIfS, tRet, tRetN, tDrop, tAsg, gName, gCons, gNil, tVar, tC, tOp, rI, rI0, tUn, rU, tTest, tB, tAnd, tOr, tNot, tAndV, tOrV, tNotV, tIf, tCons, tNil, tCallX, tCallL, tCB, sRaise, rEq, rNe, scal_ii, scal_bb, scal_ss, scal_ni, scal_in, tChain, tAug, ipI, L2.start, List.map_cons, List.map_nil, List.length_cons, List.length_nil, List.cons_append, List.nil_append, List.append_nil, List.replicate_succ, List.replicate_zero, Nat.reduceAdd, Nat.reduceSub, List.getElem?_cons_zero, List.getElem?_cons_succ, List.set_cons_zero, List.set_cons_succ, Option.some.injEq, V.int.injEq, V.bl.injEq, V.ref.injEq, V.str.injEq, exists_eq_left', exists_eq_left, exists_eq', exists_and_left, List.cons.injEq, and_true, true_and, and_self, and_assoc, decide_eq_true_eq, if_true, if_false, Bool.true_eq_false, Bool.false_eq_true, Bool.not_eq_true', Bool.not_true, Bool.not_false, decide_eq_false_iff_not, ite_true, ite_false, reduceCtorEq, false_and, exists_false, false_or, or_false, and_false, Nat.reduceLeDiff]
  refine ⟨_, _, _, hp, T.cs_Pots, T.na_Pots_own, _, get_o g o d, _, _, _, hp, T.cs_Pots, T.na_Pots_given, _, get_g g o d, fun r H1 _ s1 e1 => q r H1 s1 e1⟩
def spPay (t : Adr) : Sp := fun vs H Q _ => ∃ (p dx d : Addr) (g o : Int), vs = [.ref p] ∧ H p = some (.ins t.c_Pots dx (fsP g o d)) ∧ Q (.int o) (upd H p (.ins t.c_Pots dx (fsP g 0 d)))
theorem sc_Pots_pay_back : FnScope ["self", "amount"] ["self"] (defScope s_Pots_pay_back) := ⟨rfl, rfl, rfl, by decide +kernel, rfl, by decide +kernel, by decide +kernel⟩
theorem ok_Pots_pay_back (T : Txt K mg t) : FnOk P w K mg base (CXE P w) 1 t.a_Pots_pay_back t.d_Pots_pay_back ["self"] (spPay t) := by
  refine T.fn_Pots_pay_back.okX sc_Pots_pay_back (fun vs H Q E h => ?_) (fun cdv A outer s H vs Q E L hr h => ?_)
  · obtain ⟨p, dx, d, g, o, rfl, hp, q⟩ := h
    rfl
  obtain ⟨p, dx, d, g, o, rfl, hp, q⟩ := h
  have nd := sc_Pots_pay_back.nd
  refine ⟨_, (pss_cons (ps_set (i := 1) nd rfl (Or.inl rfl) (pe_fld (pv 0) rfl)) (pss_cons (ps_fld (pv 0) pe_int rfl) (pss_one (ps_ret (pv 1))))), ?_⟩
  simp only [tFld, sFld, sFldAug, tMeth, tMake, rAdd, rSub, tDNewS, tDIn, tDNotIn, sDPut, tDPop1, tDGet2, tDGet, tCallKX, kwG_one, tEither, tTupS, tLstS, comp_K, capσ, sub_nil, sub_none, sub_some, tYes, List.replicate, Option.join_some, Option.join_none, SL_inj, iStr, tPart, tNoPart, tSl, tLst, tTup, cx_K, slT, CDiv, Int.reduceLT, Int.reduceLE, Int.reduceToNat, Int.reduceNeg, Int.reduceAdd, Int.reduceSub, Int.reduceMul, forall_const, tSeq, tNext, tIfS, tRet, tRetN, tDrop, tAsg, gName, gCons, gNil, tVar, tC, tOp, rI, rI0, tUn, rU, tTest, tB, tAnd, tOr, tNot, tAndV, tOrV, tNotV, tIf, tCons, tNil, tCallX, tCallL, tCB, sRaise, rEq, rNe, scal_ii, scal_bb, scal_ss, scal_ni, scal_in, tChain, tAug, ipI, L2.start, List.map_cons, List.map_nil, List.length_cons, List.length_nil, List.cons_append, List.nil_append, List.append_nil, List.replicate_succ, List.replicate_zero, Nat.reduceAdd, Nat.reduceSub, List.getElem?_cons_zero, List.getElem?_cons_succ, List.set_cons_zero, List.set_cons_succ, Option.some.injEq, V.int.injEq, V.bl.injEq, V.ref.injEq, V.str.injEq, exists_eq_left', exists_eq_left, exists_eq', exists_and_left, List.cons.injEq, and_true, true_and, and_self, and_assoc, decide_eq_true_eq, if_true, if_false, Bool.true_eq_false, Bool.false_eq_true, Bool.not_eq_true', Bool.not_true, Bool.not_false, decide_eq_false_iff_not, ite_true, ite_false, reduceCtorEq, false_and, exists_false, false_or, or_false, and_false, Nat.reduceLeDiff]
  refine ⟨_, _, _, hp, T.cs_Pots, T.na_Pots_own, _, get_o g o d, _, _, _, hp, T.cs_Pots, T.na_Pots_own, by simp [fsP], ?_⟩
  rw [put_o]
  exact q
def spTook (K : PySem.W.Frag) (t : Adr) : Sp := fun vs H Q _ => ∃ (p dx d : Addr) (g o k : Int) (kvs : List (Key × V)) (Tb : Tab), vs = [.ref p, .int k] ∧ H p = some (.ins t.c_Pots dx (fsP g o d)) ∧ H d = some (.dK kvs) ∧ Rows K H Tb kvs ∧ ∀ r H', Same H H' → H' r = some (.tup [.int (tGet Tb k).1, .int (tGet Tb k).2]) → Q (.ref r) H'
theorem sc_Pots_took : FnScope ["self", "k"] ["self", "k"] (defScope s_Pots_took) := ⟨rfl, rfl, rfl, by decide +kernel, rfl, by decide +kernel, by decide +kernel⟩
theorem ok_Pots_took (T : Txt K mg t) : FnOk P w K mg base (CXE P w) 1 t.a_Pots_took t.d_Pots_took ["self", "k"] (spTook K t) := by
  refine T.fn_Pots_took.okX sc_Pots_took (fun vs H Q E h => ?_) (fun cdv A outer s H vs Q E L hr h => ?_)
  · obtain ⟨p, dx, d, g, o, k, kvs, Tb, rfl, hp, hd, hr0, q⟩ := h
    rfl
  obtain ⟨p, dx, d, g, o, k, kvs, Tb, rfl, hp, hd, hr0, q⟩ := h
  have nd := sc_Pots_took.nd
  refine ⟨_, (pss_one (ps_ret (pe_dget2 (hu_of hr) (pe_fld (pv 0) rfl) (pv 1) (pe_tupS (pa_cons pe_int (pa_cons pe_int pa_nil star_Constant) star_Constant)) ⟨by rfl, by rfl, by rfl, by rfl⟩))), ?_⟩
  simp only [tFld, sFld, sFldAug, tMeth, tMake, rAdd, rSub, tDNewS, tDIn, tDNotIn, sDPut, tDPop1, tDGet2, tDGet, tCallKX, kwG_one, tEither, tTupS, tLstS, comp_K, capσ, sub_nil, sub_none, sub_some, tYes, List.replicate, Option.join_some, Option.join_none, SL_inj, iStr, tPart, tNoPart, tSl, tLst, tTup, cx_K, slT, CDiv, Int.reduceLT, Int.reduceLE, Int.reduceToNat, Int.reduceNeg, Int.reduceAdd, Int.reduceSub, Int.reduceMul, forall_const, tSeq, tNext, tIfS, tRet, tRetN, tDrop, tAsg, gName, gCons, gNil, tVar, tC, tOp, rI, rI0, tUn, rU, tTest, tB, tAnd, tOr, tNot, tAndV, tOrV, tNotV, tIf, tCons, tNil, tCallX, tCallL, tCB, sRaise, rEq, rNe, scal_ii, scal_bb, scal_ss, scal_ni, scal_in, tChain, tAug, ipI, L2.start, List.map_cons, List.map_nil, List.length_cons, List.length_nil, List.cons_append, List.nil_append, List.append_nil, List.replicate_succ, List.replicate_zero, Nat.reduceAdd, Nat.reduceSub, List.getElem?_cons_zero, List.getElem?_cons_succ, List.set_cons_zero, List.set_cons_succ, Option.some.injEq, V.int.injEq, V.bl.injEq, V.ref.injEq, V.str.injEq, exists_eq_left', exists_eq_left, exists_eq', exists_and_left, List.cons.injEq, and_true, true_and, and_self, and_assoc, decide_eq_true_eq, if_true, if_false, Bool.true_eq_false, Bool.false_eq_true, Bool.not_eq_true', Bool.not_true, Bool.not_false, decide_eq_false_iff_not, ite_true, ite_false, reduceCtorEq, false_and, exists_false, false_or, or_false, and_false, Nat.reduceLeDiff]
  refine ⟨_, _, _, hp, T.cs_Pots, T.na_Pots_taken, _, get_t g o d, d, rfl, .inl ⟨_, Rd.of hd⟩, fun r0 H1 _ s1 e1 => ⟨_, DGet.k (k := Sum.inl k) (s1 _ _ hd), ?_⟩⟩
  rcases hr0.val k with ⟨e, et⟩ | ⟨pt, e, hs⟩
  · rw [e]
    exact q r0 H1 s1 (by rw [et]; exact e1)
  · rw [e]
    exact q pt H1 s1 (s1 _ _ hs)
def spTake (K : PySem.W.Frag) (t : Adr) : Sp := fun vs H Q _ => ∃ (p dx d : Addr) (g o k a : Int) (kvs : List (Key × V)) (Tb : Tab), vs = [.ref p, .int k, .int a] ∧ H p = some (.ins t.c_Pots dx (fsP g o d)) ∧ H d = some (.dK kvs) ∧ Rows K H Tb kvs ∧ Tb.length ≤ 500 ∧
  ∀ x y r H' kvs', x = (if g < a then g else a) → y = (if o < a - x then o else a - x) → H' r = some (.tup [.int x, .int y, .int (a - x - y)]) → H' p = some (.ins t.c_Pots dx (fsP (g - x) (o - y) d)) → H' d = some (.dK kvs') → Rows K H' (tPut Tb k ((tGet Tb k).1 + x, (tGet Tb k).2 + a - x)) kvs' → (∀ b u, b ≠ p → b ≠ d → H b = some u → H' b = some u) → KeepT K H H' → Q (.ref r) H'
theorem sc_Pots_take : FnScope ["self", "k", "amount", "from_given", "from_own", "paid", "given", "money"] ["self", "k", "amount"] (defScope s_Pots_take) := ⟨rfl, rfl, rfl, by decide +kernel, rfl, by decide +kernel, by decide +kernel⟩
theorem ok_Pots_take (T : Txt K mg t) : FnOk P w K mg base (CXE P w) 2 t.a_Pots_take t.d_Pots_take ["self", "k", "amount"] (spTake K t) := by
  refine T.fn_Pots_take.okX sc_Pots_take (fun vs H Q E h => ?_) (fun cdv A outer s H vs Q E L hr h => ?_)
  · obtain ⟨p, dx, d, g, o, k, a, kvs, Tb, rfl, hp, hd, hr0, hl, q⟩ := h
    rfl
  obtain ⟨p, dx, d, g, o, k, a, kvs, Tb, rfl, hp, hd, hr0, hl, q⟩ := h
  have nd := sc_Pots_take.nd
  refine ⟨_, (pss_cons (ps_set (i := 3) nd rfl (Or.inl rfl) (pe_callB (call_min2 (by rfl)) (by rfl) T.no_min bb_min (pa_cons (pv 2) (pa_cons (pe_fld (pv 0) rfl) pa_nil) star_Name))) (pss_cons (ps_set (i := 4) nd rfl (Or.inl rfl) (pe_callB (call_min2 (by rfl)) (by rfl) T.no_min bb_min (pa_cons (pe_op op_sub (pv 2) (pv 3)) (pa_cons (pe_fld (pv 0) rfl) pa_nil) star_BinOp))) (pss_cons (ps_set (i := 5) nd rfl (Or.inl rfl) (pe_op op_sub (pe_op op_sub (pv 2) (pv 3)) (pv 4))) (pss_cons (ps_fldaug (pv 0) (pv 3) in_sub) (pss_cons (ps_fldaug (pv 0) (pv 4) in_sub) (pss_cons (ps_asg (pe_meth (pv 0) T.cs_Pots T.me_Pots_took (ok_Pots_took T) (hr.mono (by decide)) T.b_Pots_took .nil passF (pa_cons (pv 1) pa_nil)) (pg_tup (n := 2) rfl (pgs_cons (pg_name (i := 6) nd rfl (Or.inl rfl)) (pgs_cons (pg_name (i := 7) nd rfl (Or.inl rfl)) pgs_nil)))) (pss_cons (ps_dput (hu_of hr) (pe_fld (pv 0) rfl) (pv 1) (pe_tupS (pa_cons (pe_op op_add (pv 6) (pv 3)) (pa_cons (pe_op op_add (pe_op op_add (pv 7) (pv 4)) (pv 5)) pa_nil star_BinOp) star_BinOp)) rfl) (pss_one (ps_ret (pe_tupS (pa_cons (pv 3) (pa_cons (pv 4) (pa_cons (pv 5) pa_nil star_Name) star_Name) star_Name))))))))))), ?_⟩
  simp only [tFld, sFld, sFldAug, tMeth, tMake, rAdd, rSub, tDNewS, tDIn, tDNotIn, sDPut, tDPop1, tDGet2, tDGet, tCallKX, kwG_one, tEither, tTupS, tLstS, comp_K, capσ, sub_nil, sub_none, sub_some, tYes, List.replicate, Option.join_some, Option.join_none, SL_inj, iStr, tPart, tNoPart, tSl, tLst, tTup, cx_K, slT, CDiv, Int.reduceLT, Int.reduceLE, Int.reduceToNat, Int.reduceNeg, Int.reduceAdd, Int.reduceSub, Int.reduceMul, forall_const, tSeq, tNext, tIfS, tRet, tRetN, tDrop, tAsg, gName, gCons, gNil, tVar, tC, tOp, rI, rI0, tUn, rU, tTest, tB, tAnd, tOr, tNot, tAndV, tOrV, tNotV, tIf, tCons, tNil, tCallX, tCallL, tCB, sRaise, rEq, rNe, scal_ii, scal_bb, scal_ss, scal_ni, scal_in, tChain, tAug, ipI, L2.start, List.map_cons, List.map_nil, List.length_cons, List.length_nil, List.cons_append, List.nil_append, List.append_nil, List.replicate_succ, List.replicate_zero, Nat.reduceAdd, Nat.reduceSub, List.getElem?_cons_zero, List.getElem?_cons_succ, List.set_cons_zero, List.set_cons_succ, Option.some.injEq, V.int.injEq, V.bl.injEq, V.ref.injEq, V.str.injEq, exists_eq_left', exists_eq_left, exists_eq', exists_and_left, List.cons.injEq, and_true, true_and, and_self, and_assoc, decide_eq_true_eq, if_true, if_false, Bool.true_eq_false, Bool.false_eq_true, Bool.not_eq_true', Bool.not_true, Bool.not_false, decide_eq_false_iff_not, ite_true, ite_false, reduceCtorEq, false_and, exists_false, false_or, or_false, and_false, Nat.reduceLeDiff]
  refine ⟨_, _, _, hp, T.cs_Pots, T.na_Pots_given, _, get_g g o d, _, rfl, _, _, _, hp, T.cs_Pots, T.na_Pots_own, _, get_o g o d, _, rfl, _, _, _, hp, T.cs_Pots, T.na_Pots_given, _, get_g g o d, _, rfl, _, _, hp, by simp [fsP], ?_⟩
  obtain ⟨x, hx⟩ : ∃ x, x = (if g < a then g else a) := ⟨_, rfl⟩
  rw [← hx, put_g]
  obtain ⟨y, hy⟩ : ∃ y, y = (if o < a - x then o else a - x) := ⟨_, rfl⟩
  rw [← hy]
  refine ⟨_, _, _, upd_same, T.cs_Pots, T.na_Pots_own, _, get_o (g - x) o d, _, rfl, _, _, upd_same, by simp [fsP], ?_⟩
  rw [put_o]
  have dp : d ≠ p := fun z => by rw [z, hp] at hd; cases hd
  have kp : KeepT K H (upd (upd H p (.ins t.c_Pots dx (fsP (g - x) o d))) p (.ins t.c_Pots dx (fsP (g - x) (o - y) d))) := (KeepT.ins hp _).trans (KeepT.ins upd_same _)
  have fr : ∀ b u, b ≠ p → H b = some u → upd (upd H p (.ins t.c_Pots dx (fsP (g - x) o d))) p (.ins t.c_Pots dx (fsP (g - x) (o - y) d)) b = some u := fun b u hb e => by rw [upd_ne hb, upd_ne hb]; exact e
  have ep : upd (upd H p (.ins t.c_Pots dx (fsP (g - x) o d))) p (.ins t.c_Pots dx (fsP (g - x) (o - y) d)) p = some (.ins t.c_Pots dx (fsP (g - x) (o - y) d)) := upd_same
  generalize upd (upd H p (.ins t.c_Pots dx (fsP (g - x) o d))) p (.ins t.c_Pots dx (fsP (g - x) (o - y) d)) = H2 at kp fr ep
  refine ⟨_, _, ep, get_n _ _ _ (by decide) (by decide) (by decide), p, dx, d, _, _, k, kvs, Tb, rfl, ep, fr _ _ dp hd, hr0.keep kp, fun r H3 s3 h3 => ?_⟩
  refine ⟨r, _, rfl, SqT.of h3, rfl, ?_⟩
  simp only [tFld, sFld, sFldAug, tMeth, tMake, rAdd, rSub, tDNewS, tDIn, tDNotIn, sDPut, tDPop1, tDGet2, tDGet, tCallKX, kwG_one, tEither, tTupS, tLstS, comp_K, capσ, sub_nil, sub_none, sub_some, tYes, List.replicate, Option.join_some, Option.join_none, SL_inj, iStr, tPart, tNoPart, tSl, tLst, tTup, cx_K, slT, CDiv, Int.reduceLT, Int.reduceLE, Int.reduceToNat, Int.reduceNeg, Int.reduceAdd, Int.reduceSub, Int.reduceMul, forall_const, tSeq, tNext, tIfS, tRet, tRetN, tDrop, tAsg, gName, gCons, gNil, tVar, tC, tOp, rI, rI0, tUn, rU, tTest, tB, tAnd, tOr, tNot, tAndV, tOrV, tNotV, tIf, tCons, tNil, tCallX, tCallL, tCB, sRaise, rEq, rNe, scal_ii, scal_bb, scal_ss, scal_ni, scal_in, tChain, tAug, ipI, L2.start, List.map_cons, List.map_nil, List.length_cons, List.length_nil, List.cons_append, List.nil_append, List.append_nil, List.replicate_succ, List.replicate_zero, Nat.reduceAdd, Nat.reduceSub, List.getElem?_cons_zero, List.getElem?_cons_succ, List.set_cons_zero, List.set_cons_succ, Option.some.injEq, V.int.injEq, V.bl.injEq, V.ref.injEq, V.str.injEq, exists_eq_left', exists_eq_left, exists_eq', exists_and_left, List.cons.injEq, and_true, true_and, and_self, and_assoc, decide_eq_true_eq, if_true, if_false, Bool.true_eq_false, Bool.false_eq_true, Bool.not_eq_true', Bool.not_true, Bool.not_false, decide_eq_false_iff_not, ite_true, ite_false, reduceCtorEq, false_and, exists_false, false_or, or_false, and_false, Nat.reduceLeDiff]
  intro q1 H4 _ s4 e4
  have ep4 := s4 _ _ (s3 _ _ ep)
  have ed4 := s4 _ _ (s3 _ _ (fr _ _ dp hd))
  have rows4 := (hr0.keep kp).keep (KeepT.of_same (s3.trans s4))
  refine ⟨_, _, _, ep4, T.cs_Pots, T.na_Pots_taken, _, get_t _ _ d, d, rfl, _, DPut.k (k := Sum.inl k) ed4 (small1000 (by rw [hr0.len]; omega)), fun r5 H6 _ s6 e6 => ?_⟩
  have sq5 : (upd H4 d (.dK (putK kvs (Sum.inl k) (.ref q1)))) q1 = some (.tup [.int ((tGet Tb k).1 + x), .int ((tGet Tb k).2 + a - x)]) := KeepT.dict (K := K) ed4 _ _ _ (by rw [e4]; first | done | rfl | (congr 5; omega))
  have rows5 := ((rows4.keep (KeepT.dict ed4 (.dK (putK kvs (Sum.inl k) (.ref q1))))).put (k := k) sq5).keep (KeepT.of_same s6)
  refine q x y r5 H6 _ hx hy e6 (s6 _ _ (by rw [upd_ne dp.symm]; exact ep4)) (s6 _ _ upd_same) rows5 (fun b u b1 b2 e => s6 _ _ (by rw [upd_ne b2]; exact s4 _ _ (s3 _ _ (fr _ _ b1 e)))) (((kp.trans (KeepT.of_same (s3.trans s4))).trans (KeepT.dict ed4 _)).trans (KeepT.of_same s6))
def spGive (K : PySem.W.Frag) (t : Adr) : Sp := fun vs H Q _ => ∃ (p dx d : Addr) (g o k a : Int) (kvs : List (Key × V)) (Tb : Tab), vs = [.ref p, .int k, .int a] ∧ H p = some (.ins t.c_Pots dx (fsP g o d)) ∧ H d = some (.dK kvs) ∧ Rows K H Tb kvs ∧ Tb.length ≤ 500 ∧
  ∀ y r H' kvs', y = (if (tGet Tb k).2 < a then (tGet Tb k).2 else a) → H' r = some (.tup [.int (a - y), .int y]) → H' p = some (.ins t.c_Pots dx (fsP (g + (a - y)) (o + y) d)) → H' d = some (.dK kvs') → Rows K H' (tPut Tb k ((tGet Tb k).1 - (a - y), (tGet Tb k).2 - y)) kvs' → (∀ b u, b ≠ p → b ≠ d → H b = some u → H' b = some u) → KeepT K H H' → Q (.ref r) H'
theorem sc_Pots_give : FnScope ["self", "k", "amount", "given", "money", "to_own", "to_given"] ["self", "k", "amount"] (defScope s_Pots_give) := ⟨rfl, rfl, rfl, by decide +kernel, rfl, by decide +kernel, by decide +kernel⟩
theorem ok_Pots_give (T : Txt K mg t) : FnOk P w K mg base (CXE P w) 2 t.a_Pots_give t.d_Pots_give ["self", "k", "amount"] (spGive K t) := by
  refine T.fn_Pots_give.okX sc_Pots_give (fun vs H Q E h => ?_) (fun cdv A outer s H vs Q E L hr h => ?_)
  · obtain ⟨p, dx, d, g, o, k, a, kvs, Tb, rfl, hp, hd, hr0, hl, q⟩ := h
    rfl
  obtain ⟨p, dx, d, g, o, k, a, kvs, Tb, rfl, hp, hd, hr0, hl, q⟩ := h
  have nd := sc_Pots_give.nd
  refine ⟨_, (pss_cons (ps_asg (pe_meth (pv 0) T.cs_Pots T.me_Pots_took (ok_Pots_took T) (hr.mono (by decide)) T.b_Pots_took .nil passF (pa_cons (pv 1) pa_nil)) (pg_tup (n := 2) rfl (pgs_cons (pg_name (i := 3) nd rfl (Or.inl rfl)) (pgs_cons (pg_name (i := 4) nd rfl (Or.inl rfl)) pgs_nil)))) (pss_cons (ps_set (i := 5) nd rfl (Or.inl rfl) (pe_callB (call_min2 (by rfl)) (by rfl) T.no_min bb_min (pa_cons (pv 2) (pa_cons (pv 4) pa_nil star_Name) star_Name))) (pss_cons (ps_set (i := 6) nd rfl (Or.inl rfl) (pe_op op_sub (pv 2) (pv 5))) (pss_cons (ps_fldaug (pv 0) (pv 5) in_add) (pss_cons (ps_fldaug (pv 0) (pv 6) in_add) (pss_cons (ps_dput (hu_of hr) (pe_fld (pv 0) rfl) (pv 1) (pe_tupS (pa_cons (pe_op op_sub (pv 3) (pv 6)) (pa_cons (pe_op op_sub (pv 4) (pv 5)) pa_nil star_BinOp) star_BinOp)) rfl) (pss_one (ps_ret (pe_tupS (pa_cons (pv 6) (pa_cons (pv 5) pa_nil star_Name) star_Name)))))))))), ?_⟩
  simp only [tFld, sFld, sFldAug, tMeth, tMake, rAdd, rSub, tDNewS, tDIn, tDNotIn, sDPut, tDPop1, tDGet2, tDGet, tCallKX, kwG_one, tEither, tTupS, tLstS, comp_K, capσ, sub_nil, sub_none, sub_some, tYes, List.replicate, Option.join_some, Option.join_none, SL_inj, iStr, tPart, tNoPart, tSl, tLst, tTup, cx_K, slT, CDiv, Int.reduceLT, Int.reduceLE, Int.reduceToNat, Int.reduceNeg, Int.reduceAdd, Int.reduceSub, Int.reduceMul, forall_const, tSeq, tNext, tIfS, tRet, tRetN, tDrop, tAsg, gName, gCons, gNil, tVar, tC, tOp, rI, rI0, tUn, rU, tTest, tB, tAnd, tOr, tNot, tAndV, tOrV, tNotV, tIf, tCons, tNil, tCallX, tCallL, tCB, sRaise, rEq, rNe, scal_ii, scal_bb, scal_ss, scal_ni, scal_in, tChain, tAug, ipI, L2.start, List.map_cons, List.map_nil, List.length_cons, List.length_nil, List.cons_append, List.nil_append, List.append_nil, List.replicate_succ, List.replicate_zero, Nat.reduceAdd, Nat.reduceSub, List.getElem?_cons_zero, List.getElem?_cons_succ, List.set_cons_zero, List.set_cons_succ, Option.some.injEq, V.int.injEq, V.bl.injEq, V.ref.injEq, V.str.injEq, exists_eq_left', exists_eq_left, exists_eq', exists_and_left, List.cons.injEq, and_true, true_and, and_self, and_assoc, decide_eq_true_eq, if_true, if_false, Bool.true_eq_false, Bool.false_eq_true, Bool.not_eq_true', Bool.not_true, Bool.not_false, decide_eq_false_iff_not, ite_true, ite_false, reduceCtorEq, false_and, exists_false, false_or, or_false, and_false, Nat.reduceLeDiff]
  refine ⟨_, _, hp, get_n _ _ _ (by decide) (by decide) (by decide), p, dx, d, _, _, k, kvs, Tb, rfl, hp, hd, hr0, fun r H3 s3 h3 => ?_⟩
  refine ⟨r, _, rfl, SqT.of h3, rfl, ?_⟩
  simp only [tFld, sFld, sFldAug, tMeth, tMake, rAdd, rSub, tDNewS, tDIn, tDNotIn, sDPut, tDPop1, tDGet2, tDGet, tCallKX, kwG_one, tEither, tTupS, tLstS, comp_K, capσ, sub_nil, sub_none, sub_some, tYes, List.replicate, Option.join_some, Option.join_none, SL_inj, iStr, tPart, tNoPart, tSl, tLst, tTup, cx_K, slT, CDiv, Int.reduceLT, Int.reduceLE, Int.reduceToNat, Int.reduceNeg, Int.reduceAdd, Int.reduceSub, Int.reduceMul, forall_const, tSeq, tNext, tIfS, tRet, tRetN, tDrop, tAsg, gName, gCons, gNil, tVar, tC, tOp, rI, rI0, tUn, rU, tTest, tB, tAnd, tOr, tNot, tAndV, tOrV, tNotV, tIf, tCons, tNil, tCallX, tCallL, tCB, sRaise, rEq, rNe, scal_ii, scal_bb, scal_ss, scal_ni, scal_in, tChain, tAug, ipI, L2.start, List.map_cons, List.map_nil, List.length_cons, List.length_nil, List.cons_append, List.nil_append, List.append_nil, List.replicate_succ, List.replicate_zero, Nat.reduceAdd, Nat.reduceSub, List.getElem?_cons_zero, List.getElem?_cons_succ, List.set_cons_zero, List.set_cons_succ, Option.some.injEq, V.int.injEq, V.bl.injEq, V.ref.injEq, V.str.injEq, exists_eq_left', exists_eq_left, exists_eq', exists_and_left, List.cons.injEq, and_true, true_and, and_self, and_assoc, decide_eq_true_eq, if_true, if_false, Bool.true_eq_false, Bool.false_eq_true, Bool.not_eq_true', Bool.not_true, Bool.not_false, decide_eq_false_iff_not, ite_true, ite_false, reduceCtorEq, false_and, exists_false, false_or, or_false, and_false, Nat.reduceLeDiff]
  obtain ⟨y, hy⟩ : ∃ y, y = (if (tGet Tb k).2 < a then (tGet Tb k).2 else a) := ⟨_, rfl⟩
  rw [← hy]
  have hp3 := s3 _ _ hp
  refine ⟨_, _, _, hp3, T.cs_Pots, T.na_Pots_own, _, get_o g o d, _, rfl, _, _, hp3, by simp [fsP], ?_⟩
  rw [put_o]
  refine ⟨_, _, _, upd_same, T.cs_Pots, T.na_Pots_given, _, get_g g (o + y) d, _, rfl, _, _, upd_same, by simp [fsP], ?_⟩
  rw [put_g]
  have dp : d ≠ p := fun z => by rw [z, hp] at hd; cases hd
  have kp : KeepT K H (upd (upd H3 p (.ins t.c_Pots dx (fsP g (o + y) d))) p (.ins t.c_Pots dx (fsP (g + (a - y)) (o + y) d))) := ((KeepT.of_same s3).trans (KeepT.ins hp3 _)).trans (KeepT.ins upd_same _)
  have fr : ∀ b u, b ≠ p → H b = some u → upd (upd H3 p (.ins t.c_Pots dx (fsP g (o + y) d))) p (.ins t.c_Pots dx (fsP (g + (a - y)) (o + y) d)) b = some u := fun b u hb e => by rw [upd_ne hb, upd_ne hb]; exact s3 _ _ e
  have ep : upd (upd H3 p (.ins t.c_Pots dx (fsP g (o + y) d))) p (.ins t.c_Pots dx (fsP (g + (a - y)) (o + y) d)) p = some (.ins t.c_Pots dx (fsP (g + (a - y)) (o + y) d)) := upd_same
  generalize upd (upd H3 p (.ins t.c_Pots dx (fsP g (o + y) d))) p (.ins t.c_Pots dx (fsP (g + (a - y)) (o + y) d)) = H3' at kp fr ep
  have s3 : Same H3' H3' := Same.refl _
  intro q1 H4 _ s4 e4
  have ep4 := s4 _ _ (s3 _ _ ep)
  have ed4 := s4 _ _ (s3 _ _ (fr _ _ dp hd))
  have rows4 := (hr0.keep kp).keep (KeepT.of_same (s3.trans s4))
  refine ⟨_, _, _, ep4, T.cs_Pots, T.na_Pots_taken, _, get_t _ _ d, d, rfl, _, DPut.k (k := Sum.inl k) ed4 (small1000 (by rw [hr0.len]; omega)), fun r5 H6 _ s6 e6 => ?_⟩
  have sq5 : (upd H4 d (.dK (putK kvs (Sum.inl k) (.ref q1)))) q1 = some (.tup [.int ((tGet Tb k).1 - (a - y)), .int ((tGet Tb k).2 - y)]) := KeepT.dict (K := K) ed4 _ _ _ (by rw [e4]; first | done | rfl | (congr 5; omega))
  have rows5 := ((rows4.keep (KeepT.dict ed4 (.dK (putK kvs (Sum.inl k) (.ref q1))))).put (k := k) sq5).keep (KeepT.of_same s6)
  refine q y r5 H6 _ hy e6 (s6 _ _ (by rw [upd_ne dp.symm]; exact ep4)) (s6 _ _ upd_same) rows5 (fun b u b1 b2 e => s6 _ _ (by rw [upd_ne b2]; exact s4 _ _ (s3 _ _ (fr _ _ b1 e)))) (((kp.trans (KeepT.of_same (s3.trans s4))).trans (KeepT.dict ed4 _)).trans (KeepT.of_same s6))
/-- the law's own book: what is known -/
def kvK (g o : Int) (td : Addr) : List (Key × V) := [(Sum.inr (SL [103, 105, 118, 101, 110]), .int g), (Sum.inr (SL [111, 119, 110]), .int o), (Sum.inr (SL [116, 111, 111, 107]), .ref td)]
theorem key_ne {a b : List Nat} (h : a ≠ b) : ¬ (Sum.inr (SL a) : Key) = Sum.inr (SL b) := fun z => h (by rw [Sum.inr.injEq, SL_inj] at z; exact z)
theorem val_g (g o : Int) (td : Addr) : valV (kvK g o td) (Sum.inr (SL [103, 105, 118, 101, 110])) = some (.int g) := by unfold kvK; rw [valV_pos rfl]
theorem val_o (g o : Int) (td : Addr) : valV (kvK g o td) (Sum.inr (SL [111, 119, 110])) = some (.int o) := by unfold kvK; rw [valV_neg (key_ne (by decide)), valV_pos rfl]
theorem val_t (g o : Int) (td : Addr) : valV (kvK g o td) (Sum.inr (SL [116, 111, 111, 107])) = some (.ref td) := by unfold kvK; rw [valV_neg (key_ne (by decide)), valV_neg (key_ne (by decide)), valV_pos rfl]
theorem dget_g {H : Hp} {kn td : Addr} {g o : Int} (h : H kn = some (.dK (kvK g o td))) : DGet H kn (.str (SL [103, 105, 118, 101, 110])) (some (.int g)) := by
  have := DGet.k (k := Sum.inr (SL [103, 105, 118, 101, 110])) h
  rw [val_g] at this
  exact this
theorem dget_o {H : Hp} {kn td : Addr} {g o : Int} (h : H kn = some (.dK (kvK g o td))) : DGet H kn (.str (SL [111, 119, 110])) (some (.int o)) := by
  have := DGet.k (k := Sum.inr (SL [111, 119, 110])) h
  rw [val_o] at this
  exact this
theorem dget_t {H : Hp} {kn td : Addr} {g o : Int} (h : H kn = some (.dK (kvK g o td))) : DGet H kn (.str (SL [116, 111, 111, 107])) (some (.ref td)) := by
  have := DGet.k (k := Sum.inr (SL [116, 111, 111, 107])) h
  rw [val_t] at this
  exact this
theorem dput_g {H : Hp} {kn td : Addr} {g o : Int} (h : H kn = some (.dK (kvK g o td))) (x : Int) : DPut H kn (.str (SL [103, 105, 118, 101, 110])) (.int x) (upd H kn (.dK (kvK x o td))) := by
  have := DPut.k (k := Sum.inr (SL [103, 105, 118, 101, 110])) (v := .int x) h (small1000 (by simp [kvK]))
  have e : putK (kvK g o td) (Sum.inr (SL [103, 105, 118, 101, 110])) (.int x) = kvK x o td := by
    unfold putK
    rw [valV_any, val_g, if_pos (show (some _ : Option V).isSome = true from rfl)]
    unfold kvK
    rw [List.map_cons, List.map_cons, List.map_cons, List.map_nil, if_pos rfl, if_neg (key_ne (by decide)), if_neg (key_ne (by decide))]
  rw [e] at this
  exact this
theorem dput_o {H : Hp} {kn td : Addr} {g o : Int} (h : H kn = some (.dK (kvK g o td))) (x : Int) : DPut H kn (.str (SL [111, 119, 110])) (.int x) (upd H kn (.dK (kvK g x td))) := by
  have := DPut.k (k := Sum.inr (SL [111, 119, 110])) (v := .int x) h (small1000 (by simp [kvK]))
  have e : putK (kvK g o td) (Sum.inr (SL [111, 119, 110])) (.int x) = kvK g x td := by
    unfold putK
    rw [valV_any, val_o, if_pos (show (some _ : Option V).isSome = true from rfl)]
    unfold kvK
    rw [List.map_cons, List.map_cons, List.map_cons, List.map_nil, if_neg (key_ne (by decide)), if_pos rfl, if_neg (key_ne (by decide))]
  rw [e] at this
  exact this
/-- what d.get(k, (0, 0)) tells -/
theorem Rows.got {H : Hp} {k : Int} {z : Addr} {T : Tab} {kvs : List (Key × V)} (h : Rows K H T kvs) (e : H z = some (.tup [.int 0, .int 0])) : ∃ pt, (valV kvs (Sum.inl k)).getD (.ref z) = .ref pt ∧ H pt = some (.tup [.int (tGet T k).1, .int (tGet T k).2]) := by
  rcases h.val k with ⟨e1, et⟩ | ⟨pt, e1, hs⟩
  · exact ⟨z, by rw [e1]; rfl, by rw [et]; exact e⟩
  · exact ⟨pt, by rw [e1]; rfl, hs⟩
def spWhole60 : Sp := fun vs H Q _ => ∃ i : Int, vs = [.int i] ∧ Q (.bl true) H
theorem sc_xL_whole : FnScope ["_law_found"] ["_law_found"] (defScope s_xL_whole) := ⟨rfl, rfl, rfl, by decide +kernel, rfl, by decide +kernel, by decide +kernel⟩
theorem ok_xL_whole (T : Txt K mg t) : FnOk P w K mg base (CXE P w) 1 t.a_xL_whole t.d_xL_whole ["_law_found"] (spWhole60) := by
  refine T.fn_xL_whole.okX sc_xL_whole (fun vs H Q E h => ?_) (fun cdv A outer s H vs Q E L hr h => ?_)
  · obtain ⟨i, rfl, q⟩ := h
    rfl
  obtain ⟨i, rfl, q⟩ := h
  have nd := sc_xL_whole.nd
  refine ⟨_, (pss_one (ps_ret (pe_and (pe_callB call_isinst (by rfl) T.no_isinstance bb_isinstance (pa_cons (pv 0) (pa_cons (pe_ty (by rfl) T.no_int bb_int) pa_nil star_Name) star_Name)) (pe_one (pe_not (pe_callB call_isinst (by rfl) T.no_isinstance bb_isinstance (pa_cons (pv 0) (pa_cons (pe_ty (by rfl) T.no_bool bb_bool) pa_nil star_Name) star_Name))))))), ?_⟩
  simp only [tFld, sFld, sFldAug, tMeth, tMake, rAdd, rSub, tDNewS, tDIn, tDNotIn, sDPut, tDPop1, tDGet2, tDGet, tCallKX, kwG_one, tEither, tTupS, tLstS, comp_K, capσ, sub_nil, sub_none, sub_some, tYes, List.replicate, Option.join_some, Option.join_none, SL_inj, iStr, tPart, tNoPart, tSl, tLst, tTup, cx_K, slT, CDiv, Int.reduceLT, Int.reduceLE, Int.reduceToNat, Int.reduceNeg, Int.reduceAdd, Int.reduceSub, Int.reduceMul, forall_const, tSeq, tNext, tIfS, tRet, tRetN, tDrop, tAsg, gName, gCons, gNil, tVar, tC, tOp, rI, rI0, tUn, rU, tTest, tB, tAnd, tOr, tNot, tAndV, tOrV, tNotV, tIf, tCons, tNil, tCallX, tCallL, tCB, sRaise, rEq, rNe, scal_ii, scal_bb, scal_ss, scal_ni, scal_in, tChain, tAug, ipI, L2.start, List.map_cons, List.map_nil, List.length_cons, List.length_nil, List.cons_append, List.nil_append, List.append_nil, List.replicate_succ, List.replicate_zero, Nat.reduceAdd, Nat.reduceSub, List.getElem?_cons_zero, List.getElem?_cons_succ, List.set_cons_zero, List.set_cons_succ, Option.some.injEq, V.int.injEq, V.bl.injEq, V.ref.injEq, V.str.injEq, exists_eq_left', exists_eq_left, exists_eq', exists_and_left, List.cons.injEq, and_true, true_and, and_self, and_assoc, decide_eq_true_eq, if_true, if_false, Bool.true_eq_false, Bool.false_eq_true, Bool.not_eq_true', Bool.not_true, Bool.not_false, decide_eq_false_iff_not, ite_true, ite_false, reduceCtorEq, false_and, exists_false, false_or, or_false, and_false, Nat.reduceLeDiff]
  refine ⟨_, .old (.int _), _, rfl, _, kit_int_int, ?_⟩
  rw [if_pos rfl]
  refine ⟨_, .old (.int _), _, rfl, _, kit_int_bool, ?_⟩
  exact q
def spAre (K : PySem.W.Frag) : Sp := fun vs H Q _ => ∃ (p q : Addr) (xs : List Int), vs = [.ref p, .ref q] ∧ H p = some (.tup (xs.map V.int)) ∧ H q = some (.tup (xs.map V.int)) ∧ xs.length ≤ 50 ∧ ∀ H', Same H H' → Q (.bl true) H'
theorem sc_xL_are : FnScope ["_law_found", "_law_due"] ["_law_found", "_law_due"] (defScope s_xL_are) := ⟨rfl, rfl, rfl, by decide +kernel, rfl, by decide +kernel, by decide +kernel⟩
theorem ok_xL_are (T : Txt K mg t) : FnOk P w K mg base (CXE P w) 2 t.a_xL_are t.d_xL_are ["_law_found", "_law_due"] (spAre K) := by
  refine T.fn_xL_are.okX sc_xL_are (fun vs H Q E h => ?_) (fun cdv A outer s H vs Q E L hr h => ?_)
  · obtain ⟨p, q', xs, rfl, h1, h2, hl, q⟩ := h
    rfl
  obtain ⟨p, q', xs, rfl, h1, h2, hl, q⟩ := h
  have nd := sc_xL_are.nd
  refine ⟨_, (pss_cons (ps_if (pw_or (pt_not (pt_val (pe_callB call_isinst (by rfl) T.no_isinstance bb_isinstance (pa_cons (pv 0) (pa_cons (pe_ty (by rfl) T.no_tuple bb_tuple) pa_nil star_Name) star_Name)))) (pw_or1 (pt_cmpR (op_neD hr) (pv 0) (pv 1) (nomark _)))).pt (pss_one (ps_ret pe_bl)) pss_nil) (pss_one (ps_ret (pe_cmpR (op_eqD hr) (pe_comp (n := 1) (N := ["_law_one"]) (js := []) (by rfl) rfl rfl (pi_tup (pv 0)) (fun a => (pg_name (i := 0) (show List.Nodup (["_law_one"] : List Str) from by decide +kernel) rfl (Or.inl rfl))) (fun a => (pif_one (pt_not (pt_val (pe_callX lv_no (ok_xL_whole T) (hr.mono (by decide)) (by rfl) T.mg_xL_whole T.fn_xL_whole.kp T.b_xL_whole .nil (pa_cons (pv 0) pa_nil)))))) (fun a => (pv 0))) (pe_lstS pa_nil) (nomark _))))), ?_⟩
  simp only [tFld, sFld, sFldAug, tMeth, tMake, rAdd, rSub, tDNewS, tDIn, tDNotIn, sDPut, tDPop1, tDGet2, tDGet, tCallKX, kwG_one, tEither, tTupS, tLstS, comp_K, capσ, sub_nil, sub_none, sub_some, tYes, List.replicate, Option.join_some, Option.join_none, SL_inj, iStr, tPart, tNoPart, tSl, tLst, tTup, cx_K, slT, CDiv, Int.reduceLT, Int.reduceLE, Int.reduceToNat, Int.reduceNeg, Int.reduceAdd, Int.reduceSub, Int.reduceMul, forall_const, tSeq, tNext, tIfS, tRet, tRetN, tDrop, tAsg, gName, gCons, gNil, tVar, tC, tOp, rI, rI0, tUn, rU, tTest, tB, tAnd, tOr, tNot, tAndV, tOrV, tNotV, tIf, tCons, tNil, tCallX, tCallL, tCB, sRaise, rEq, rNe, scal_ii, scal_bb, scal_ss, scal_ni, scal_in, tChain, tAug, ipI, L2.start, List.map_cons, List.map_nil, List.length_cons, List.length_nil, List.cons_append, List.nil_append, List.append_nil, List.replicate_succ, List.replicate_zero, Nat.reduceAdd, Nat.reduceSub, List.getElem?_cons_zero, List.getElem?_cons_succ, List.set_cons_zero, List.set_cons_succ, Option.some.injEq, V.int.injEq, V.bl.injEq, V.ref.injEq, V.str.injEq, exists_eq_left', exists_eq_left, exists_eq', exists_and_left, List.cons.injEq, and_true, true_and, and_self, and_assoc, decide_eq_true_eq, if_true, if_false, Bool.true_eq_false, Bool.false_eq_true, Bool.not_eq_true', Bool.not_true, Bool.not_false, decide_eq_false_iff_not, ite_true, ite_false, reduceCtorEq, false_and, exists_false, false_or, or_false, and_false, Nat.reduceLeDiff]
  refine ⟨_, .old (.tup h1), _, rfl, _, kit_tup_tup, ?_⟩
  rw [if_neg (by decide)]
  refine neD (n := 0) (d := .tup (xs.map D.int)) (Dp_tup (SqT.of h1) (all2_ints _)) (Dp_tup (SqT.of h2) (all2_ints _)) rfl (by decide) ⟨_, rfl, ite_f (by decide) ?_⟩
  refine ⟨_, rfl, p, rfl, ⟨_, SqT.of h1⟩, fun l2 hl2 aa => ?_⟩
  refine comp_by (fun _ ys _ => ys = []) (lists_tup (SqT.of h1)) hl2 (by rw [List.length_map]; exact small_len (by omega)) (fun _ _ => rfl) (fun j x ys H8 K1 K0 hx sm pv hl' k1 k0 => ?_) (fun ys H8 s8 pv _ w8 => ?_)
  · rw [List.getElem?_map] at hx
    obtain ⟨u, hu, rfl⟩ := Option.map_eq_some_iff.mp hx
    simp only [tFld, sFld, sFldAug, tMeth, tMake, rAdd, rSub, tDNewS, tDIn, tDNotIn, sDPut, tDPop1, tDGet2, tDGet, tCallKX, kwG_one, tEither, tTupS, tLstS, comp_K, capσ, sub_nil, sub_none, sub_some, tYes, List.replicate, Option.join_some, Option.join_none, SL_inj, iStr, tPart, tNoPart, tSl, tLst, tTup, cx_K, slT, CDiv, Int.reduceLT, Int.reduceLE, Int.reduceToNat, Int.reduceNeg, Int.reduceAdd, Int.reduceSub, Int.reduceMul, forall_const, tSeq, tNext, tIfS, tRet, tRetN, tDrop, tAsg, gName, gCons, gNil, tVar, tC, tOp, rI, rI0, tUn, rU, tTest, tB, tAnd, tOr, tNot, tAndV, tOrV, tNotV, tIf, tCons, tNil, tCallX, tCallL, tCB, sRaise, rEq, rNe, scal_ii, scal_bb, scal_ss, scal_ni, scal_in, tChain, tAug, ipI, L2.start, List.map_cons, List.map_nil, List.length_cons, List.length_nil, List.cons_append, List.nil_append, List.append_nil, List.replicate_succ, List.replicate_zero, Nat.reduceAdd, Nat.reduceSub, List.getElem?_cons_zero, List.getElem?_cons_succ, List.set_cons_zero, List.set_cons_succ, Option.some.injEq, V.int.injEq, V.bl.injEq, V.ref.injEq, V.str.injEq, exists_eq_left', exists_eq_left, exists_eq', exists_and_left, List.cons.injEq, and_true, true_and, and_self, and_assoc, decide_eq_true_eq, if_true, if_false, Bool.true_eq_false, Bool.false_eq_true, Bool.not_eq_true', Bool.not_true, Bool.not_false, decide_eq_false_iff_not, ite_true, ite_false, reduceCtorEq, false_and, exists_false, false_or, or_false, and_false, List.nil_append]
    exact ⟨_, rfl, _, rfl, ite_f (by decide) (k0 _ (Same.refl _) pv)⟩
  · subst pv
    intro p3 H9 _ s9 e9
    exact eqD (n := 0) (d := .lst []) (Dp_lst (SqL.of (s9 _ _ w8)) trivial) (Dp_lst (SqL.of e9) trivial) rfl (by decide) (q _ (s8.trans s9))
def spAmount : Sp := fun vs H Q _ => ∃ c : Int, vs = [.int c] ∧ ∀ a H', Same H H' → 0 ≤ a → Q (.int a) H'
theorem sc_xL_amount : FnScope ["_law_cell"] ["_law_cell"] (defScope s_xL_amount) := ⟨rfl, rfl, rfl, by decide +kernel, rfl, by decide +kernel, by decide +kernel⟩
theorem ok_xL_amount (T : Txt K mg t) : FnOk P w K mg base (CXE P w) 1 t.a_xL_amount t.d_xL_amount ["_law_cell"] (spAmount) := by
  refine T.fn_xL_amount.okX sc_xL_amount (fun vs H Q E h => ?_) (fun cdv A outer s H vs Q E L hr h => ?_)
  · obtain ⟨c, rfl, q⟩ := h
    rfl
  obtain ⟨c, rfl, q⟩ := h
  have nd := sc_xL_amount.nd
  refine ⟨_, (pss_one (ps_ret (pe_ix ix_list (pe_lstS (pa_cons (pe_op op_mod (pe_op op_fdiv (pv 0) pe_int) pe_int) (pa_cons (pe_op op_mod (pe_op op_fdiv (pv 0) pe_int) (pe_op op_pow pe_int pe_int)) (pa_cons pe_int (pa_cons (pe_op op_mod (pe_op op_fdiv (pv 0) pe_int) pe_int) pa_nil star_BinOp) star_Constant) star_BinOp) star_BinOp)) (pe_op op_mod (pe_op op_fdiv (pv 0) pe_int) pe_int) (fun _ _ => rfl)))), ?_⟩
  simp only [tFld, sFld, sFldAug, tMeth, tMake, rAdd, rSub, tDNewS, tDIn, tDNotIn, sDPut, tDPop1, tDGet2, tDGet, tCallKX, kwG_one, tEither, tTupS, tLstS, comp_K, capσ, sub_nil, sub_none, sub_some, tYes, List.replicate, Option.join_some, Option.join_none, SL_inj, iStr, tPart, tNoPart, tSl, tLst, tTup, cx_K, slT, CDiv, Int.reduceLT, Int.reduceLE, Int.reduceToNat, Int.reduceNeg, Int.reduceAdd, Int.reduceSub, Int.reduceMul, forall_const, tSeq, tNext, tIfS, tRet, tRetN, tDrop, tAsg, gName, gCons, gNil, tVar, tC, tOp, rI, rI0, tUn, rU, tTest, tB, tAnd, tOr, tNot, tAndV, tOrV, tNotV, tIf, tCons, tNil, tCallX, tCallL, tCB, sRaise, rEq, rNe, scal_ii, scal_bb, scal_ss, scal_ni, scal_in, tChain, tAug, ipI, L2.start, List.map_cons, List.map_nil, List.length_cons, List.length_nil, List.cons_append, List.nil_append, List.append_nil, List.replicate_succ, List.replicate_zero, Nat.reduceAdd, Nat.reduceSub, List.getElem?_cons_zero, List.getElem?_cons_succ, List.set_cons_zero, List.set_cons_succ, Option.some.injEq, V.int.injEq, V.bl.injEq, V.ref.injEq, V.str.injEq, exists_eq_left', exists_eq_left, exists_eq', exists_and_left, List.cons.injEq, and_true, true_and, and_self, and_assoc, decide_eq_true_eq, if_true, if_false, Bool.true_eq_false, Bool.false_eq_true, Bool.not_eq_true', Bool.not_true, Bool.not_false, decide_eq_false_iff_not, ite_true, ite_false, reduceCtorEq, false_and, exists_false, false_or, or_false, and_false, Nat.reduceLeDiff]
  refine ⟨⟨by decide, by decide, by decide⟩, by decide, fun p1 H1 _ s1 e1 => ?_⟩
  have e1' : H1 p1 = some (.lst (([c / 60 % 50, c / 60 % 10 ^ 30, 0, c / 60 % 2000] : List Int).map V.int)) := e1
  have i4 : 0 ≤ c / 15 % 4 ∧ c / 15 % 4 < 4 := by omega
  have b := getD_in (xs := [c / 60 % 50, c / 60 % 10 ^ 30, 0, c / 60 % 2000]) (lo := 0) (hi := 10 ^ 30) (fun y hy => by
    simp only [List.mem_cons, List.not_mem_nil, or_false] at hy
    rcases hy with rfl | rfl | rfl | rfl <;> omega) i4.1 i4.2
  exact ixL (SqL.of e1') (at_ints i4.1 i4.2) (q _ H1 s1 b.1)
def spLTake (K : PySem.W.Frag) : Sp := fun vs H Q _ => ∃ (kn td : Addr) (g o k a : Int) (kvs : List (Key × V)) (Tb : Tab), vs = [.ref kn, .int k, .int a] ∧ H kn = some (.dK (kvK g o td)) ∧ H td = some (.dK kvs) ∧ kn ≠ td ∧ Rows K H Tb kvs ∧ Tb.length ≤ 500 ∧
  ∀ x y r H' kvs', x = (if g < a then g else a) → y = (if o < a - x then o else a - x) → H' r = some (.tup [.int x, .int y, .int (a - x - y)]) → H' kn = some (.dK (kvK (g - x) (o - y) td)) → H' td = some (.dK kvs') → Rows K H' (tPut Tb k ((tGet Tb k).1 + x, (tGet Tb k).2 + a - x)) kvs' → (∀ b u, b ≠ kn → b ≠ td → H b = some u → H' b = some u) → KeepT K H H' → Q (.ref r) H'
theorem sc_xL_take : FnScope ["_law_known", "_law_k", "_law_amount_here", "_law_given", "_law_own", "_law_one", "_law_other"] ["_law_known", "_law_k", "_law_amount_here"] (defScope s_xL_take) := ⟨rfl, rfl, rfl, by decide +kernel, rfl, by decide +kernel, by decide +kernel⟩
theorem ok_xL_take (T : Txt K mg t) : FnOk P w K mg base (CXE P w) 1 t.a_xL_take t.d_xL_take ["_law_known", "_law_k", "_law_amount_here"] (spLTake K) := by
  refine T.fn_xL_take.okX sc_xL_take (fun vs H Q E h => ?_) (fun cdv A outer s H vs Q E L hr h => ?_)
  · obtain ⟨kn, td, g, o, k, a, kvs, Tb, rfl, hk, hd, ne, hr0, hl, q⟩ := h
    rfl
  obtain ⟨kn, td, g, o, k, a, kvs, Tb, rfl, hk, hd, ne, hr0, hl, q⟩ := h
  have nd := sc_xL_take.nd
  refine ⟨_, (pss_cons (ps_set (i := 3) nd rfl (Or.inl rfl) (pe_callB (call_min2 (by rfl)) (by rfl) T.no_min bb_min (pa_cons (pv 2) (pa_cons (pe_dget (hu_of hr) (pv 0) (pe_strL st_0) (fun _ _ => rfl)) pa_nil star_Subscript) star_Name))) (pss_cons (ps_set (i := 4) nd rfl (Or.inl rfl) (pe_callB (call_min2 (by rfl)) (by rfl) T.no_min bb_min (pa_cons (pe_op op_sub (pv 2) (pv 3)) (pa_cons (pe_dget (hu_of hr) (pv 0) (pe_strL st_1) (fun _ _ => rfl)) pa_nil star_Subscript) star_BinOp))) (pss_cons (ps_dput (hu_of hr) (pv 0) (pe_strL st_0) (pe_op op_sub (pe_dget (hu_of hr) (pv 0) (pe_strL st_0) (fun _ _ => rfl)) (pv 3)) rfl) (pss_cons (ps_dput (hu_of hr) (pv 0) (pe_strL st_1) (pe_op op_sub (pe_dget (hu_of hr) (pv 0) (pe_strL st_1) (fun _ _ => rfl)) (pv 4)) rfl) (pss_cons (ps_asg (pe_dget2 (hu_of hr) (pe_dget (hu_of hr) (pv 0) (pe_strL st_2) (fun _ _ => rfl)) (pv 1) (pe_tupS (pa_cons pe_int (pa_cons pe_int pa_nil star_Constant) star_Constant)) ⟨by rfl, by rfl, by rfl, by rfl⟩) (pg_tup (n := 2) rfl (pgs_cons (pg_name (i := 5) nd rfl (Or.inl rfl)) (pgs_cons (pg_name (i := 6) nd rfl (Or.inl rfl)) pgs_nil)))) (pss_cons (ps_dput (hu_of hr) (pe_dget (hu_of hr) (pv 0) (pe_strL st_2) (fun _ _ => rfl)) (pv 1) (pe_tupS (pa_cons (pe_op op_add (pv 5) (pv 3)) (pa_cons (pe_op op_sub (pe_op op_add (pv 6) (pv 2)) (pv 3)) pa_nil star_BinOp) star_BinOp)) rfl) (pss_one (ps_ret (pe_tupS (pa_cons (pv 3) (pa_cons (pv 4) (pa_cons (pe_op op_sub (pe_op op_sub (pv 2) (pv 3)) (pv 4)) pa_nil star_BinOp) star_Name) star_Name)))))))))), ?_⟩
  simp only [tFld, sFld, sFldAug, tMeth, tMake, rAdd, rSub, tDNewS, tDIn, tDNotIn, sDPut, tDPop1, tDGet2, tDGet, tCallKX, kwG_one, tEither, tTupS, tLstS, comp_K, capσ, sub_nil, sub_none, sub_some, tYes, List.replicate, Option.join_some, Option.join_none, SL_inj, iStr, tPart, tNoPart, tSl, tLst, tTup, cx_K, slT, CDiv, Int.reduceLT, Int.reduceLE, Int.reduceToNat, Int.reduceNeg, Int.reduceAdd, Int.reduceSub, Int.reduceMul, forall_const, tSeq, tNext, tIfS, tRet, tRetN, tDrop, tAsg, gName, gCons, gNil, tVar, tC, tOp, rI, rI0, tUn, rU, tTest, tB, tAnd, tOr, tNot, tAndV, tOrV, tNotV, tIf, tCons, tNil, tCallX, tCallL, tCB, sRaise, rEq, rNe, scal_ii, scal_bb, scal_ss, scal_ni, scal_in, tChain, tAug, ipI, L2.start, List.map_cons, List.map_nil, List.length_cons, List.length_nil, List.cons_append, List.nil_append, List.append_nil, List.replicate_succ, List.replicate_zero, Nat.reduceAdd, Nat.reduceSub, List.getElem?_cons_zero, List.getElem?_cons_succ, List.set_cons_zero, List.set_cons_succ, Option.some.injEq, V.int.injEq, V.bl.injEq, V.ref.injEq, V.str.injEq, exists_eq_left', exists_eq_left, exists_eq', exists_and_left, List.cons.injEq, and_true, true_and, and_self, and_assoc, decide_eq_true_eq, if_true, if_false, Bool.true_eq_false, Bool.false_eq_true, Bool.not_eq_true', Bool.not_true, Bool.not_false, decide_eq_false_iff_not, ite_true, ite_false, reduceCtorEq, false_and, exists_false, false_or, or_false, and_false, Nat.reduceLeDiff]
  refine ⟨_, dget_g hk, _, rfl, _, dget_o hk, _, rfl, _, dget_g hk, _, rfl, _, dput_g hk _, ?_⟩
  obtain ⟨x, hx⟩ : ∃ x, x = (if g < a then g else a) := ⟨_, rfl⟩
  rw [← hx]
  obtain ⟨y, hy⟩ : ∃ y, y = (if o < a - x then o else a - x) := ⟨_, rfl⟩
  rw [← hy]
  refine ⟨_, dget_o upd_same, _, rfl, _, dput_o upd_same _, ?_⟩
  have kp : KeepT K H (upd (upd H kn (.dK (kvK (g - x) o td))) kn (.dK (kvK (g - x) (o - y) td))) := (KeepT.dict hk _).trans (KeepT.dict upd_same _)
  have fr : ∀ b u, b ≠ kn → H b = some u → upd (upd H kn (.dK (kvK (g - x) o td))) kn (.dK (kvK (g - x) (o - y) td)) b = some u := fun b u hb e => by rw [upd_ne hb, upd_ne hb]; exact e
  have ek : upd (upd H kn (.dK (kvK (g - x) o td))) kn (.dK (kvK (g - x) (o - y) td)) kn = some (.dK (kvK (g - x) (o - y) td)) := upd_same
  generalize upd (upd H kn (.dK (kvK (g - x) o td))) kn (.dK (kvK (g - x) (o - y) td)) = H2 at kp fr ek
  have ed := fr _ _ ne.symm hd
  refine ⟨_, dget_t ek, td, rfl, .inl ⟨_, Rd.of ed⟩, fun z H3 _ s3 e3 => ⟨_, DGet.k (k := Sum.inl k) (s3 _ _ ed), ?_⟩⟩
  obtain ⟨pt, ept, hpt⟩ := ((hr0.keep kp).keep (KeepT.of_same s3)).got (k := k) e3
  rw [ept]
  refine ⟨pt, _, rfl, SqT.of hpt, rfl, ?_⟩
  simp only [tFld, sFld, sFldAug, tMeth, tMake, rAdd, rSub, tDNewS, tDIn, tDNotIn, sDPut, tDPop1, tDGet2, tDGet, tCallKX, kwG_one, tEither, tTupS, tLstS, comp_K, capσ, sub_nil, sub_none, sub_some, tYes, List.replicate, Option.join_some, Option.join_none, SL_inj, iStr, tPart, tNoPart, tSl, tLst, tTup, cx_K, slT, CDiv, Int.reduceLT, Int.reduceLE, Int.reduceToNat, Int.reduceNeg, Int.reduceAdd, Int.reduceSub, Int.reduceMul, forall_const, tSeq, tNext, tIfS, tRet, tRetN, tDrop, tAsg, gName, gCons, gNil, tVar, tC, tOp, rI, rI0, tUn, rU, tTest, tB, tAnd, tOr, tNot, tAndV, tOrV, tNotV, tIf, tCons, tNil, tCallX, tCallL, tCB, sRaise, rEq, rNe, scal_ii, scal_bb, scal_ss, scal_ni, scal_in, tChain, tAug, ipI, L2.start, List.map_cons, List.map_nil, List.length_cons, List.length_nil, List.cons_append, List.nil_append, List.append_nil, List.replicate_succ, List.replicate_zero, Nat.reduceAdd, Nat.reduceSub, List.getElem?_cons_zero, List.getElem?_cons_succ, List.set_cons_zero, List.set_cons_succ, Option.some.injEq, V.int.injEq, V.bl.injEq, V.ref.injEq, V.str.injEq, exists_eq_left', exists_eq_left, exists_eq', exists_and_left, List.cons.injEq, and_true, true_and, and_self, and_assoc, decide_eq_true_eq, if_true, if_false, Bool.true_eq_false, Bool.false_eq_true, Bool.not_eq_true', Bool.not_true, Bool.not_false, decide_eq_false_iff_not, ite_true, ite_false, reduceCtorEq, false_and, exists_false, false_or, or_false, and_false, Nat.reduceLeDiff]
  intro q1 H4 _ s4 e4
  have s34 := s3.trans s4
  have ek4 := s34 _ _ ek
  have ed4 := s34 _ _ ed
  have rows4 := (hr0.keep kp).keep (KeepT.of_same s34)
  refine ⟨_, dget_t ek4, td, rfl, _, DPut.k (k := Sum.inl k) ed4 (small1000 (by rw [hr0.len]; omega)), fun r5 H6 _ s6 e6 => ?_⟩
  have k5 : KeepT K H4 (upd H4 td (.dK (putK kvs (Sum.inl k) (.ref q1)))) := KeepT.dict ed4 _
  have rows5 := ((rows4.keep k5).put (k := k) (k5 _ _ e4)).keep (KeepT.of_same s6)
  exact q x y r5 H6 _ hx hy e6 (s6 _ _ (by rw [upd_ne ne]; exact ek4)) (s6 _ _ upd_same) rows5 (fun b u b1 b2 e => s6 _ _ (by rw [upd_ne b2]; exact s34 _ _ (fr _ _ b1 e))) (((kp.trans (KeepT.of_same s34)).trans k5).trans (KeepT.of_same s6))
def spLGive (K : PySem.W.Frag) : Sp := fun vs H Q _ => ∃ (kn td : Addr) (g o k a : Int) (kvs : List (Key × V)) (Tb : Tab), vs = [.ref kn, .int k, .int a] ∧ H kn = some (.dK (kvK g o td)) ∧ H td = some (.dK kvs) ∧ kn ≠ td ∧ Rows K H Tb kvs ∧ Tb.length ≤ 500 ∧
  ∀ y r H' kvs', y = (if (tGet Tb k).2 < a then (tGet Tb k).2 else a) → H' r = some (.tup [.int (a - y), .int y]) → H' kn = some (.dK (kvK (g + (a - y)) (o + y) td)) → H' td = some (.dK kvs') → Rows K H' (tPut Tb k ((tGet Tb k).1 - (a - y), (tGet Tb k).2 - y)) kvs' → (∀ b u, b ≠ kn → b ≠ td → H b = some u → H' b = some u) → KeepT K H H' → Q (.ref r) H'
theorem sc_xL_give : FnScope ["_law_known", "_law_k", "_law_amount_here", "_law_one", "_law_other", "_law_own"] ["_law_known", "_law_k", "_law_amount_here"] (defScope s_xL_give) := ⟨rfl, rfl, rfl, by decide +kernel, rfl, by decide +kernel, by decide +kernel⟩
theorem ok_xL_give (T : Txt K mg t) : FnOk P w K mg base (CXE P w) 1 t.a_xL_give t.d_xL_give ["_law_known", "_law_k", "_law_amount_here"] (spLGive K) := by
  refine T.fn_xL_give.okX sc_xL_give (fun vs H Q E h => ?_) (fun cdv A outer s H vs Q E L hr h => ?_)
  · obtain ⟨kn, td, g, o, k, a, kvs, Tb, rfl, hk, hd, ne, hr0, hl, q⟩ := h
    rfl
  obtain ⟨kn, td, g, o, k, a, kvs, Tb, rfl, hk, hd, ne, hr0, hl, q⟩ := h
  have nd := sc_xL_give.nd
  refine ⟨_, (pss_cons (ps_asg (pe_dget2 (hu_of hr) (pe_dget (hu_of hr) (pv 0) (pe_strL st_2) (fun _ _ => rfl)) (pv 1) (pe_tupS (pa_cons pe_int (pa_cons pe_int pa_nil star_Constant) star_Constant)) ⟨by rfl, by rfl, by rfl, by rfl⟩) (pg_tup (n := 2) rfl (pgs_cons (pg_name (i := 3) nd rfl (Or.inl rfl)) (pgs_cons (pg_name (i := 4) nd rfl (Or.inl rfl)) pgs_nil)))) (pss_cons (ps_set (i := 5) nd rfl (Or.inl rfl) (pe_callB (call_min2 (by rfl)) (by rfl) T.no_min bb_min (pa_cons (pv 2) (pa_cons (pv 4) pa_nil star_Name) star_Name))) (pss_cons (ps_dput (hu_of hr) (pe_dget (hu_of hr) (pv 0) (pe_strL st_2) (fun _ _ => rfl)) (pv 1) (pe_tupS (pa_cons (pe_op op_add (pe_op op_sub (pv 3) (pv 2)) (pv 5)) (pa_cons (pe_op op_sub (pv 4) (pv 5)) pa_nil star_BinOp) star_BinOp)) rfl) (pss_cons (ps_dput (hu_of hr) (pv 0) (pe_strL st_0) (pe_op op_sub (pe_op op_add (pe_dget (hu_of hr) (pv 0) (pe_strL st_0) (fun _ _ => rfl)) (pv 2)) (pv 5)) rfl) (pss_cons (ps_dput (hu_of hr) (pv 0) (pe_strL st_1) (pe_op op_add (pe_dget (hu_of hr) (pv 0) (pe_strL st_1) (fun _ _ => rfl)) (pv 5)) rfl) (pss_one (ps_ret (pe_tupS (pa_cons (pe_op op_sub (pv 2) (pv 5)) (pa_cons (pv 5) pa_nil star_Name) star_BinOp))))))))), ?_⟩
  simp only [tFld, sFld, sFldAug, tMeth, tMake, rAdd, rSub, tDNewS, tDIn, tDNotIn, sDPut, tDPop1, tDGet2, tDGet, tCallKX, kwG_one, tEither, tTupS, tLstS, comp_K, capσ, sub_nil, sub_none, sub_some, tYes, List.replicate, Option.join_some, Option.join_none, SL_inj, iStr, tPart, tNoPart, tSl, tLst, tTup, cx_K, slT, CDiv, Int.reduceLT, Int.reduceLE, Int.reduceToNat, Int.reduceNeg, Int.reduceAdd, Int.reduceSub, Int.reduceMul, forall_const, tSeq, tNext, tIfS, tRet, tRetN, tDrop, tAsg, gName, gCons, gNil, tVar, tC, tOp, rI, rI0, tUn, rU, tTest, tB, tAnd, tOr, tNot, tAndV, tOrV, tNotV, tIf, tCons, tNil, tCallX, tCallL, tCB, sRaise, rEq, rNe, scal_ii, scal_bb, scal_ss, scal_ni, scal_in, tChain, tAug, ipI, L2.start, List.map_cons, List.map_nil, List.length_cons, List.length_nil, List.cons_append, List.nil_append, List.append_nil, List.replicate_succ, List.replicate_zero, Nat.reduceAdd, Nat.reduceSub, List.getElem?_cons_zero, List.getElem?_cons_succ, List.set_cons_zero, List.set_cons_succ, Option.some.injEq, V.int.injEq, V.bl.injEq, V.ref.injEq, V.str.injEq, exists_eq_left', exists_eq_left, exists_eq', exists_and_left, List.cons.injEq, and_true, true_and, and_self, and_assoc, decide_eq_true_eq, if_true, if_false, Bool.true_eq_false, Bool.false_eq_true, Bool.not_eq_true', Bool.not_true, Bool.not_false, decide_eq_false_iff_not, ite_true, ite_false, reduceCtorEq, false_and, exists_false, false_or, or_false, and_false, Nat.reduceLeDiff]
  refine ⟨_, dget_t hk, td, rfl, .inl ⟨_, Rd.of hd⟩, fun z H3 _ s3 e3 => ⟨_, DGet.k (k := Sum.inl k) (s3 _ _ hd), ?_⟩⟩
  obtain ⟨pt, ept, hpt⟩ := (hr0.keep (KeepT.of_same s3)).got (k := k) e3
  rw [ept]
  refine ⟨pt, _, rfl, SqT.of hpt, rfl, ?_⟩
  simp only [tFld, sFld, sFldAug, tMeth, tMake, rAdd, rSub, tDNewS, tDIn, tDNotIn, sDPut, tDPop1, tDGet2, tDGet, tCallKX, kwG_one, tEither, tTupS, tLstS, comp_K, capσ, sub_nil, sub_none, sub_some, tYes, List.replicate, Option.join_some, Option.join_none, SL_inj, iStr, tPart, tNoPart, tSl, tLst, tTup, cx_K, slT, CDiv, Int.reduceLT, Int.reduceLE, Int.reduceToNat, Int.reduceNeg, Int.reduceAdd, Int.reduceSub, Int.reduceMul, forall_const, tSeq, tNext, tIfS, tRet, tRetN, tDrop, tAsg, gName, gCons, gNil, tVar, tC, tOp, rI, rI0, tUn, rU, tTest, tB, tAnd, tOr, tNot, tAndV, tOrV, tNotV, tIf, tCons, tNil, tCallX, tCallL, tCB, sRaise, rEq, rNe, scal_ii, scal_bb, scal_ss, scal_ni, scal_in, tChain, tAug, ipI, L2.start, List.map_cons, List.map_nil, List.length_cons, List.length_nil, List.cons_append, List.nil_append, List.append_nil, List.replicate_succ, List.replicate_zero, Nat.reduceAdd, Nat.reduceSub, List.getElem?_cons_zero, List.getElem?_cons_succ, List.set_cons_zero, List.set_cons_succ, Option.some.injEq, V.int.injEq, V.bl.injEq, V.ref.injEq, V.str.injEq, exists_eq_left', exists_eq_left, exists_eq', exists_and_left, List.cons.injEq, and_true, true_and, and_self, and_assoc, decide_eq_true_eq, if_true, if_false, Bool.true_eq_false, Bool.false_eq_true, Bool.not_eq_true', Bool.not_true, Bool.not_false, decide_eq_false_iff_not, ite_true, ite_false, reduceCtorEq, false_and, exists_false, false_or, or_false, and_false, Nat.reduceLeDiff]
  obtain ⟨y, hy⟩ : ∃ y, y = (if (tGet Tb k).2 < a then (tGet Tb k).2 else a) := ⟨_, rfl⟩
  rw [← hy]
  intro q1 H4 _ s4 e4
  have s34 := s3.trans s4
  have ek4 := s34 _ _ hk
  have ed4 := s34 _ _ hd
  have rows4 := hr0.keep (KeepT.of_same s34)
  have e4' : H4 q1 = some (.tup [.int ((tGet Tb k).1 - (a - y)), .int ((tGet Tb k).2 - y)]) := by rw [e4]; congr 4; omega
  refine ⟨_, dget_t ek4, td, rfl, _, DPut.k (k := Sum.inl k) ed4 (small1000 (by rw [hr0.len]; omega)), ?_⟩
  have k5 : KeepT K H4 (upd H4 td (.dK (putK kvs (Sum.inl k) (.ref q1)))) := KeepT.dict ed4 _
  have rows5 := (rows4.keep k5).put (k := k) (k5 _ _ e4')
  have ek5 : upd H4 td (.dK (putK kvs (Sum.inl k) (.ref q1))) kn = some (.dK (kvK g o td)) := by rw [upd_ne ne]; exact ek4
  have ed5 : upd H4 td (.dK (putK kvs (Sum.inl k) (.ref q1))) td = some (.dK (putK kvs (Sum.inl k) (.ref q1))) := upd_same
  have fr5 : ∀ b u, b ≠ td → H b = some u → upd H4 td (.dK (putK kvs (Sum.inl k) (.ref q1))) b = some u := fun b u hb e => by rw [upd_ne hb]; exact s34 _ _ e
  have kk5 := (KeepT.of_same (K := K) s34).trans k5
  generalize upd H4 td (.dK (putK kvs (Sum.inl k) (.ref q1))) = H5 at rows5 ek5 ed5 fr5 kk5
  refine ⟨_, dget_g ek5, _, rfl, _, dput_g ek5 _, _, dget_o upd_same, _, rfl, _, dput_o upd_same _, fun r6 H6 _ s6 e6 => ?_⟩
  have k6 : KeepT K H5 (upd (upd H5 kn (.dK (kvK (g + a - y) o td))) kn (.dK (kvK (g + a - y) (o + y) td))) := (KeepT.dict ek5 _).trans (KeepT.dict upd_same _)
  have rows6 := (rows5.keep k6).keep (KeepT.of_same s6)
  refine q y r6 H6 _ hy e6 (s6 _ _ (by rw [upd_same]; congr 3; omega)) (s6 _ _ (by rw [upd_ne ne.symm, upd_ne ne.symm]; exact ed5)) rows6 (fun b u b1 b2 e => s6 _ _ (by rw [upd_ne b1, upd_ne b1]; exact fr5 _ _ b2 e)) ((kk5.trans k6).trans (KeepT.of_same s6))
/-- the pots and the law's own book, alike -/
structure PW (K : PySem.W.Frag) (t : Adr) (H : Hp) (p dx d kn td : Addr) (g o : Int) (Tb : Tab) (n : Nat) : Prop where
  hp : H p = some (.ins t.c_Pots dx (fsP g o d))
  hk : H kn = some (.dK (kvK g o td))
  r1 : ∃ kvs, H d = some (.dK kvs) ∧ Rows K H Tb kvs
  r2 : ∃ kvs, H td = some (.dK kvs) ∧ Rows K H Tb kvs
  dk : d ≠ kn
  dt : d ≠ td
  kt : kn ≠ td
  len : Tb.length ≤ n
  g0 : 0 ≤ g
  o0 : 0 ≤ o
  ok : TabOk Tb
theorem PW.same {H H' : Hp} {p dx d kn td : Addr} {g o : Int} {Tb : Tab} {n : Nat} (h : PW K t H p dx d kn td g o Tb n) (s : Same H H') : PW K t H' p dx d kn td g o Tb n := by
  obtain ⟨kvs, e1, r1⟩ := h.r1
  obtain ⟨kvs2, e2, r2⟩ := h.r2
  exact ⟨s _ _ h.hp, s _ _ h.hk, ⟨kvs, s _ _ e1, r1.keep (KeepT.of_same s)⟩, ⟨kvs2, s _ _ e2, r2.keep (KeepT.of_same s)⟩, h.dk, h.dt, h.kt, h.len, h.g0, h.o0, h.ok⟩
def spDone (K : PySem.W.Frag) (t : Adr) : Sp := fun vs H Q _ => ∃ (p dx d kn td : Addr) (g o c : Int) (Tb : Tab) (n : Nat), vs = [.ref p, .ref kn, .int c] ∧ PW K t H p dx d kn td g o Tb n ∧ n ≤ 400 ∧
  ∀ g' o' Tb' H', PW K t H' p dx d kn td g' o' Tb' (n + 1) → (∀ b u, b ≠ p → b ≠ d → b ≠ kn → b ≠ td → H b = some u → H' b = some u) → Q (.bl true) H'
theorem sc_xL_done : FnScope ["_law_pots", "_law_known", "_law_cell", "_law_amount_here", "_law_k", "_law_took", "_law_own", "_law_back"] ["_law_pots", "_law_known", "_law_cell"] (defScope s_xL_done) := ⟨rfl, rfl, rfl, by decide +kernel, rfl, by decide +kernel, by decide +kernel⟩
theorem ok_xL_done (T : Txt K mg t) : FnOk P w K mg base (CXE P w) 3 t.a_xL_done t.d_xL_done ["_law_pots", "_law_known", "_law_cell"] (spDone K t) := by
  refine T.fn_xL_done.okX sc_xL_done (fun vs H Q E h => ?_) (fun cdv A outer s H vs Q E L hr h => ?_)
  · obtain ⟨p, dx, d, kn, td, g, o, c, Tb, n, rfl, W, hn, q⟩ := h
    rfl
  obtain ⟨p, dx, d, kn, td, g, o, c, Tb, n, rfl, W, hn, q⟩ := h
  have nd := sc_xL_done.nd
  refine ⟨_, (pss_cons (ps_set (i := 3) nd rfl (Or.inl rfl) (pe_callX L.toLv (ok_xL_amount T) (hr.mono (by decide)) (by rfl) T.mg_xL_amount T.fn_xL_amount.kp T.b_xL_amount .nil (pa_cons (pv 2) pa_nil))) (pss_cons (ps_set (i := 4) nd rfl (Or.inl rfl) (pe_op op_mod (pe_op op_fdiv (pv 2) pe_int) pe_int)) (pss_cons (ps_cut (ps_if (pw_and (pt_cmpR (op_neDE (Nat.lt_of_succ_lt (hu_of hr))) (pe_dget (hu_of hr) (pv 1) (pe_strL st_2) (fun _ _ => rfl)) pe_dnewS (nomark _)) (pw_and1 (pt_cmpR op_gt (pe_op op_mod (pv 2) pe_int) pe_int (nomark _)))).pt (pss_one (ps_set (i := 4) nd rfl (Or.inl rfl) (pe_ix ix_list (pe_callTy (call_list_dict (by rfl)) (by rfl) T.no_list bb_list (pa_cons (pe_dget (hu_of hr) (pv 1) (pe_strL st_2) (fun _ _ => rfl)) pa_nil)) (pe_op op_mod (pe_op op_fdiv (pv 2) pe_int) (pe_callB call_lenD' (by rfl) T.no_len bb_len (pa_cons (pe_dget (hu_of hr) (pv 1) (pe_strL st_2) (fun _ _ => rfl)) pa_nil))) (fun _ _ => rfl)))) pss_nil)) (pss_cons (ps_set (i := 5) nd rfl (Or.inl rfl) (pe_callB (call_sumT (by rfl)) (by rfl) T.no_sum bb_sum (pa_cons (pe_dget2 (hu_of hr) (pe_dget (hu_of hr) (pv 1) (pe_strL st_2) (fun _ _ => rfl)) (pv 4) (pe_tupS (pa_cons pe_int (pa_cons pe_int pa_nil star_Constant) star_Constant)) ⟨by rfl, by rfl, by rfl, by rfl⟩) pa_nil))) (pss_cons (ps_if (pt_cmpR op_eq (pe_op op_mod (pv 2) pe_int) pe_int (nomark _)) (pss_cons (ps_dput (hu_of hr) (pv 1) (pe_strL st_0) (pe_op op_add (pe_dget (hu_of hr) (pv 1) (pe_strL st_0) (fun _ _ => rfl)) (pv 3)) rfl) (pss_one (ps_ret (pe_cmpR op_isN (pe_meth (pv 0) T.cs_Pots T.me_Pots_grant (ok_Pots_grant T) (hr.mono (by decide)) T.b_Pots_grant .nil passF (pa_cons (pv 3) pa_nil)) pe_non (nomark _))))) pss_nil) (pss_cons (ps_if (pt_cmpR op_lt (pe_op op_mod (pv 2) pe_int) pe_int (nomark _)) (pss_one (ps_ret (pe_callX L.toLv (ok_xL_are T) (hr.mono (by decide)) (by rfl) T.mg_xL_are T.fn_xL_are.kp T.b_xL_are .nil (pa_cons (pe_meth (pv 0) T.cs_Pots T.me_Pots_take (ok_Pots_take T) (hr.mono (by decide)) T.b_Pots_take .nil passF (pa_cons (pv 4) (pa_cons (pv 3) pa_nil star_Name) star_Name)) (pa_cons (pe_callX L.toLv (ok_xL_take T) (hr.mono (by decide)) (by rfl) T.mg_xL_take T.fn_xL_take.kp T.b_xL_take .nil (pa_cons (pv 1) (pa_cons (pv 4) (pa_cons (pv 3) pa_nil star_Name) star_Name) star_Name)) pa_nil star_Call) star_Call)))) pss_nil) (pss_cons (ps_if (pt_cmpR op_eq (pe_op op_mod (pv 2) pe_int) pe_int (nomark _)) (pss_cons (ps_set (i := 3) nd rfl (Or.inl rfl) (pe_ix ix_list (pe_lstS (pa_cons (pv 5) (pa_cons (pe_op op_mod (pv 3) (pe_op op_add (pv 5) pe_int)) pa_nil star_BinOp) star_Name)) (pe_op op_mod (pe_op op_fdiv (pv 2) pe_int) pe_int) (fun _ _ => rfl))) (pss_one (ps_ret (pe_callX L.toLv (ok_xL_are T) (hr.mono (by decide)) (by rfl) T.mg_xL_are T.fn_xL_are.kp T.b_xL_are .nil (pa_cons (pe_meth (pv 0) T.cs_Pots T.me_Pots_give (ok_Pots_give T) (hr.mono (by decide)) T.b_Pots_give .nil passF (pa_cons (pv 4) (pa_cons (pv 3) pa_nil star_Name) star_Name)) (pa_cons (pe_callX L.toLv (ok_xL_give T) (hr.mono (by decide)) (by rfl) T.mg_xL_give T.fn_xL_give.kp T.b_xL_give .nil (pa_cons (pv 1) (pa_cons (pv 4) (pa_cons (pv 3) pa_nil star_Name) star_Name) star_Name)) pa_nil star_Call) star_Call))))) pss_nil) (pss_cons (ps_set (i := 6) nd rfl (Or.inl rfl) (pe_dget (hu_of hr) (pv 1) (pe_strL st_1) (fun _ _ => rfl))) (pss_cons (ps_dput (hu_of hr) (pv 1) (pe_strL st_1) pe_int rfl) (pss_cons (ps_set (i := 7) nd rfl (Or.inl rfl) (pe_meth0 (pv 0) T.cs_Pots T.me_Pots_pay_back (ok_Pots_pay_back T) (hr.mono (by decide)) T.b_Pots_pay_back .nil passF )) (pss_one (ps_ret (pe_and (pe_callX L.toLv (ok_xL_whole T) (hr.mono (by decide)) (by rfl) T.mg_xL_whole T.fn_xL_whole.kp T.b_xL_whole .nil (pa_cons (pv 7) pa_nil)) (pe_one (pe_cmpR op_eq (pv 7) (pv 6) (nomark _)))))))))))))))), ?_⟩
  simp only [tFld, sFld, sFldAug, tMeth, tMake, rAdd, rSub, tDNewS, tDIn, tDNotIn, sDPut, tDPop1, tDGet2, tDGet, tCallKX, kwG_one, tEither, tTupS, tLstS, comp_K, capσ, sub_nil, sub_none, sub_some, tYes, List.replicate, Option.join_some, Option.join_none, SL_inj, iStr, tPart, tNoPart, tSl, tLst, tTup, cx_K, slT, CDiv, Int.reduceLT, Int.reduceLE, Int.reduceToNat, Int.reduceNeg, Int.reduceAdd, Int.reduceSub, Int.reduceMul, forall_const, tSeq, tNext, tIfS, tRet, tRetN, tDrop, tAsg, gName, gCons, gNil, tVar, tC, tOp, rI, rI0, tUn, rU, tTest, tB, tAnd, tOr, tNot, tAndV, tOrV, tNotV, tIf, tCons, tNil, tCallX, tCallL, tCB, sRaise, rEq, rNe, scal_ii, scal_bb, scal_ss, scal_ni, scal_in, tChain, tAug, ipI, L2.start, List.map_cons, List.map_nil, List.length_cons, List.length_nil, List.cons_append, List.nil_append, List.append_nil, List.replicate_succ, List.replicate_zero, Nat.reduceAdd, Nat.reduceSub, List.getElem?_cons_zero, List.getElem?_cons_succ, List.set_cons_zero, List.set_cons_succ, Option.some.injEq, V.int.injEq, V.bl.injEq, V.ref.injEq, V.str.injEq, exists_eq_left', exists_eq_left, exists_eq', exists_and_left, List.cons.injEq, and_true, true_and, and_self, and_assoc, decide_eq_true_eq, if_true, if_false, Bool.true_eq_false, Bool.false_eq_true, Bool.not_eq_true', Bool.not_true, Bool.not_false, decide_eq_false_iff_not, ite_true, ite_false, reduceCtorEq, false_and, exists_false, false_or, or_false, and_false, Nat.reduceLeDiff]
  refine ⟨c, rfl, fun a0 H1 s1 ha0 => ?_⟩
  have W1 := W.same s1
  obtain ⟨kvs2, e2, r2⟩ := W1.r2
  obtain ⟨R, hR⟩ : ∃ R : St → Hp → Prop, R = fun σ' H' => Same H1 H' ∧ ∃ k : Int, σ' = [some (.ref p), some (.ref kn), some (.int c), some (.int a0), some (.int k), none, none, none] := ⟨_, rfl⟩
  refine ⟨R, ?_, fun σ2 H2 h2 => ?_⟩
  · simp only [tFld, sFld, sFldAug, tMeth, tMake, rAdd, rSub, tDNewS, tDIn, tDNotIn, sDPut, tDPop1, tDGet2, tDGet, tCallKX, kwG_one, tEither, tTupS, tLstS, comp_K, capσ, sub_nil, sub_none, sub_some, tYes, List.replicate, Option.join_some, Option.join_none, SL_inj, iStr, tPart, tNoPart, tSl, tLst, tTup, cx_K, slT, CDiv, Int.reduceLT, Int.reduceLE, Int.reduceToNat, Int.reduceNeg, Int.reduceAdd, Int.reduceSub, Int.reduceMul, forall_const, tSeq, tNext, tIfS, tRet, tRetN, tDrop, tAsg, gName, gCons, gNil, tVar, tC, tOp, rI, rI0, tUn, rU, tTest, tB, tAnd, tOr, tNot, tAndV, tOrV, tNotV, tIf, tCons, tNil, tCallX, tCallL, tCB, sRaise, rEq, rNe, scal_ii, scal_bb, scal_ss, scal_ni, scal_in, tChain, tAug, ipI, L2.start, List.map_cons, List.map_nil, List.length_cons, List.length_nil, List.cons_append, List.nil_append, List.append_nil, List.replicate_succ, List.replicate_zero, Nat.reduceAdd, Nat.reduceSub, List.getElem?_cons_zero, List.getElem?_cons_succ, List.set_cons_zero, List.set_cons_succ, Option.some.injEq, V.int.injEq, V.bl.injEq, V.ref.injEq, V.str.injEq, exists_eq_left', exists_eq_left, exists_eq', exists_and_left, List.cons.injEq, and_true, true_and, and_self, and_assoc, decide_eq_true_eq, if_true, if_false, Bool.true_eq_false, Bool.false_eq_true, Bool.not_eq_true', Bool.not_true, Bool.not_false, decide_eq_false_iff_not, ite_true, ite_false, reduceCtorEq, false_and, exists_false, false_or, or_false, and_false, Nat.reduceLeDiff]
    refine ⟨_, dget_t W1.hk, fun p3 H3 _ s3 e3 => ?_⟩
    have hk3 := s3 _ _ W1.hk
    have e23 := s3 _ _ e2
    refine ⟨td, p3, _, rfl, rfl, e23, e3, _, rfl, ?_⟩
    refine ite_of (fun h => ite_of (fun _ => ?_) (fun _ => by rw [hR]; exact ⟨s3, _, rfl⟩)) (fun _ => by rw [hR]; exact ⟨s3, _, rfl⟩)
    refine ⟨_, dget_t hk3, td, rfl, _, e23, fun l4 H4 _ s4 e4 => ?_⟩
    rw [r2.keys] at e4
    have kl := r2.len
    have k0 : 0 < kvs2.length := by
      cases kvs2 with
      | nil => cases h
      | cons x r => exact Nat.succ_pos _
    refine ⟨_, dget_t (s4 _ _ hk3), td, rfl, _, s4 _ _ e23, by omega, ?_⟩
    have i0 : 0 ≤ c / 11 % (kvs2.length : Int) ∧ c / 11 % (kvs2.length : Int) < kvs2.length := ⟨Int.emod_nonneg _ (by omega), Int.emod_lt_of_pos _ (by omega)⟩
    refine ixL (SqL.of e4) (at_ints i0.1 (by rw [List.length_map]; omega)) ?_
    rw [hR]
    exact ⟨s3.trans s4, _, rfl⟩
  rw [hR] at h2
  obtain ⟨s2, k, rfl⟩ := h2
  clear hR
  have W2 := W1.same s2
  have fr2 : ∀ b u, H b = some u → H2 b = some u := fun b u e => s2 _ _ (s1 _ _ e)
  obtain ⟨kvs, ed, rd⟩ := W2.r1
  obtain ⟨kvs', et, rt⟩ := W2.r2
  have nn := W2.ok.get (k := k)
  have ln := W2.len
  simp only [tFld, sFld, sFldAug, tMeth, tMake, rAdd, rSub, tDNewS, tDIn, tDNotIn, sDPut, tDPop1, tDGet2, tDGet, tCallKX, kwG_one, tEither, tTupS, tLstS, comp_K, capσ, sub_nil, sub_none, sub_some, tYes, List.replicate, Option.join_some, Option.join_none, SL_inj, iStr, tPart, tNoPart, tSl, tLst, tTup, cx_K, slT, CDiv, Int.reduceLT, Int.reduceLE, Int.reduceToNat, Int.reduceNeg, Int.reduceAdd, Int.reduceSub, Int.reduceMul, forall_const, tSeq, tNext, tIfS, tRet, tRetN, tDrop, tAsg, gName, gCons, gNil, tVar, tC, tOp, rI, rI0, tUn, rU, tTest, tB, tAnd, tOr, tNot, tAndV, tOrV, tNotV, tIf, tCons, tNil, tCallX, tCallL, tCB, sRaise, rEq, rNe, scal_ii, scal_bb, scal_ss, scal_ni, scal_in, tChain, tAug, ipI, L2.start, List.map_cons, List.map_nil, List.length_cons, List.length_nil, List.cons_append, List.nil_append, List.append_nil, List.replicate_succ, List.replicate_zero, Nat.reduceAdd, Nat.reduceSub, List.getElem?_cons_zero, List.getElem?_cons_succ, List.set_cons_zero, List.set_cons_succ, Option.some.injEq, V.int.injEq, V.bl.injEq, V.ref.injEq, V.str.injEq, exists_eq_left', exists_eq_left, exists_eq', exists_and_left, List.cons.injEq, and_true, true_and, and_self, and_assoc, decide_eq_true_eq, if_true, if_false, Bool.true_eq_false, Bool.false_eq_true, Bool.not_eq_true', Bool.not_true, Bool.not_false, decide_eq_false_iff_not, ite_true, ite_false, reduceCtorEq, false_and, exists_false, false_or, or_false, and_false, Nat.reduceLeDiff]
  refine ⟨_, dget_t W2.hk, td, rfl, .inl ⟨_, Rd.of et⟩, fun z H3 _ s3 e3 => ⟨_, DGet.k (k := Sum.inl k) (s3 _ _ et), ?_⟩⟩
  obtain ⟨pt, ept, hpt⟩ := (rt.keep (KeepT.of_same s3)).got (k := k) e3
  rw [ept]
  have hpt' : SqT K H3 pt ([(tGet Tb k).1, (tGet Tb k).2].map V.int) := SqT.of hpt
  refine ⟨pt, rfl, _, hpt', ?_⟩
  have W3 := W2.same s3
  have pk : p ≠ kn := fun z => by have := W3.hp; rw [z, W3.hk] at this; cases this
  have pt' : p ≠ td := fun z => by have := W3.hp; rw [z, s3 _ _ et] at this; cases this
  have pd : p ≠ d := fun z => by have := W3.hp; rw [z, s3 _ _ ed] at this; cases this
  have ed3 := s3 _ _ ed
  have et3 := s3 _ _ et
  have rd3 := rd.keep (KeepT.of_same s3)
  have rt3 := rt.keep (KeepT.of_same s3)
  have fr3 : ∀ b u, H b = some u → H3 b = some u := fun b u e => s3 _ _ (fr2 _ _ e)
  refine ite_of (fun _ => ?_) (fun _ => ite_of (fun _ => ?_) (fun _ => ite_of (fun _ => ?_) (fun _ => ?_)))
  · refine ⟨_, dget_g W3.hk, _, rfl, _, dput_g W3.hk _, ?_⟩
    have hp4 : upd H3 kn (.dK (kvK (g + a0) o td)) p = some (.ins t.c_Pots dx (fsP g o d)) := by rw [upd_ne pk]; exact W3.hp
    have kk : KeepT K H3 (upd (upd H3 kn (.dK (kvK (g + a0) o td))) p (.ins t.c_Pots dx (fsP (g + a0) o d))) := (KeepT.dict W3.hk _).trans (KeepT.ins hp4 _)
    refine ⟨_, _, hp4, get_n _ _ _ (by decide) (by decide) (by decide), p, dx, d, a0, g, o, rfl, hp4, ?_⟩
    show Q (V.bl (decide (V.non = V.non))) _
    rw [decide_eq_true rfl]
    refine q (g + a0) o Tb _ ⟨upd_same, by rw [upd_ne pk.symm, upd_same], ⟨kvs, by rw [upd_ne pd.symm, upd_ne W3.dk]; exact ed3, rd3.keep kk⟩, ⟨kvs', by rw [upd_ne pt'.symm, upd_ne W3.kt.symm]; exact et3, rt3.keep kk⟩, W3.dk, W3.dt, W3.kt, by omega, by have := W3.g0; omega, W3.o0, W3.ok⟩ (fun b u b1 b2 b3 b4 e => by rw [upd_ne b1, upd_ne b3]; exact fr3 _ _ e)
  · refine ⟨_, _, W3.hp, get_n _ _ _ (by decide) (by decide) (by decide), p, dx, d, g, o, k, a0, kvs, Tb, rfl, W3.hp, ed3, rd3, by omega, fun x y r H4 kv4 hx hy er ep4 ed4 rows4 fr4 k4 => ?_⟩
    refine ⟨kn, td, g, o, k, a0, kvs', Tb, rfl, fr4 _ _ pk.symm W3.dk.symm W3.hk, fr4 _ _ pt'.symm W3.dt.symm et3, W3.kt, rt3.keep k4, by omega, fun x' y' r' H5 kv5 hx' hy' er' ek5 et5 rows5 fr5 k5 => ?_⟩
    obtain rfl : x' = x := by rw [hx', hx]
    obtain rfl : y' = y := by rw [hy', hy]
    have g0 := W3.g0
    have o0 := W3.o0
    have x0 : 0 ≤ x' ∧ x' ≤ g ∧ x' ≤ a0 := by rw [hx]; split <;> omega
    have y0 : y' ≤ o := by rw [hy]; split <;> omega
    have len5 := tPut_len Tb k ((tGet Tb k).1 + x', (tGet Tb k).2 + a0 - x')
    have W5 : PW K t H5 p dx d kn td (g - x') (o - y') (tPut Tb k ((tGet Tb k).1 + x', (tGet Tb k).2 + a0 - x')) (n + 1) := ⟨fr5 _ _ pk pt' ep4, ek5, ⟨kv4, fr5 _ _ W3.dk W3.dt ed4, rows4.keep k5⟩, ⟨kv5, et5, rows5⟩, W3.dk, W3.dt, W3.kt, by omega, by omega, by omega, W3.ok.put (by show 0 ≤ (tGet Tb k).1 + x'; omega) (by show 0 ≤ (tGet Tb k).2 + a0 - x'; omega)⟩
    exact ⟨r, r', [x', y', a0 - x' - y'], rfl, k5 _ _ er, er', by simp, fun H6 s6 => q _ _ _ H6 (W5.same s6) fun b u b1 b2 b3 b4 e => s6 _ _ (fr5 _ _ b3 b4 (fr4 _ _ b1 b2 (fr3 _ _ e)))⟩
  · have hs : [(tGet Tb k).1, (tGet Tb k).2].sum = (tGet Tb k).1 + (tGet Tb k).2 := by simp
    rw [hs]
    obtain ⟨sm, hsm⟩ : ∃ sm, sm = (tGet Tb k).1 + (tGet Tb k).2 := ⟨_, rfl⟩
    rw [← hsm]
    refine ⟨by omega, fun p4 H4' _ s4' e4' => ?_⟩
    have e4'' : H4' p4 = some (.lst (([sm, a0 % (sm + 1)] : List Int).map V.int)) := e4'
    have i2 : 0 ≤ c / 7 % 2 ∧ c / 7 % 2 < 2 := by omega
    have m1 := Int.emod_nonneg a0 (show sm + 1 ≠ 0 by omega)
    have m2 := Int.emod_lt_of_pos a0 (show 0 < sm + 1 by omega)
    have ba := getD_in (xs := [sm, a0 % (sm + 1)]) (lo := 0) (hi := sm) (fun y hy => by
      simp only [List.mem_cons, List.not_mem_nil, or_false] at hy
      rcases hy with rfl | rfl <;> omega) i2.1 i2.2
    refine ixL (SqL.of e4'') (at_ints i2.1 i2.2) ?_
    clear e4' e4''
    generalize ([sm, a0 % (sm + 1)] : List Int).getD (c / 7 % 2).toNat 0 = a1 at ba ⊢
    have W4 := W3.same s4'
    have kp4 : KeepT K H3 H4' := KeepT.of_same s4'
    refine ⟨_, _, W4.hp, get_n _ _ _ (by decide) (by decide) (by decide), p, dx, d, g, o, k, a1, kvs, Tb, rfl, W4.hp, s4' _ _ ed3, rd3.keep kp4, by omega, fun y r H4 kv4 hy er ep4 ed4 rows4 fr4 k4 => ?_⟩
    refine ⟨kn, td, g, o, k, a1, kvs', Tb, rfl, fr4 _ _ pk.symm W3.dk.symm W4.hk, fr4 _ _ pt'.symm W3.dt.symm (s4' _ _ et3), W3.kt, (rt3.keep kp4).keep k4, by omega, fun y' r' H5 kv5 hy' er' ek5 et5 rows5 fr5 k5 => ?_⟩
    obtain rfl : y' = y := by rw [hy', hy]
    have g0 := W3.g0
    have o0 := W3.o0
    have y0 : 0 ≤ y' ∧ y' ≤ a1 ∧ y' ≤ (tGet Tb k).2 ∧ a1 - y' ≤ (tGet Tb k).1 := by rw [hy]; split <;> omega
    have len5 := tPut_len Tb k ((tGet Tb k).1 - (a1 - y'), (tGet Tb k).2 - y')
    have W5 : PW K t H5 p dx d kn td (g + (a1 - y')) (o + y') (tPut Tb k ((tGet Tb k).1 - (a1 - y'), (tGet Tb k).2 - y')) (n + 1) := ⟨fr5 _ _ pk pt' ep4, ek5, ⟨kv4, fr5 _ _ W3.dk W3.dt ed4, rows4.keep k5⟩, ⟨kv5, et5, rows5⟩, W3.dk, W3.dt, W3.kt, by omega, by omega, by omega, W3.ok.put (by show 0 ≤ (tGet Tb k).1 - (a1 - y'); omega) (by show 0 ≤ (tGet Tb k).2 - y'; omega)⟩
    exact ⟨r, r', [a1 - y', y'], rfl, k5 _ _ er, er', by simp, fun H6 s6 => q _ _ _ H6 (W5.same s6) fun b u b1 b2 b3 b4 e => s6 _ _ (fr5 _ _ b3 b4 (fr4 _ _ b1 b2 (s4' _ _ (fr3 _ _ e))))⟩
  · refine ⟨_, dget_o W3.hk, _, dput_o W3.hk _, ?_⟩
    have hp4 : upd H3 kn (.dK (kvK g 0 td)) p = some (.ins t.c_Pots dx (fsP g o d)) := by rw [upd_ne pk]; exact W3.hp
    have kk : KeepT K H3 (upd (upd H3 kn (.dK (kvK g 0 td))) p (.ins t.c_Pots dx (fsP g 0 d))) := (KeepT.dict W3.hk _).trans (KeepT.ins hp4 _)
    refine ⟨_, _, hp4, get_n _ _ _ (by decide) (by decide) (by decide), p, dx, d, g, o, rfl, hp4, o, rfl, _, rfl, ite_t rfl ⟨by rfl, ?_⟩⟩
    rw [decide_eq_true rfl]
    exact q g 0 Tb _ ⟨upd_same, by rw [upd_ne pk.symm, upd_same], ⟨kvs, by rw [upd_ne pd.symm, upd_ne W3.dk]; exact ed3, rd3.keep kk⟩, ⟨kvs', by rw [upd_ne pt'.symm, upd_ne W3.kt.symm]; exact et3, rt3.keep kk⟩, W3.dk, W3.dt, W3.kt, by omega, W3.g0, Int.le_refl _, W3.ok⟩ (fun b u b1 b2 b3 b4 e => by rw [upd_ne b1, upd_ne b3]; exact fr3 _ _ e)
def spLooked (K : PySem.W.Frag) (t : Adr) : Sp := fun vs H Q _ => ∃ (p dx d kn td : Addr) (g o c : Int) (Tb : Tab) (n : Nat), vs = [.ref p, .ref kn, .int c] ∧ PW K t H p dx d kn td g o Tb n ∧ n ≤ 400 ∧ ∀ H', Same H H' → Q (.bl true) H'
theorem sc_xL_looked : FnScope ["_law_pots", "_law_known", "_law_cell", "_law_k"] ["_law_pots", "_law_known", "_law_cell"] (defScope s_xL_looked) := ⟨rfl, rfl, rfl, by decide +kernel, rfl, by decide +kernel, by decide +kernel⟩
theorem ok_xL_looked (T : Txt K mg t) : FnOk P w K mg base (CXE P w) 3 t.a_xL_looked t.d_xL_looked ["_law_pots", "_law_known", "_law_cell"] (spLooked K t) := by
  refine T.fn_xL_looked.okX sc_xL_looked (fun vs H Q E h => ?_) (fun cdv A outer s H vs Q E L hr h => ?_)
  · obtain ⟨p, dx, d, kn, td, g, o, c, Tb, n, rfl, W, hn, q⟩ := h
    rfl
  obtain ⟨p, dx, d, kn, td, g, o, c, Tb, n, rfl, W, hn, q⟩ := h
  have nd := sc_xL_looked.nd
  refine ⟨_, (pss_cons (ps_if (pt_not (pt_val (pe_callX L.toLv (ok_xL_are T) (hr.mono (by decide)) (by rfl) T.mg_xL_are T.fn_xL_are.kp T.b_xL_are .nil (pa_cons (pe_meth0 (pv 0) T.cs_Pots T.me_Pots_left (ok_Pots_left T) (hr.mono (by decide)) T.b_Pots_left .nil passF ) (pa_cons (pe_tupS (pa_cons (pe_dget (hu_of hr) (pv 1) (pe_strL st_1) (fun _ _ => rfl)) (pa_cons (pe_dget (hu_of hr) (pv 1) (pe_strL st_0) (fun _ _ => rfl)) pa_nil star_Subscript) star_Subscript)) pa_nil star_Tuple) star_Call)))) (pss_one (ps_ret pe_bl)) pss_nil) (pss_cons (ps_for (by passes_own) rfl (pi_list (pe_op op_catS (pe_slice sl_listS (pe_callTy (call_list_dict (by rfl)) (by rfl) T.no_list bb_list (pa_cons (pe_dget (hu_of hr) (pv 1) (pe_strL st_2) (fun _ _ => rfl)) pa_nil)) (po_some (pe_un un_neg pe_int)) po_none) (pe_lstS (pa_cons (pe_op op_mod (pe_op op_fdiv (pv 2) pe_int) pe_int) pa_nil)))) (pg_name (i := 3) nd rfl (Or.inl rfl)) (pss_one (ps_if (pt_not (pt_val (pe_callX L.toLv (ok_xL_are T) (hr.mono (by decide)) (by rfl) T.mg_xL_are T.fn_xL_are.kp T.b_xL_are .nil (pa_cons (pe_meth (pv 0) T.cs_Pots T.me_Pots_took (ok_Pots_took T) (hr.mono (by decide)) T.b_Pots_took .nil passF (pa_cons (pv 3) pa_nil)) (pa_cons (pe_dget2 (hu_of hr) (pe_dget (hu_of hr) (pv 1) (pe_strL st_2) (fun _ _ => rfl)) (pv 3) (pe_tupS (pa_cons pe_int (pa_cons pe_int pa_nil star_Constant) star_Constant)) ⟨by rfl, by rfl, by rfl, by rfl⟩) pa_nil star_Call) star_Call)))) (pss_one (ps_ret pe_bl)) pss_nil))) (pss_one (ps_ret pe_bl)))), ?_⟩
  obtain ⟨kvs, ed, rd⟩ := W.r1
  obtain ⟨kvs', et, rt⟩ := W.r2
  simp only [tFld, sFld, sFldAug, tMeth, tMake, rAdd, rSub, tDNewS, tDIn, tDNotIn, sDPut, tDPop1, tDGet2, tDGet, tCallKX, kwG_one, tEither, tTupS, tLstS, comp_K, capσ, sub_nil, sub_none, sub_some, tYes, List.replicate, Option.join_some, Option.join_none, SL_inj, iStr, tPart, tNoPart, tSl, tLst, tTup, cx_K, slT, CDiv, Int.reduceLT, Int.reduceLE, Int.reduceToNat, Int.reduceNeg, Int.reduceAdd, Int.reduceSub, Int.reduceMul, forall_const, tSeq, tNext, tIfS, tRet, tRetN, tDrop, tAsg, gName, gCons, gNil, tVar, tC, tOp, rI, rI0, tUn, rU, tTest, tB, tAnd, tOr, tNot, tAndV, tOrV, tNotV, tIf, tCons, tNil, tCallX, tCallL, tCB, sRaise, rEq, rNe, scal_ii, scal_bb, scal_ss, scal_ni, scal_in, tChain, tAug, ipI, L2.start, List.map_cons, List.map_nil, List.length_cons, List.length_nil, List.cons_append, List.nil_append, List.append_nil, List.replicate_succ, List.replicate_zero, Nat.reduceAdd, Nat.reduceSub, List.getElem?_cons_zero, List.getElem?_cons_succ, List.set_cons_zero, List.set_cons_succ, Option.some.injEq, V.int.injEq, V.bl.injEq, V.ref.injEq, V.str.injEq, exists_eq_left', exists_eq_left, exists_eq', exists_and_left, List.cons.injEq, and_true, true_and, and_self, and_assoc, decide_eq_true_eq, if_true, if_false, Bool.true_eq_false, Bool.false_eq_true, Bool.not_eq_true', Bool.not_true, Bool.not_false, decide_eq_false_iff_not, ite_true, ite_false, reduceCtorEq, false_and, exists_false, false_or, or_false, and_false, Nat.reduceLeDiff]
  refine ⟨_, _, W.hp, get_n _ _ _ (by decide) (by decide) (by decide), p, dx, d, g, o, rfl, W.hp, fun r H1 s1 e1 => ?_⟩
  refine ⟨_, dget_o (s1 _ _ W.hk), _, dget_g (s1 _ _ W.hk), fun r2 H2 _ s2 e2 => ?_⟩
  refine ⟨r, r2, [o, g], rfl, s2 _ _ e1, e2, by simp, fun H3 s3 => ⟨_, rfl, ite_f (by decide) ?_⟩⟩
  have s03 := (s1.trans s2).trans s3
  ((try dsimp only); refine for_by fun R hR => ?_; simp only [tFld, sFld, sFldAug, tMeth, tMake, rAdd, rSub, tDNewS, tDIn, tDNotIn, sDPut, tDPop1, tDGet2, tDGet, tCallKX, kwG_one, tEither, tTupS, tLstS, comp_K, capσ, sub_nil, sub_none, sub_some, tYes, List.replicate, Option.join_some, Option.join_none, SL_inj, iStr, tPart, tNoPart, tSl, tLst, tTup, cx_K, slT, CDiv, Int.reduceLT, Int.reduceLE, Int.reduceToNat, Int.reduceNeg, Int.reduceAdd, Int.reduceSub, Int.reduceMul, forall_const, tSeq, tNext, tIfS, tRet, tRetN, tDrop, tAsg, gName, gCons, gNil, tVar, tC, tOp, rI, rI0, tUn, rU, tTest, tB, tAnd, tOr, tNot, tAndV, tOrV, tNotV, tIf, tCons, tNil, tCallX, tCallL, tCB, sRaise, rEq, rNe, scal_ii, scal_bb, scal_ss, scal_ni, scal_in, tChain, tAug, ipI, L2.start, List.map_cons, List.map_nil, List.length_cons, List.length_nil, List.cons_append, List.nil_append, List.append_nil, List.replicate_succ, List.replicate_zero, Nat.reduceAdd, Nat.reduceSub, List.getElem?_cons_zero, List.getElem?_cons_succ, List.set_cons_zero, List.set_cons_succ, Option.some.injEq, V.int.injEq, V.bl.injEq, V.ref.injEq, V.str.injEq, exists_eq_left', exists_eq_left, exists_eq', exists_and_left, List.cons.injEq, and_true, true_and, and_self, and_assoc, decide_eq_true_eq, if_true, if_false, Bool.true_eq_false, Bool.false_eq_true, Bool.not_eq_true', Bool.not_true, Bool.not_false, decide_eq_false_iff_not, ite_true, ite_false, reduceCtorEq, false_and, exists_false, false_or, or_false, and_false, iList, iTup, iZip, iRng1, iRng2, Nat.reduceLeDiff])
  refine ⟨_, dget_t (s03 _ _ W.hk), td, rfl, _, s03 _ _ et, fun l4 H4 _ s4 e4 => ?_⟩
  rw [rt.keys] at e4
  refine ⟨l4, _, rfl, SqL.of e4, fun l5 H5 _ s5 e5 l6 H6 _ s6 e6 => ?_⟩
  obtain ⟨ms, em, ml⟩ := cut_ints (Tb.map (·.1)) (some (-3)) none
  rw [em] at e5
  rw [List.length_map] at ml
  have hl := W.len
  refine ⟨l5, l6, _, _, rfl, rfl, s6 _ _ e5, e6, le_line (by rw [List.length_map, List.length_singleton]; omega), fun l7 H7 _ s7 e7 => ⟨l7, rfl, ⟨_, SqL.of e7⟩, hR _ _ ?_⟩⟩
  clear hR
  have s07 := (((s03.trans s4).trans s5).trans s6).trans s7
  refine for_list (xs := ms.map V.int ++ [V.int (c / 13 % 60)]) (fun _ σ1 H8 => Same H7 H8 ∧ ∃ x3, σ1 = [some (.ref p), some (.ref kn), some (.int c), x3]) ⟨Same.refl _, _, rfl⟩ (fun _ _ _ _ h => SqL.of (h.1 _ _ e7)) (fun i x σ1 H8 hx h => ?_) (fun σ1 H8 h => ?_)
  · obtain ⟨s8, x3, rfl⟩ := h
    obtain ⟨k, rfl⟩ : ∃ k, x = .int k := by
      rcases List.mem_append.mp (List.mem_of_getElem? hx) with z | z
      · obtain ⟨k, _, e⟩ := List.mem_map.mp z
        exact ⟨k, e.symm⟩
      · exact ⟨_, List.mem_singleton.mp z⟩
    have s08 := s07.trans s8
    simp only [tFld, sFld, sFldAug, tMeth, tMake, rAdd, rSub, tDNewS, tDIn, tDNotIn, sDPut, tDPop1, tDGet2, tDGet, tCallKX, kwG_one, tEither, tTupS, tLstS, comp_K, capσ, sub_nil, sub_none, sub_some, tYes, List.replicate, Option.join_some, Option.join_none, SL_inj, iStr, tPart, tNoPart, tSl, tLst, tTup, cx_K, slT, CDiv, Int.reduceLT, Int.reduceLE, Int.reduceToNat, Int.reduceNeg, Int.reduceAdd, Int.reduceSub, Int.reduceMul, forall_const, tSeq, tNext, tIfS, tRet, tRetN, tDrop, tAsg, gName, gCons, gNil, tVar, tC, tOp, rI, rI0, tUn, rU, tTest, tB, tAnd, tOr, tNot, tAndV, tOrV, tNotV, tIf, tCons, tNil, tCallX, tCallL, tCB, sRaise, rEq, rNe, scal_ii, scal_bb, scal_ss, scal_ni, scal_in, tChain, tAug, ipI, L2.start, List.map_cons, List.map_nil, List.length_cons, List.length_nil, List.cons_append, List.nil_append, List.append_nil, List.replicate_succ, List.replicate_zero, Nat.reduceAdd, Nat.reduceSub, List.getElem?_cons_zero, List.getElem?_cons_succ, List.set_cons_zero, List.set_cons_succ, Option.some.injEq, V.int.injEq, V.bl.injEq, V.ref.injEq, V.str.injEq, exists_eq_left', exists_eq_left, exists_eq', exists_and_left, List.cons.injEq, and_true, true_and, and_self, and_assoc, decide_eq_true_eq, if_true, if_false, Bool.true_eq_false, Bool.false_eq_true, Bool.not_eq_true', Bool.not_true, Bool.not_false, decide_eq_false_iff_not, ite_true, ite_false, reduceCtorEq, false_and, exists_false, false_or, or_false, and_false, Nat.reduceLeDiff]
    refine ⟨_, _, s08 _ _ W.hp, get_n _ _ _ (by decide) (by decide) (by decide), p, dx, d, g, o, k, kvs, Tb, rfl, s08 _ _ W.hp, s08 _ _ ed, rd.keep (KeepT.of_same s08), fun r9 H9 s9 e9 => ?_⟩
    have s09 := s08.trans s9
    refine ⟨_, dget_t (s09 _ _ W.hk), td, rfl, .inl ⟨_, Rd.of (s09 _ _ et)⟩, fun z H10 _ s10 e10 => ⟨_, DGet.k (k := Sum.inl k) (s10 _ _ (s09 _ _ et)), ?_⟩⟩
    obtain ⟨pt, ept, hpt⟩ := (rt.keep (KeepT.of_same (s09.trans s10))).got (k := k) e10
    rw [ept]
    exact ⟨r9, pt, [(tGet Tb k).1, (tGet Tb k).2], rfl, s10 _ _ e9, hpt, by simp, fun H11 s11 => ⟨_, rfl, ite_f (by decide) ((s8.trans s9).trans (s10.trans s11))⟩⟩
  · obtain ⟨s8, x3, rfl⟩ := h
    simp only [tFld, sFld, sFldAug, tMeth, tMake, rAdd, rSub, tDNewS, tDIn, tDNotIn, sDPut, tDPop1, tDGet2, tDGet, tCallKX, kwG_one, tEither, tTupS, tLstS, comp_K, capσ, sub_nil, sub_none, sub_some, tYes, List.replicate, Option.join_some, Option.join_none, SL_inj, iStr, tPart, tNoPart, tSl, tLst, tTup, cx_K, slT, CDiv, Int.reduceLT, Int.reduceLE, Int.reduceToNat, Int.reduceNeg, Int.reduceAdd, Int.reduceSub, Int.reduceMul, forall_const, tSeq, tNext, tIfS, tRet, tRetN, tDrop, tAsg, gName, gCons, gNil, tVar, tC, tOp, rI, rI0, tUn, rU, tTest, tB, tAnd, tOr, tNot, tAndV, tOrV, tNotV, tIf, tCons, tNil, tCallX, tCallL, tCB, sRaise, rEq, rNe, scal_ii, scal_bb, scal_ss, scal_ni, scal_in, tChain, tAug, ipI, L2.start, List.map_cons, List.map_nil, List.length_cons, List.length_nil, List.cons_append, List.nil_append, List.append_nil, List.replicate_succ, List.replicate_zero, Nat.reduceAdd, Nat.reduceSub, List.getElem?_cons_zero, List.getElem?_cons_succ, List.set_cons_zero, List.set_cons_succ, Option.some.injEq, V.int.injEq, V.bl.injEq, V.ref.injEq, V.str.injEq, exists_eq_left', exists_eq_left, exists_eq', exists_and_left, List.cons.injEq, and_true, true_and, and_self, and_assoc, decide_eq_true_eq, if_true, if_false, Bool.true_eq_false, Bool.false_eq_true, Bool.not_eq_true', Bool.not_true, Bool.not_false, decide_eq_false_iff_not, ite_true, ite_false, reduceCtorEq, false_and, exists_false, false_or, or_false, and_false, Nat.reduceLeDiff]
    exact q _ (s07.trans s8)
theorem merge_k (td : Addr) : mergeK [] (kvK 0 0 td) = kvK 0 0 td := by
  unfold mergeK kvK
  rw [List.foldl_cons, List.foldl_cons, List.foldl_cons, List.foldl_nil, putK_new _ valV_nil]
  rw [putK_new _ (show valV ([] ++ [(_, _)]) _ = none from valV_neg (key_ne (by decide)))]
  rw [putK_new _ (show valV ([] ++ [(_, _)] ++ [(_, _)]) _ = none from (valV_neg (key_ne (by decide))).trans (valV_neg (key_ne (by decide))))]
  rfl
def spLaw (K : PySem.W.Frag) : Sp := fun vs H Q _ => ∃ (a : Addr) (ns : List Int), vs = [.ref a] ∧ SqL K H a (ns.map V.int) ∧ ns.length ≤ 63 ∧ ∀ H', Q (.bl true) H'
theorem sc_law : FnScope ["_law_script", "_law_pots", "_law_beside", "_law_known", "_law_cell"] ["_law_script"] (defScope s_law) := ⟨rfl, rfl, rfl, by decide +kernel, rfl, by decide +kernel, by decide +kernel⟩
theorem ok_law (T : Txt K mg t) : FnOk P w K mg base (CXE P w) 4 t.a_law t.d_law ["_law_script"] (spLaw K) := by
  refine T.fn_law.okX sc_law (fun vs H Q E h => ?_) (fun cdv A outer s H vs Q E L hr h => ?_)
  · obtain ⟨a, ns, rfl, hS, h63, q⟩ := h
    rfl
  obtain ⟨a, ns, rfl, hS, h63, q⟩ := h
  have nd := sc_law.nd
  refine ⟨_, (pss_cons (ps_set (i := 1) nd rfl (Or.inl rfl) (pe_make0 T.mk_Pots (ok_Pots___init__ T) (hr.mono (by decide)) (by rfl) T.mg_Pots T.b_Pots___init__ .nil passF)) (pss_cons (ps_set (i := 2) nd rfl (Or.inl rfl) (pe_make0 T.mk_Pots (ok_Pots___init__ T) (hr.mono (by decide)) (by rfl) T.mg_Pots T.b_Pots___init__ .nil passF)) (pss_cons (ps_set (i := 3) nd rfl (Or.inl rfl) (pe_disp (pps_cons (pe_strL st_0) pe_int (pps_cons (pe_strL st_1) pe_int (pps_cons (pe_strL st_2) pe_dnewS pps_nil))) rfl rfl (by simp) (by simp))) (pss_cons (ps_if (pt_not (pt_val (pe_callX L.toLv (ok_xL_looked T) (hr.mono (by decide)) (by rfl) T.mg_xL_looked T.fn_xL_looked.kp T.b_xL_looked .nil (pa_cons (pv 1) (pa_cons (pv 3) (pa_cons pe_int pa_nil star_Constant) star_Name) star_Name)))) (pss_one (ps_ret pe_bl)) pss_nil) (pss_cons (ps_for (by passes_own) rfl (pi_list (pe_slice sl_listS (pv 0) po_none (po_some pe_int))) (pg_name (i := 4) nd rfl (Or.inl rfl)) (pss_one (ps_if (pw_or (pt_not (pt_val (pe_callX L.toLv (ok_xL_done T) (hr.mono (by decide)) (by rfl) T.mg_xL_done T.fn_xL_done.kp T.b_xL_done .nil (pa_cons (pv 1) (pa_cons (pv 3) (pa_cons (pv 4) pa_nil star_Name) star_Name) star_Name)))) (pw_or1 (pt_not (pt_val (pe_callX L.toLv (ok_xL_looked T) (hr.mono (by decide)) (by rfl) T.mg_xL_looked T.fn_xL_looked.kp T.b_xL_looked .nil (pa_cons (pv 1) (pa_cons (pv 3) (pa_cons (pv 4) pa_nil star_Name) star_Name) star_Name)))))).pt (pss_one (ps_ret pe_bl)) pss_nil))) (pss_one (ps_ret (pe_and (pe_cmpR (op_eqD hr) (pe_meth0 (pv 2) T.cs_Pots T.me_Pots_left (ok_Pots_left T) (hr.mono (by decide)) T.b_Pots_left .nil passF ) (pe_tupS (pa_cons pe_int (pa_cons pe_int pa_nil star_Constant) star_Constant)) (nomark _)) (pe_and (pe_cmpR (op_eqD hr) (pe_meth (pv 2) T.cs_Pots T.me_Pots_took (ok_Pots_took T) (hr.mono (by decide)) T.b_Pots_took .nil passF (pa_cons pe_int pa_nil)) (pe_tupS (pa_cons pe_int (pa_cons pe_int pa_nil star_Constant) star_Constant)) (nomark _)) (pe_one (pe_cmpR op_eq (pe_meth0 (pv 2) T.cs_Pots T.me_Pots_pay_back (ok_Pots_pay_back T) (hr.mono (by decide)) T.b_Pots_pay_back .nil passF ) pe_int (nomark _)))))))))))), ?_⟩
  simp only [tFld, sFld, sFldAug, tMeth, tMake, rAdd, rSub, tDNewS, tDIn, tDNotIn, sDPut, tDPop1, tDGet2, tDGet, tCallKX, kwG_one, tEither, tTupS, tLstS, comp_K, capσ, sub_nil, sub_none, sub_some, tYes, List.replicate, Option.join_some, Option.join_none, SL_inj, iStr, tPart, tNoPart, tSl, tLst, tTup, cx_K, slT, CDiv, Int.reduceLT, Int.reduceLE, Int.reduceToNat, Int.reduceNeg, Int.reduceAdd, Int.reduceSub, Int.reduceMul, forall_const, tSeq, tNext, tIfS, tRet, tRetN, tDrop, tAsg, gName, gCons, gNil, tVar, tC, tOp, rI, rI0, tUn, rU, tTest, tB, tAnd, tOr, tNot, tAndV, tOrV, tNotV, tIf, tCons, tNil, tCallX, tCallL, tCB, sRaise, rEq, rNe, scal_ii, scal_bb, scal_ss, scal_ni, scal_in, tChain, tAug, ipI, L2.start, List.map_cons, List.map_nil, List.length_cons, List.length_nil, List.cons_append, List.nil_append, List.append_nil, List.replicate_succ, List.replicate_zero, Nat.reduceAdd, Nat.reduceSub, List.getElem?_cons_zero, List.getElem?_cons_succ, List.set_cons_zero, List.set_cons_succ, Option.some.injEq, V.int.injEq, V.bl.injEq, V.ref.injEq, V.str.injEq, exists_eq_left', exists_eq_left, exists_eq', exists_and_left, List.cons.injEq, and_true, true_and, and_self, and_assoc, decide_eq_true_eq, if_true, if_false, Bool.true_eq_false, Bool.false_eq_true, Bool.not_eq_true', Bool.not_true, Bool.not_false, decide_eq_false_iff_not, ite_true, ite_false, reduceCtorEq, false_and, exists_false, false_or, or_false, and_false, Nat.reduceLeDiff]
  intro p dx np ndx nex
  refine ⟨p, dx, rfl, upd_same, fun d H1 hd ed ep fr1 => ⟨rfl, ?_⟩⟩
  intro p2 dx2 np2 ndx2 nex2
  refine ⟨p2, dx2, rfl, upd_same, fun d2 H2 hd2 ed2 ep2 fr2 => ⟨rfl, ?_⟩⟩
  have p2p : p2 ≠ p := fun z => by rw [z, ep] at np2; cases np2
  have p2d : p2 ≠ d := fun z => by rw [z, ed] at np2; cases np2
  have x2p : dx2 ≠ p := fun z => by rw [z, ep] at ndx2; cases ndx2
  have x2d : dx2 ≠ d := fun z => by rw [z, ed] at ndx2; cases ndx2
  have ep' : H2 p = some (.ins t.c_Pots dx (fsP 0 0 d)) := fr2 _ _ p2p.symm (by rw [upd_ne p2p.symm, upd_ne x2p.symm]; exact ep)
  have ed' : H2 d = some (.dK []) := fr2 _ _ p2d.symm (by rw [upd_ne p2d.symm, upd_ne x2d.symm]; exact ed)
  have d2d : d2 ≠ d := fun z => by rw [z, upd_ne p2d.symm, upd_ne x2d.symm, ed] at hd2; cases hd2
  have sH2 : Same H H2 := fun b u e => by
    have b1 : b ≠ p := fun z => by rw [z, np] at e; cases e
    have b2 : b ≠ dx := fun z => by rw [z, ndx] at e; cases e
    have e1 := fr1 b u b1 (by rw [upd_ne b1, upd_ne b2]; exact e)
    have b3 : b ≠ p2 := fun z => by rw [z, np2] at e1; cases e1
    have b4 : b ≠ dx2 := fun z => by rw [z, ndx2] at e1; cases e1
    exact fr2 b u b3 (by rw [upd_ne b3, upd_ne b4]; exact e1)
  clear fr1 fr2 hd hd2 ep ed np ndx np2 ndx2 nex nex2
  intro kn hkn
  simp only [tFld, sFld, sFldAug, tMeth, tMake, rAdd, rSub, tDNewS, tDIn, tDNotIn, sDPut, tDPop1, tDGet2, tDGet, tCallKX, kwG_one, tEither, tTupS, tLstS, comp_K, capσ, sub_nil, sub_none, sub_some, tYes, List.replicate, Option.join_some, Option.join_none, SL_inj, iStr, tPart, tNoPart, tSl, tLst, tTup, cx_K, slT, CDiv, Int.reduceLT, Int.reduceLE, Int.reduceToNat, Int.reduceNeg, Int.reduceAdd, Int.reduceSub, Int.reduceMul, forall_const, tSeq, tNext, tIfS, tRet, tRetN, tDrop, tAsg, gName, gCons, gNil, tVar, tC, tOp, rI, rI0, tUn, rU, tTest, tB, tAnd, tOr, tNot, tAndV, tOrV, tNotV, tIf, tCons, tNil, tCallX, tCallL, tCB, sRaise, rEq, rNe, scal_ii, scal_bb, scal_ss, scal_ni, scal_in, tChain, tAug, ipI, L2.start, List.map_cons, List.map_nil, List.length_cons, List.length_nil, List.cons_append, List.nil_append, List.append_nil, List.replicate_succ, List.replicate_zero, Nat.reduceAdd, Nat.reduceSub, List.getElem?_cons_zero, List.getElem?_cons_succ, List.set_cons_zero, List.set_cons_succ, Option.some.injEq, V.int.injEq, V.bl.injEq, V.ref.injEq, V.str.injEq, exists_eq_left', exists_eq_left, exists_eq', exists_and_left, List.cons.injEq, and_true, true_and, and_self, and_assoc, decide_eq_true_eq, if_true, if_false, Bool.true_eq_false, Bool.false_eq_true, Bool.not_eq_true', Bool.not_true, Bool.not_false, decide_eq_false_iff_not, ite_true, ite_false, reduceCtorEq, false_and, exists_false, false_or, or_false, and_false, tPairs]
  intro td H3 htd s3 e3
  have kp : kn ≠ p := fun z => by rw [z, ep'] at hkn; cases hkn
  have kd : kn ≠ d := fun z => by rw [z, ed'] at hkn; cases hkn
  have kp2 : kn ≠ p2 := fun z => by rw [z, ep2] at hkn; cases hkn
  have kd2 : kn ≠ d2 := fun z => by rw [z, ed2] at hkn; cases hkn
  have tk : td ≠ kn := fun z => by rw [z, upd_same] at htd; cases htd
  rw [upd_ne tk] at htd
  have tp : td ≠ p := fun z => by rw [z, ep'] at htd; cases htd
  have tdd : td ≠ d := fun z => by rw [z, ed'] at htd; cases htd
  have td2 : td ≠ d2 := fun z => by rw [z, ed2] at htd; cases htd
  have s23 : ∀ b u, b ≠ kn → H2 b = some u → H3 b = some u := fun b u hb e => s3 _ _ (by rw [upd_ne hb]; exact e)
  refine ⟨s3 _ _ upd_same, kvK 0 0 td, rfl, by simp [kvK], ?_⟩
  rw [merge_k]
  have fr4 : ∀ b u, b ≠ kn → H2 b = some u → upd H3 kn (.dK (kvK 0 0 td)) b = some u := fun b u hb e => by rw [upd_ne hb]; exact s23 b u hb e
  have ek4 : upd H3 kn (.dK (kvK 0 0 td)) kn = some (.dK (kvK 0 0 td)) := upd_same
  have et4 : upd H3 kn (.dK (kvK 0 0 td)) td = some (.dK []) := by rw [upd_ne tk]; exact e3
  generalize upd H3 kn (.dK (kvK 0 0 td)) = H4 at fr4 ek4 et4
  have W4 : PW K t H4 p dx d kn td 0 0 [] 0 := ⟨fr4 _ _ kp.symm ep', ek4, ⟨[], fr4 _ _ kd.symm ed', trivial⟩, ⟨[], et4, trivial⟩, kd.symm, tdd.symm, tk.symm, Nat.le_refl _, Int.le_refl _, Int.le_refl _, fun z hz => (nomatch hz)⟩
  have ep24 := fr4 _ _ kp2.symm ep2
  have ed24 := fr4 _ _ kd2.symm ed2
  have hS4 : SqL K H4 a (ns.map V.int) := by
    have sH4 : Same H H4 := fun b u e => fr4 b u (fun z => by rw [z] at e; have := sH2 _ _ e; rw [hkn] at this; cases this) (sH2 _ _ e)
    exact sH4.seq hS
  refine ⟨p, dx, d, kn, td, 0, 0, 0, [], 0, rfl, W4, by decide, fun H5 s5 => ⟨_, rfl, ite_f (by decide) ?_⟩⟩
  ((try dsimp only); refine for_by fun R hR => ?_; simp only [tFld, sFld, sFldAug, tMeth, tMake, rAdd, rSub, tDNewS, tDIn, tDNotIn, sDPut, tDPop1, tDGet2, tDGet, tCallKX, kwG_one, tEither, tTupS, tLstS, comp_K, capσ, sub_nil, sub_none, sub_some, tYes, List.replicate, Option.join_some, Option.join_none, SL_inj, iStr, tPart, tNoPart, tSl, tLst, tTup, cx_K, slT, CDiv, Int.reduceLT, Int.reduceLE, Int.reduceToNat, Int.reduceNeg, Int.reduceAdd, Int.reduceSub, Int.reduceMul, forall_const, tSeq, tNext, tIfS, tRet, tRetN, tDrop, tAsg, gName, gCons, gNil, tVar, tC, tOp, rI, rI0, tUn, rU, tTest, tB, tAnd, tOr, tNot, tAndV, tOrV, tNotV, tIf, tCons, tNil, tCallX, tCallL, tCB, sRaise, rEq, rNe, scal_ii, scal_bb, scal_ss, scal_ni, scal_in, tChain, tAug, ipI, L2.start, List.map_cons, List.map_nil, List.length_cons, List.length_nil, List.cons_append, List.nil_append, List.append_nil, List.replicate_succ, List.replicate_zero, Nat.reduceAdd, Nat.reduceSub, List.getElem?_cons_zero, List.getElem?_cons_succ, List.set_cons_zero, List.set_cons_succ, Option.some.injEq, V.int.injEq, V.bl.injEq, V.ref.injEq, V.str.injEq, exists_eq_left', exists_eq_left, exists_eq', exists_and_left, List.cons.injEq, and_true, true_and, and_self, and_assoc, decide_eq_true_eq, if_true, if_false, Bool.true_eq_false, Bool.false_eq_true, Bool.not_eq_true', Bool.not_true, Bool.not_false, decide_eq_false_iff_not, ite_true, ite_false, reduceCtorEq, false_and, exists_false, false_or, or_false, and_false, iList, iTup, iZip, iRng1, iRng2, Nat.reduceLeDiff])
  refine ⟨a, _, rfl, s5.seq hS4, fun l6 H6 _ s6 e6 => ⟨l6, rfl, ⟨_, SqL.of e6⟩, hR _ _ ?_⟩⟩
  clear hR
  obtain ⟨ms, em, ml⟩ := cut_ints ns none (some 60)
  rw [em] at e6
  have s46 := s5.trans s6
  refine for_list (xs := ms.map V.int) (fun i σ1 H7 => ∃ (g o : Int) (Tb : Tab) (x4 : Option V), PW K t H7 p dx d kn td g o Tb i ∧ H7 p2 = some (.ins t.c_Pots dx2 (fsP 0 0 d2)) ∧ H7 d2 = some (.dK []) ∧ H7 l6 = some (.lst (ms.map V.int)) ∧ σ1 = [some (.ref a), some (.ref p), some (.ref p2), some (.ref kn), x4]) ⟨0, 0, [], _, W4.same s46, s46 _ _ ep24, s46 _ _ ed24, e6, rfl⟩ (fun _ _ _ _ ⟨_, _, _, _, _, _, _, h, _⟩ => SqL.of h) (fun i x σ1 H7 hx h => ?_) (fun σ1 H7 h => ?_)
  · obtain ⟨g, o, Tb, x4, W7, b1, b2, el, rfl⟩ := h
    rw [List.getElem?_map] at hx
    obtain ⟨cell, hc, rfl⟩ := Option.map_eq_some_iff.mp hx
    have hi := (List.getElem?_eq_some_iff.mp hc).1
    obtain ⟨kv1, e1, _⟩ := W7.r1
    obtain ⟨kv2, e2, _⟩ := W7.r2
    have lp : l6 ≠ p := fun z => by rw [z, W7.hp] at el; cases el
    have ld : l6 ≠ d := fun z => by rw [z, e1] at el; cases el
    have lk : l6 ≠ kn := fun z => by rw [z, W7.hk] at el; cases el
    have lt : l6 ≠ td := fun z => by rw [z, e2] at el; cases el
    have pd : p2 ≠ d := p2d
    have pk : p2 ≠ kn := kp2.symm
    have pt : p2 ≠ td := fun z => by rw [z, e2] at b1; cases b1
    have dp : d2 ≠ p := fun z => by rw [z, W7.hp] at b2; cases b2
    simp only [tFld, sFld, sFldAug, tMeth, tMake, rAdd, rSub, tDNewS, tDIn, tDNotIn, sDPut, tDPop1, tDGet2, tDGet, tCallKX, kwG_one, tEither, tTupS, tLstS, comp_K, capσ, sub_nil, sub_none, sub_some, tYes, List.replicate, Option.join_some, Option.join_none, SL_inj, iStr, tPart, tNoPart, tSl, tLst, tTup, cx_K, slT, CDiv, Int.reduceLT, Int.reduceLE, Int.reduceToNat, Int.reduceNeg, Int.reduceAdd, Int.reduceSub, Int.reduceMul, forall_const, tSeq, tNext, tIfS, tRet, tRetN, tDrop, tAsg, gName, gCons, gNil, tVar, tC, tOp, rI, rI0, tUn, rU, tTest, tB, tAnd, tOr, tNot, tAndV, tOrV, tNotV, tIf, tCons, tNil, tCallX, tCallL, tCB, sRaise, rEq, rNe, scal_ii, scal_bb, scal_ss, scal_ni, scal_in, tChain, tAug, ipI, L2.start, List.map_cons, List.map_nil, List.length_cons, List.length_nil, List.cons_append, List.nil_append, List.append_nil, List.replicate_succ, List.replicate_zero, Nat.reduceAdd, Nat.reduceSub, List.getElem?_cons_zero, List.getElem?_cons_succ, List.set_cons_zero, List.set_cons_succ, Option.some.injEq, V.int.injEq, V.bl.injEq, V.ref.injEq, V.str.injEq, exists_eq_left', exists_eq_left, exists_eq', exists_and_left, List.cons.injEq, and_true, true_and, and_self, and_assoc, decide_eq_true_eq, if_true, if_false, Bool.true_eq_false, Bool.false_eq_true, Bool.not_eq_true', Bool.not_true, Bool.not_false, decide_eq_false_iff_not, ite_true, ite_false, reduceCtorEq, false_and, exists_false, false_or, or_false, and_false, Nat.reduceLeDiff]
    refine ⟨p, dx, d, kn, td, g, o, cell, Tb, i, rfl, W7, by omega, fun g' o' Tb' H8 W8 fr8 => ⟨_, rfl, ite_f (by decide) ?_⟩⟩
    have b18 := fr8 _ _ p2p pd pk pt b1
    have b28 := fr8 _ _ dp d2d kd2.symm td2.symm b2
    have el8 := fr8 _ _ lp ld lk lt el
    refine ⟨p, dx, d, kn, td, g', o', cell, Tb', i + 1, rfl, W8, by omega, fun H9 s9 => ⟨_, rfl, ite_f (by decide) ?_⟩⟩
    exact ⟨g', o', Tb', W8.same s9, s9 _ _ b18, s9 _ _ b28, s9 _ _ el8⟩
  · obtain ⟨g, o, Tb, x4, W7, b1, b2, el, rfl⟩ := h
    simp only [tFld, sFld, sFldAug, tMeth, tMake, rAdd, rSub, tDNewS, tDIn, tDNotIn, sDPut, tDPop1, tDGet2, tDGet, tCallKX, kwG_one, tEither, tTupS, tLstS, comp_K, capσ, sub_nil, sub_none, sub_some, tYes, List.replicate, Option.join_some, Option.join_none, SL_inj, iStr, tPart, tNoPart, tSl, tLst, tTup, cx_K, slT, CDiv, Int.reduceLT, Int.reduceLE, Int.reduceToNat, Int.reduceNeg, Int.reduceAdd, Int.reduceSub, Int.reduceMul, forall_const, tSeq, tNext, tIfS, tRet, tRetN, tDrop, tAsg, gName, gCons, gNil, tVar, tC, tOp, rI, rI0, tUn, rU, tTest, tB, tAnd, tOr, tNot, tAndV, tOrV, tNotV, tIf, tCons, tNil, tCallX, tCallL, tCB, sRaise, rEq, rNe, scal_ii, scal_bb, scal_ss, scal_ni, scal_in, tChain, tAug, ipI, L2.start, List.map_cons, List.map_nil, List.length_cons, List.length_nil, List.cons_append, List.nil_append, List.append_nil, List.replicate_succ, List.replicate_zero, Nat.reduceAdd, Nat.reduceSub, List.getElem?_cons_zero, List.getElem?_cons_succ, List.set_cons_zero, List.set_cons_succ, Option.some.injEq, V.int.injEq, V.bl.injEq, V.ref.injEq, V.str.injEq, exists_eq_left', exists_eq_left, exists_eq', exists_and_left, List.cons.injEq, and_true, true_and, and_self, and_assoc, decide_eq_true_eq, if_true, if_false, Bool.true_eq_false, Bool.false_eq_true, Bool.not_eq_true', Bool.not_true, Bool.not_false, decide_eq_false_iff_not, ite_true, ite_false, reduceCtorEq, false_and, exists_false, false_or, or_false, and_false, Nat.reduceLeDiff]
    refine ⟨_, _, b1, get_n _ _ _ (by decide) (by decide) (by decide), p2, dx2, d2, 0, 0, rfl, b1, fun r H8 s8 e8 r2 H9 _ s9 e9 => ?_⟩
    have s79 := s8.trans s9
    refine eqD (n := 0) (d := .tup ([0, 0].map D.int)) (Dp_tup (SqT.of (s9 _ _ e8)) (all2_ints [0, 0])) (Dp_tup (SqT.of e9) (all2_ints [0, 0])) rfl (by decide) ⟨_, rfl, ite_t rfl ?_⟩
    refine ⟨_, _, s79 _ _ b1, get_n _ _ _ (by decide) (by decide) (by decide), p2, dx2, d2, 0, 0, 0, [], [], rfl, s79 _ _ b1, s79 _ _ b2, trivial, fun r3 H10 s10 e10 r4 H11 _ s11 e11 => ?_⟩
    have s711 := (s79.trans s10).trans s11
    refine eqD (n := 0) (d := .tup ([0, 0].map D.int)) (Dp_tup (SqT.of (s11 _ _ e10)) (all2_ints [0, 0])) (Dp_tup (SqT.of e11) (all2_ints [0, 0])) rfl (by decide) ⟨_, rfl, ite_t rfl ?_⟩
    refine ⟨_, _, s711 _ _ b1, get_n _ _ _ (by decide) (by decide) (by decide), p2, dx2, d2, 0, 0, rfl, s711 _ _ b1, rfl, ?_⟩
    rw [decide_eq_true rfl]
    exact q _
end
theorem txt_mk {K : PySem.W.Frag} {h : Heap} {mg : Str → Option Value} (X : K.In h) (G : h.Ns mainGlobals mg)
    {f0 : Addr} {od0 an0 : Option Addr} {sl0 : Array (Option Value)} {oc0 kV0 dc0 pm0 cd0 ct0 : Value}
    {f1 : Addr} {od1 an1 : Option Addr} {sl1 : Array (Option Value)} {oc1 kV1 dc1 pm1 cd1 ct1 : Value}
    {f2 : Addr} {od2 an2 : Option Addr} {sl2 : Array (Option Value)} {oc2 kV2 dc2 pm2 cd2 ct2 : Value}
    {f3 : Addr} {od3 an3 : Option Addr} {sl3 : Array (Option Value)} {oc3 kV3 dc3 pm3 cd3 ct3 : Value}
    {f4 : Addr} {od4 an4 : Option Addr} {sl4 : Array (Option Value)} {oc4 kV4 dc4 pm4 cd4 ct4 : Value}
    {f5 : Addr} {od5 an5 : Option Addr} {sl5 : Array (Option Value)} {oc5 kV5 dc5 pm5 cd5 ct5 : Value}
    {f6 : Addr} {od6 an6 : Option Addr} {sl6 : Array (Option Value)} {oc6 kV6 dc6 pm6 cd6 ct6 : Value}
    {f7 : Addr} {od7 an7 : Option Addr} {sl7 : Array (Option Value)} {oc7 kV7 dc7 pm7 cd7 ct7 : Value}
    {f8 : Addr} {od8 an8 : Option Addr} {sl8 : Array (Option Value)} {oc8 kV8 dc8 pm8 cd8 ct8 : Value}
    {f9 : Addr} {od9 an9 : Option Addr} {sl9 : Array (Option Value)} {oc9 kV9 dc9 pm9 cd9 ct9 : Value}
    {f10 : Addr} {od10 an10 : Option Addr} {sl10 : Array (Option Value)} {oc10 kV10 dc10 pm10 cd10 ct10 : Value}
    {f11 : Addr} {od11 an11 : Option Addr} {sl11 : Array (Option Value)} {oc11 kV11 dc11 pm11 cd11 ct11 : Value}
    {f12 : Addr} {od12 an12 : Option Addr} {sl12 : Array (Option Value)} {oc12 kV12 dc12 pm12 cd12 ct12 : Value}
    {f13 : Addr} {od13 an13 : Option Addr} {sl13 : Array (Option Value)} {oc13 kV13 dc13 pm13 cd13 ct13 : Value}
    {f14 : Addr} {od14 an14 : Option Addr} {sl14 : Array (Option Value)} {oc14 kV14 dc14 pm14 cd14 ct14 : Value}
    {C_Pots : Addr} {cd_Pots : ClassData}
    (ha0 : PySem.W.nsIn K mainGlobals "_law_whole" = some (some (.ref f0)))
    (hl0 : K.lookup f0 = some ⟨oc0, od0, .func (PySem.W.fnOf "_law_whole" "_law_whole" (defArgs s_xL_whole) (defBody s_xL_whole) (defScope s_xL_whole) .none kV0 dc0 pm0 an0 cd0 ct0), sl0⟩)
    (hc0 : PySem.W.codeIn K cd0 "_law_whole" = true)
    (hk0 : PySem.W.keepIn K (.ref f0) = true)
    (ha1 : PySem.W.nsIn K mainGlobals "_law_are" = some (some (.ref f1)))
    (hl1 : K.lookup f1 = some ⟨oc1, od1, .func (PySem.W.fnOf "_law_are" "_law_are" (defArgs s_xL_are) (defBody s_xL_are) (defScope s_xL_are) .none kV1 dc1 pm1 an1 cd1 ct1), sl1⟩)
    (hc1 : PySem.W.codeIn K cd1 "_law_are" = true)
    (hk1 : PySem.W.keepIn K (.ref f1) = true)
    (ha2 : PySem.W.nsIn K mainGlobals "_law_amount" = some (some (.ref f2)))
    (hl2 : K.lookup f2 = some ⟨oc2, od2, .func (PySem.W.fnOf "_law_amount" "_law_amount" (defArgs s_xL_amount) (defBody s_xL_amount) (defScope s_xL_amount) .none kV2 dc2 pm2 an2 cd2 ct2), sl2⟩)
    (hc2 : PySem.W.codeIn K cd2 "_law_amount" = true)
    (hk2 : PySem.W.keepIn K (.ref f2) = true)
    (ha3 : PySem.W.nsIn K mainGlobals "_law_take" = some (some (.ref f3)))
    (hl3 : K.lookup f3 = some ⟨oc3, od3, .func (PySem.W.fnOf "_law_take" "_law_take" (defArgs s_xL_take) (defBody s_xL_take) (defScope s_xL_take) .none kV3 dc3 pm3 an3 cd3 ct3), sl3⟩)
    (hc3 : PySem.W.codeIn K cd3 "_law_take" = true)
    (hk3 : PySem.W.keepIn K (.ref f3) = true)
    (ha4 : PySem.W.nsIn K mainGlobals "_law_give" = some (some (.ref f4)))
    (hl4 : K.lookup f4 = some ⟨oc4, od4, .func (PySem.W.fnOf "_law_give" "_law_give" (defArgs s_xL_give) (defBody s_xL_give) (defScope s_xL_give) .none kV4 dc4 pm4 an4 cd4 ct4), sl4⟩)
    (hc4 : PySem.W.codeIn K cd4 "_law_give" = true)
    (hk4 : PySem.W.keepIn K (.ref f4) = true)
    (ha5 : PySem.W.nsIn K mainGlobals "_law_done" = some (some (.ref f5)))
    (hl5 : K.lookup f5 = some ⟨oc5, od5, .func (PySem.W.fnOf "_law_done" "_law_done" (defArgs s_xL_done) (defBody s_xL_done) (defScope s_xL_done) .none kV5 dc5 pm5 an5 cd5 ct5), sl5⟩)
    (hc5 : PySem.W.codeIn K cd5 "_law_done" = true)
    (hk5 : PySem.W.keepIn K (.ref f5) = true)
    (ha6 : PySem.W.nsIn K mainGlobals "_law_looked" = some (some (.ref f6)))
    (hl6 : K.lookup f6 = some ⟨oc6, od6, .func (PySem.W.fnOf "_law_looked" "_law_looked" (defArgs s_xL_looked) (defBody s_xL_looked) (defScope s_xL_looked) .none kV6 dc6 pm6 an6 cd6 ct6), sl6⟩)
    (hc6 : PySem.W.codeIn K cd6 "_law_looked" = true)
    (hk6 : PySem.W.keepIn K (.ref f6) = true)
    (ha7 : PySem.W.nsIn K mainGlobals "law" = some (some (.ref f7)))
    (hl7 : K.lookup f7 = some ⟨oc7, od7, .func (PySem.W.fnOf "law" "law" (defArgs s_law) (defBody s_law) (defScope s_law) .none kV7 dc7 pm7 an7 cd7 ct7), sl7⟩)
    (hc7 : PySem.W.codeIn K cd7 "law" = true)
    (hk7 : PySem.W.keepIn K (.ref f7) = true)
    (ha8 : PySem.W.findIn K (.ref C_Pots) "__init__" = some (some (.ref f8)))
    (hl8 : K.lookup f8 = some ⟨oc8, od8, .func (PySem.W.fnOf "__init__" "Pots.__init__" (defArgs s_Pots___init__) (defBody s_Pots___init__) (defScope s_Pots___init__) .none kV8 dc8 pm8 an8 cd8 ct8), sl8⟩)
    (hc8 : PySem.W.codeIn K cd8 "Pots.__init__" = true)
    (hk8 : PySem.W.keepIn K (.ref f8) = true)
    (hf8 : PySem.W.isFn K (.ref f8) = true)
    (ha9 : PySem.W.findIn K (.ref C_Pots) "grant" = some (some (.ref f9)))
    (hl9 : K.lookup f9 = some ⟨oc9, od9, .func (PySem.W.fnOf "grant" "Pots.grant" (defArgs s_Pots_grant) (defBody s_Pots_grant) (defScope s_Pots_grant) .none kV9 dc9 pm9 an9 cd9 ct9), sl9⟩)
    (hc9 : PySem.W.codeIn K cd9 "Pots.grant" = true)
    (hk9 : PySem.W.keepIn K (.ref f9) = true)
    (hf9 : PySem.W.isFn K (.ref f9) = true)
    (ha10 : PySem.W.findIn K (.ref C_Pots) "take" = some (some (.ref f10)))
    (hl10 : K.lookup f10 = some ⟨oc10, od10, .func (PySem.W.fnOf "take" "Pots.take" (defArgs s_Pots_take) (defBody s_Pots_take) (defScope s_Pots_take) .none kV10 dc10 pm10 an10 cd10 ct10), sl10⟩)
    (hc10 : PySem.W.codeIn K cd10 "Pots.take" = true)
    (hk10 : PySem.W.keepIn K (.ref f10) = true)
    (hf10 : PySem.W.isFn K (.ref f10) = true)
    (ha11 : PySem.W.findIn K (.ref C_Pots) "give" = some (some (.ref f11)))
    (hl11 : K.lookup f11 = some ⟨oc11, od11, .func (PySem.W.fnOf "give" "Pots.give" (defArgs s_Pots_give) (defBody s_Pots_give) (defScope s_Pots_give) .none kV11 dc11 pm11 an11 cd11 ct11), sl11⟩)
    (hc11 : PySem.W.codeIn K cd11 "Pots.give" = true)
    (hk11 : PySem.W.keepIn K (.ref f11) = true)
    (hf11 : PySem.W.isFn K (.ref f11) = true)
    (ha12 : PySem.W.findIn K (.ref C_Pots) "pay_back" = some (some (.ref f12)))
    (hl12 : K.lookup f12 = some ⟨oc12, od12, .func (PySem.W.fnOf "pay_back" "Pots.pay_back" (defArgs s_Pots_pay_back) (defBody s_Pots_pay_back) (defScope s_Pots_pay_back) .none kV12 dc12 pm12 an12 cd12 ct12), sl12⟩)
    (hc12 : PySem.W.codeIn K cd12 "Pots.pay_back" = true)
    (hk12 : PySem.W.keepIn K (.ref f12) = true)
    (hf12 : PySem.W.isFn K (.ref f12) = true)
    (ha13 : PySem.W.findIn K (.ref C_Pots) "took" = some (some (.ref f13)))
    (hl13 : K.lookup f13 = some ⟨oc13, od13, .func (PySem.W.fnOf "took" "Pots.took" (defArgs s_Pots_took) (defBody s_Pots_took) (defScope s_Pots_took) .none kV13 dc13 pm13 an13 cd13 ct13), sl13⟩)
    (hc13 : PySem.W.codeIn K cd13 "Pots.took" = true)
    (hk13 : PySem.W.keepIn K (.ref f13) = true)
    (hf13 : PySem.W.isFn K (.ref f13) = true)
    (ha14 : PySem.W.findIn K (.ref C_Pots) "left" = some (some (.ref f14)))
    (hl14 : K.lookup f14 = some ⟨oc14, od14, .func (PySem.W.fnOf "left" "Pots.left" (defArgs s_Pots_left) (defBody s_Pots_left) (defScope s_Pots_left) .none kV14 dc14 pm14 an14 cd14 ct14), sl14⟩)
    (hc14 : PySem.W.codeIn K cd14 "Pots.left" = true)
    (hk14 : PySem.W.keepIn K (.ref f14) = true)
    (hf14 : PySem.W.isFn K (.ref f14) = true)
    (g_Pots : PySem.W.nsIn K mainGlobals "Pots" = some (some (.ref C_Pots)))
    (gc_Pots : PySem.W.clsIn K C_Pots = some cd_Pots)
    (gt_Pots : PySem.W.typeIn K (.ref C_Pots) = some (.type "type"))
    (gm_Pots : PySem.W.mroIn K C_Pots (.ref C_Pots) = some true)
    (op_Pots : PySem.W.plainGet K C_Pots Str.empty = true)
    (od_Pots : PySem.W.hasDictIn K C_Pots = true)
    (oo_Pots : PySem.W.plainOver K C_Pots = true)
    (os_Pots : PySem.W.findIn K (.ref C_Pots) "__setattr__" = some (some (.builtin "object.__setattr__")))
    (om_Pots : PySem.W.makesIn K C_Pots = true)
    (ok_Pots : PySem.W.keepIn K (.ref C_Pots) = true)
    (on_Pots_given : PySem.W.findIn K (.ref C_Pots) "given" = some none)
    (on_Pots_own : PySem.W.findIn K (.ref C_Pots) "own" = some none)
    (on_Pots_taken : PySem.W.findIn K (.ref C_Pots) "taken" = some none)
    (z_isinstance : PySem.W.nsIn K mainGlobals "isinstance" = some none)
    (z_int : PySem.W.nsIn K mainGlobals "int" = some none)
    (z_bool : PySem.W.nsIn K mainGlobals "bool" = some none)
    (z_tuple : PySem.W.nsIn K mainGlobals "tuple" = some none)
    (z_min : PySem.W.nsIn K mainGlobals "min" = some none)
    (z_sum : PySem.W.nsIn K mainGlobals "sum" = some none)
    (z_list : PySem.W.nsIn K mainGlobals "list" = some none)
    (z_len : PySem.W.nsIn K mainGlobals "len" = some none)
    : ∃ t, Txt K mg t :=
  ⟨{ a_xL_whole := f0, d_xL_whole := PySem.W.fnOf "_law_whole" "_law_whole" (defArgs s_xL_whole) (defBody s_xL_whole) (defScope s_xL_whole) .none kV0 dc0 pm0 an0 cd0 ct0,
     a_xL_are := f1, d_xL_are := PySem.W.fnOf "_law_are" "_law_are" (defArgs s_xL_are) (defBody s_xL_are) (defScope s_xL_are) .none kV1 dc1 pm1 an1 cd1 ct1,
     a_xL_amount := f2, d_xL_amount := PySem.W.fnOf "_law_amount" "_law_amount" (defArgs s_xL_amount) (defBody s_xL_amount) (defScope s_xL_amount) .none kV2 dc2 pm2 an2 cd2 ct2,
     a_xL_take := f3, d_xL_take := PySem.W.fnOf "_law_take" "_law_take" (defArgs s_xL_take) (defBody s_xL_take) (defScope s_xL_take) .none kV3 dc3 pm3 an3 cd3 ct3,
     a_xL_give := f4, d_xL_give := PySem.W.fnOf "_law_give" "_law_give" (defArgs s_xL_give) (defBody s_xL_give) (defScope s_xL_give) .none kV4 dc4 pm4 an4 cd4 ct4,
     a_xL_done := f5, d_xL_done := PySem.W.fnOf "_law_done" "_law_done" (defArgs s_xL_done) (defBody s_xL_done) (defScope s_xL_done) .none kV5 dc5 pm5 an5 cd5 ct5,
     a_xL_looked := f6, d_xL_looked := PySem.W.fnOf "_law_looked" "_law_looked" (defArgs s_xL_looked) (defBody s_xL_looked) (defScope s_xL_looked) .none kV6 dc6 pm6 an6 cd6 ct6,
     a_law := f7, d_law := PySem.W.fnOf "law" "law" (defArgs s_law) (defBody s_law) (defScope s_law) .none kV7 dc7 pm7 an7 cd7 ct7,
     a_Pots___init__ := f8, d_Pots___init__ := PySem.W.fnOf "__init__" "Pots.__init__" (defArgs s_Pots___init__) (defBody s_Pots___init__) (defScope s_Pots___init__) .none kV8 dc8 pm8 an8 cd8 ct8,
     a_Pots_grant := f9, d_Pots_grant := PySem.W.fnOf "grant" "Pots.grant" (defArgs s_Pots_grant) (defBody s_Pots_grant) (defScope s_Pots_grant) .none kV9 dc9 pm9 an9 cd9 ct9,
     a_Pots_take := f10, d_Pots_take := PySem.W.fnOf "take" "Pots.take" (defArgs s_Pots_take) (defBody s_Pots_take) (defScope s_Pots_take) .none kV10 dc10 pm10 an10 cd10 ct10,
     a_Pots_give := f11, d_Pots_give := PySem.W.fnOf "give" "Pots.give" (defArgs s_Pots_give) (defBody s_Pots_give) (defScope s_Pots_give) .none kV11 dc11 pm11 an11 cd11 ct11,
     a_Pots_pay_back := f12, d_Pots_pay_back := PySem.W.fnOf "pay_back" "Pots.pay_back" (defArgs s_Pots_pay_back) (defBody s_Pots_pay_back) (defScope s_Pots_pay_back) .none kV12 dc12 pm12 an12 cd12 ct12,
     a_Pots_took := f13, d_Pots_took := PySem.W.fnOf "took" "Pots.took" (defArgs s_Pots_took) (defBody s_Pots_took) (defScope s_Pots_took) .none kV13 dc13 pm13 an13 cd13 ct13,
     a_Pots_left := f14, d_Pots_left := PySem.W.fnOf "left" "Pots.left" (defArgs s_Pots_left) (defBody s_Pots_left) (defScope s_Pots_left) .none kV14 dc14 pm14 an14 cd14 ct14,
     c_Pots := C_Pots },
   { mg_xL_whole := PySem.W.mg_of X G ha0,
     fn_xL_whole := fun_mk (st := s_xL_whole) hl0 hc0 hk0,
     b_xL_whole := (fun_mk (st := s_xL_whole) hl0 hc0 hk0).binds (ps := ["_law_found"]) fun _ _ _ _ _ _ us hl => match us, hl with | [_], _ => rfl,
     mg_xL_are := PySem.W.mg_of X G ha1,
     fn_xL_are := fun_mk (st := s_xL_are) hl1 hc1 hk1,
     b_xL_are := (fun_mk (st := s_xL_are) hl1 hc1 hk1).binds (ps := ["_law_found", "_law_due"]) fun _ _ _ _ _ _ us hl => match us, hl with | [_, _], _ => rfl,
     mg_xL_amount := PySem.W.mg_of X G ha2,
     fn_xL_amount := fun_mk (st := s_xL_amount) hl2 hc2 hk2,
     b_xL_amount := (fun_mk (st := s_xL_amount) hl2 hc2 hk2).binds (ps := ["_law_cell"]) fun _ _ _ _ _ _ us hl => match us, hl with | [_], _ => rfl,
     mg_xL_take := PySem.W.mg_of X G ha3,
     fn_xL_take := fun_mk (st := s_xL_take) hl3 hc3 hk3,
     b_xL_take := (fun_mk (st := s_xL_take) hl3 hc3 hk3).binds (ps := ["_law_known", "_law_k", "_law_amount_here"]) fun _ _ _ _ _ _ us hl => match us, hl with | [_, _, _], _ => rfl,
     mg_xL_give := PySem.W.mg_of X G ha4,
     fn_xL_give := fun_mk (st := s_xL_give) hl4 hc4 hk4,
     b_xL_give := (fun_mk (st := s_xL_give) hl4 hc4 hk4).binds (ps := ["_law_known", "_law_k", "_law_amount_here"]) fun _ _ _ _ _ _ us hl => match us, hl with | [_, _, _], _ => rfl,
     mg_xL_done := PySem.W.mg_of X G ha5,
     fn_xL_done := fun_mk (st := s_xL_done) hl5 hc5 hk5,
     b_xL_done := (fun_mk (st := s_xL_done) hl5 hc5 hk5).binds (ps := ["_law_pots", "_law_known", "_law_cell"]) fun _ _ _ _ _ _ us hl => match us, hl with | [_, _, _], _ => rfl,
     mg_xL_looked := PySem.W.mg_of X G ha6,
     fn_xL_looked := fun_mk (st := s_xL_looked) hl6 hc6 hk6,
     b_xL_looked := (fun_mk (st := s_xL_looked) hl6 hc6 hk6).binds (ps := ["_law_pots", "_law_known", "_law_cell"]) fun _ _ _ _ _ _ us hl => match us, hl with | [_, _, _], _ => rfl,
     mg_law := PySem.W.mg_of X G ha7,
     fn_law := fun_mk (st := s_law) hl7 hc7 hk7,
     b_law := (fun_mk (st := s_law) hl7 hc7 hk7).binds (ps := ["_law_script"]) fun _ _ _ _ _ _ us hl => match us, hl with | [_], _ => rfl,
     me_Pots___init__ := ⟨ha8, hf8, hk8⟩,
     fn_Pots___init__ := fun_mk (st := s_Pots___init__) hl8 hc8 hk8,
     b_Pots___init__ := (fun_mk (st := s_Pots___init__) hl8 hc8 hk8).binds (ps := ["self"]) fun _ _ _ _ _ _ us hl => match us, hl with | [_], _ => rfl,
     me_Pots_grant := ⟨ha9, hf9, hk9⟩,
     fn_Pots_grant := fun_mk (st := s_Pots_grant) hl9 hc9 hk9,
     b_Pots_grant := (fun_mk (st := s_Pots_grant) hl9 hc9 hk9).binds (ps := ["self", "amount"]) fun _ _ _ _ _ _ us hl => match us, hl with | [_, _], _ => rfl,
     me_Pots_take := ⟨ha10, hf10, hk10⟩,
     fn_Pots_take := fun_mk (st := s_Pots_take) hl10 hc10 hk10,
     b_Pots_take := (fun_mk (st := s_Pots_take) hl10 hc10 hk10).binds (ps := ["self", "k", "amount"]) fun _ _ _ _ _ _ us hl => match us, hl with | [_, _, _], _ => rfl,
     me_Pots_give := ⟨ha11, hf11, hk11⟩,
     fn_Pots_give := fun_mk (st := s_Pots_give) hl11 hc11 hk11,
     b_Pots_give := (fun_mk (st := s_Pots_give) hl11 hc11 hk11).binds (ps := ["self", "k", "amount"]) fun _ _ _ _ _ _ us hl => match us, hl with | [_, _, _], _ => rfl,
     me_Pots_pay_back := ⟨ha12, hf12, hk12⟩,
     fn_Pots_pay_back := fun_mk (st := s_Pots_pay_back) hl12 hc12 hk12,
     b_Pots_pay_back := (fun_mk (st := s_Pots_pay_back) hl12 hc12 hk12).binds (ps := ["self"]) fun _ _ _ _ _ _ us hl => match us, hl with | [_], _ => rfl,
     me_Pots_took := ⟨ha13, hf13, hk13⟩,
     fn_Pots_took := fun_mk (st := s_Pots_took) hl13 hc13 hk13,
     b_Pots_took := (fun_mk (st := s_Pots_took) hl13 hc13 hk13).binds (ps := ["self", "k"]) fun _ _ _ _ _ _ us hl => match us, hl with | [_, _], _ => rfl,
     me_Pots_left := ⟨ha14, hf14, hk14⟩,
     fn_Pots_left := fun_mk (st := s_Pots_left) hl14 hc14 hk14,
     b_Pots_left := (fun_mk (st := s_Pots_left) hl14 hc14 hk14).binds (ps := ["self"]) fun _ _ _ _ _ _ us hl => match us, hl with | [_], _ => rfl,
     mg_Pots := PySem.W.mg_of X G g_Pots,
     cl_Pots := ⟨by rw [gc_Pots]; rfl, gt_Pots, gm_Pots⟩,
     cs_Pots := ⟨op_Pots, od_Pots, oo_Pots, os_Pots⟩,
     mk_Pots := ⟨om_Pots, ha8, hf8, ok_Pots⟩,
     na_Pots_given := on_Pots_given,
     na_Pots_own := on_Pots_own,
     na_Pots_taken := on_Pots_taken,
     no_isinstance := PySem.W.mg_none_of X G z_isinstance,
     no_int := PySem.W.mg_none_of X G z_int,
     no_bool := PySem.W.mg_none_of X G z_bool,
     no_tuple := PySem.W.mg_none_of X G z_tuple,
     no_min := PySem.W.mg_none_of X G z_min,
     no_sum := PySem.W.mg_none_of X G z_sum,
     no_list := PySem.W.mg_none_of X G z_list,
     no_len := PySem.W.mg_none_of X G z_len }⟩
theorem bind_law {K : PySem.W.Frag} {mg : Str → Option Value} {t : Adr} (T : Txt K mg t) : ∀ (s : Shared) (u : Value), BindsTo s t.d_law ⟨[u], []⟩ [("_law_script", u)] := by
  obtain ⟨oc, od, kV, doc, pm, an, cdv, ct, osl, e, lk, hcd⟩ := T.fn_law.ex
  intro s u
  rw [e]
  exact .of_eq rfl
theorem walk {l : PySem.W.OpenLaw} {q : Program} {loose : List Str} {XP : (Str → Option Value) → Heap → Prop} {YP : World → Heap → Prop} {d : DefRec} {K : Params → PySem.W.Frag} (hn : l.most = some 63) (hdf : d.params.defaults = [])
    (hY : ∀ (w : World) (h : Heap), YP w h → (K w.params).In h)
    (F : ∀ (w : World) (mg : Str → Option Value) (fa : Addr) (h : Heap), (K w.params).In h → h.Ns mainGlobals mg → mg d.name = some (.ref fa) →
      ∃ fd : FuncData, (∀ (s : Shared) (u : Value), BindsTo s fd ⟨[u], []⟩ [("_law_script", u)]) ∧ ∀ base : Heap, (K w.params).In base → base.Ns mainGlobals mg → FnOk l.prog w (K w.params) mg base (CXE l.prog w) 16 fa fd ["_law_script"] (spLaw (K w.params))) :
    PySem.W.WalkO q loose XP YP l.row.toRowW d [] (fun f vs => PySem.call f vs) :=
  L2.walk_of (n := 63) (k := 16) (x := "_law_script") (CX := fun w => CXE l.prog w) (sp := fun w => spLaw (K w.params)) hn (by decide) hdf ⟨rfl, by decide, by decide⟩ hY F (fun _ _ a ns hl _ hS => ⟨a, ns, rfl, hS, hl, fun _ => rfl⟩) fun _ _ _ _ _ ⟨_, _, _, _, _, z⟩ => z
end K60
open PySem PySem.W PyProof.Rows
set_option maxRecDepth 100000 in
set_option maxHeartbeats 0 in
theorem PySem.Challenge.cw_paidspan_k60_pots_walked_holds : PySem.Challenge.rw_paidspan_k60_pots_walked.Holds := by
  w_on; o_law; k_head; (case hw => w_witness2)
  k_fill
  refine K60.walk (l := PySem.Challenge.rw_paidspan_k60_pots_walked) rfl rfl (fun w h Y => PySem.W.kIn_of Y) ?F
  case F =>
    intro w mg fa h KX G hmg
    have T : ∃ t, K60.Txt (L2.KOf KX) mg t := by
      dsimp only [L2.KOf]
      refine' K60.txt_mk KX G ?ha0 ?hl0 ?hc0 ?hk0 ?ha1 ?hl1 ?hc1 ?hk1 ?ha2 ?hl2 ?hc2 ?hk2 ?ha3 ?hl3 ?hc3 ?hk3 ?ha4 ?hl4 ?hc4 ?hk4 ?ha5 ?hl5 ?hc5 ?hk5 ?ha6 ?hl6 ?hc6 ?hk6 ?ha7 ?hl7 ?hc7 ?hk7 ?ha8 ?hl8 ?hc8 ?hk8 ?hf8 ?ha9 ?hl9 ?hc9 ?hk9 ?hf9 ?ha10 ?hl10 ?hc10 ?hk10 ?hf10 ?ha11 ?hl11 ?hc11 ?hk11 ?hf11 ?ha12 ?hl12 ?hc12 ?hk12 ?hf12 ?ha13 ?hl13 ?hc13 ?hk13 ?hf13 ?ha14 ?hl14 ?hc14 ?hk14 ?hf14 ?g_Pots ?gc_Pots ?gt_Pots ?gm_Pots ?op_Pots ?od_Pots ?oo_Pots ?os_Pots ?om_Pots ?ok_Pots ?on_Pots_given ?on_Pots_own ?on_Pots_taken ?z_isinstance ?z_int ?z_bool ?z_tuple ?z_min ?z_sum ?z_list ?z_len
      (case g_Pots => k_is)
      (case ha0 => k_is)
      (case hl0 => k_is)
      (case hc0 => k_is)
      (case hk0 => k_is)
      (case ha1 => k_is)
      (case hl1 => k_is)
      (case hc1 => k_is)
      (case hk1 => k_is)
      (case ha2 => k_is)
      (case hl2 => k_is)
      (case hc2 => k_is)
      (case hk2 => k_is)
      (case ha3 => k_is)
      (case hl3 => k_is)
      (case hc3 => k_is)
      (case hk3 => k_is)
      (case ha4 => k_is)
      (case hl4 => k_is)
      (case hc4 => k_is)
      (case hk4 => k_is)
      (case ha5 => k_is)
      (case hl5 => k_is)
      (case hc5 => k_is)
      (case hk5 => k_is)
      (case ha6 => k_is)
      (case hl6 => k_is)
      (case hc6 => k_is)
      (case hk6 => k_is)
      (case ha7 => k_is)
      (case hl7 => k_is)
      (case hc7 => k_is)
      (case hk7 => k_is)
      (case ha8 => k_is)
      (case hl8 => k_is)
      (case hc8 => k_is)
      (case hk8 => k_is)
      (case hf8 => k_is)
      (case ha9 => k_is)
      (case hl9 => k_is)
      (case hc9 => k_is)
      (case hk9 => k_is)
      (case hf9 => k_is)
      (case ha10 => k_is)
      (case hl10 => k_is)
      (case hc10 => k_is)
      (case hk10 => k_is)
      (case hf10 => k_is)
      (case ha11 => k_is)
      (case hl11 => k_is)
      (case hc11 => k_is)
      (case hk11 => k_is)
      (case hf11 => k_is)
      (case ha12 => k_is)
      (case hl12 => k_is)
      (case hc12 => k_is)
      (case hk12 => k_is)
      (case hf12 => k_is)
      (case ha13 => k_is)
      (case hl13 => k_is)
      (case hc13 => k_is)
      (case hk13 => k_is)
      (case hf13 => k_is)
      (case ha14 => k_is)
      (case hl14 => k_is)
      (case hc14 => k_is)
      (case hk14 => k_is)
      (case hf14 => k_is)
      (case gc_Pots => k_is)
      (case gt_Pots => k_is)
      (case gm_Pots => k_is)
      (case op_Pots => k_is)
      (case od_Pots => k_is)
      (case oo_Pots => k_is)
      (case os_Pots => k_is)
      (case om_Pots => k_is)
      (case ok_Pots => k_is)
      (case on_Pots_given => k_is)
      (case on_Pots_own => k_is)
      (case on_Pots_taken => k_is)
      (case z_isinstance => k_is)
      (case z_int => k_is)
      (case z_bool => k_is)
      (case z_tuple => k_is)
      (case z_min => k_is)
      (case z_sum => k_is)
      (case z_list => k_is)
      (case z_len => k_is)
    obtain ⟨t, T⟩ := T
    have e0 := hmg.symm.trans T.mg_law
    cases e0
    refine ⟨_, ?b, fun base _ _ => (K60.ok_law T).mono (by decide)⟩
    exact K60.bind_law T

