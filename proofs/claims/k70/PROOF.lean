import PyProof.Rows.All
import Wide.All
import OpenK.AllK
import Wide.FinOn
import Lean
import PyProof.EqAt
import PyProof.EqKinds
import PyProof.TupleCall
import PySem.Challenge.RW_paidspan_k70_entries_in_their_time
set_option Elab.async false
set_option linter.all false
set_option maxRecDepth 100000
/-! THE HAND LAYER, for ints, bools, texts, own classes, LISTS and tuples (index, slices, in, append, pop ..), calls, loops. Paste it whole ahead of your own text; what your proof does not reach may be deleted. -/
namespace L2
open PySem PySem.Spec PyProof.Rows

/-- a key: an int or a str -/
abbrev Key := Sum Int Str
def keyIs : Key → Value → Bool
  | .inl k, v => Value.isInt k v
  | .inr x, v => Value.isStrOf x v
def keyH (w : World) : Key → Int
  | .inl k => hashInt k
  | .inr x => hashStr w x
theorem keyIs_shape : ∀ {k : Key} {v : Value}, keyIs k v = true → (∃ i t, k = Sum.inl i ∧ v = Value.int i t) ∨ (∃ x t, k = Sum.inr x ∧ v = Value.str x t)
  | .inl i, v, h => by
    obtain ⟨t, e⟩ := Value.isInt_shape (k := i) (v := v) h
    exact .inl ⟨i, t, rfl, e⟩
  | .inr x, v, h => by
    obtain ⟨t, e⟩ := Value.isStrOf_shape (x := x) (v := v) h
    exact .inr ⟨x, t, rfl, e⟩
theorem keyIs_int (i : Int) (t : Tok) : keyIs (.inl i) (.int i t) = true := by simp [keyIs, Value.isInt]
theorem keyIs_str (x : Str) (t : Tok) : keyIs (.inr x) (.str x t) = true := by simp [keyIs, Value.isStrOf]
theorem key_ll (a b : Int) : decide ((Sum.inl a : Key) = Sum.inl b) = (a == b) := by
  by_cases e : a = b
  · subst e; simp
  · have h : ¬ (Sum.inl a : Key) = Sum.inl b := fun q => e (Sum.inl.inj q)
    rw [decide_eq_false h]
    exact (beq_eq_false_iff_ne.mpr e).symm
theorem key_rr (a b : Str) : decide ((Sum.inr a : Key) = Sum.inr b) = decide (a = b) := by
  by_cases e : a = b
  · subst e; simp
  · have h : ¬ (Sum.inr a : Key) = Sum.inr b := fun q => e (Sum.inr.inj q)
    rw [decide_eq_false h, decide_eq_false e]
theorem key_lr (a : Int) (b : Str) : decide ((Sum.inl a : Key) = Sum.inr b) = false := decide_eq_false (fun q => nomatch q)
theorem key_rl (a : Str) (b : Int) : decide ((Sum.inr a : Key) = Sum.inl b) = false := decide_eq_false (fun q => nomatch q)

def mixKind (prog : Program) (w : World) : PySem.KeyKind prog w Key where
  is := keyIs
  hash := keyH w
  inj := fun v a b ha hb => by
    rcases keyIs_shape ha with ⟨i, t, rfl, rfl⟩ | ⟨x, t, rfl, rfl⟩
    · rcases keyIs_shape hb with ⟨j, u, rfl, e⟩ | ⟨y, u, rfl, e⟩
      · injection e with e1 _; rw [e1]
      · exact nomatch e
    · rcases keyIs_shape hb with ⟨j, u, rfl, e⟩ | ⟨y, u, rfl, e⟩
      · exact nomatch e
      · injection e with e1 _; rw [e1]
  byValue := fun k v h => by
    rcases keyIs_shape h with ⟨i, t, rfl, rfl⟩ | ⟨x, t, rfl, rfl⟩ <;> rfl
  pyHash := fun hv h => by
    rcases keyIs_shape hv with ⟨i, t, rfl, rfl⟩ | ⟨x, t, rfl, rfl⟩
    · exact wpAny_pyHash_int h
    · exact wpAny_pyHash_str h
  eqBool := fun hu hv h => by
    rcases keyIs_shape hu with ⟨i, t, rfl, rfl⟩ | ⟨x, t, rfl, rfl⟩
    · rcases keyIs_shape hv with ⟨j, u, rfl, rfl⟩ | ⟨y, u, rfl, rfl⟩
      · rw [key_ll] at h; exact wpAny_eqBool_int h
      · rw [key_lr] at h; exact SeqAt.EqAt.int_str i t y u _ _ _ _ h
    · rcases keyIs_shape hv with ⟨j, u, rfl, rfl⟩ | ⟨y, u, rfl, rfl⟩
      · rw [key_rl] at h; exact SeqAt.EqAt.str_int x t j u _ _ _ _ h
      · rw [key_rr] at h; exact wpAny_eqBool_str h
  «strs» := fun k x t v h => by
    rcases keyIs_shape h with ⟨i, u, rfl, e⟩ | ⟨y, u, rfl, e⟩
    · exact nomatch e
    · injection e with e1 _
      subst e1
      cases v <;> rfl

theorem mixKind_int (prog : Program) (w : World) (i : Int) (t : Tok) : (mixKind prog w).is (.inl i) (.int i t) = true := keyIs_int i t
theorem mixKind_str (prog : Program) (w : World) (x : Str) (t : Tok) : (mixKind prog w).is (.inr x) (.str x t) = true := keyIs_str x t
end L2

namespace L2
open PySem PySem.Spec PyProof.Rows

/-- a value, without the heap -/
inductive V where
  | non | bl (b : Bool) | int (i : Int) | str (x : Str) | byt (b : Array UInt8) | flt (b : UInt64) | ref (a : Addr) | ty (n : String)
  deriving DecidableEq

def RelV : V → Value → Prop
  | .non, u => u = Value.none
  | .bl b, u => u = Value.bool b
  | .int i, u => ∃ t, u = Value.int i t
  | .str x, u => ∃ t, u = Value.str x t
  | .byt b, u => ∃ t, u = Value.bytes b t
  | .flt b, u => ∃ t, u = Value.float b t
  | .ref a, u => u = Value.ref a
  | .ty n, u => u = Value.type n

abbrev Vals : List V → List Value → Prop := Paired RelV
theorem Vals.length {xs : List V} {us : List Value} (r : Vals xs us) : xs.length = us.length := Paired.length r
theorem Vals.get : ∀ {xs : List V} {us : List Value} {i : Nat} {x : V}, Vals xs us → xs[i]? = some x → ∃ u, us[i]? = some u ∧ RelV x u
  | _, _, _, _, .nil, e => by simp at e
  | _, _, 0, _, .cons r _, e => by simp at e; subst e; exact ⟨_, rfl, r⟩
  | _, _, i + 1, x, .cons _ t, e => by
    obtain ⟨u, h1, h2⟩ := Vals.get (i := i) (x := x) t (by simpa using e)
    exact ⟨u, by simpa using h1, h2⟩
theorem Vals.set {x : V} {u : Value} (r : RelV x u) : ∀ {xs : List V} {us : List Value} (i : Nat), Vals xs us → Vals (xs.set i x) (us.set i u)
  | _, _, _, .nil => .nil
  | _, _, 0, .cons _ t => .cons r t
  | _, _, i + 1, .cons q t => .cons q (Vals.set r i t)
theorem Vals.append : ∀ {xs ys : List V} {us ws : List Value}, Vals xs us → Vals ys ws → Vals (xs ++ ys) (us ++ ws)
  | _, _, _, _, .nil, s => s
  | _, _, _, _, .cons r t, s => .cons r (Vals.append t s)
theorem Vals.take : ∀ {xs : List V} {us : List Value} (n : Nat), Vals xs us → Vals (xs.take n) (us.take n)
  | _, _, 0, _ => .nil
  | _, _, _ + 1, .nil => .nil
  | _, _, n + 1, .cons r t => .cons r (Vals.take n t)
theorem Vals.drop : ∀ {xs : List V} {us : List Value} (n : Nat), Vals xs us → Vals (xs.drop n) (us.drop n)
  | _, _, 0, r => r
  | _, _, _ + 1, .nil => .nil
  | _, _, n + 1, .cons _ t => Vals.drop n t
theorem Vals.none_of : ∀ {xs : List V} {us : List Value} {i : Nat}, Vals xs us → xs[i]? = none → us[i]? = none := fun {xs us i} r e => by
  have h1 := r.length
  have h2 : xs.length ≤ i := List.getElem?_eq_none_iff.mp e
  exact List.getElem?_eq_none_iff.mpr (by omega)

def RelO : Option V → Option Value → Prop
  | some v, some u => RelV v u
  | none, none => True
  | _, _ => False
def KV {κ : Type} : List (κ × V) → List (κ × Value) → Prop := Paired fun (p : κ × V) (q : κ × Value) => p.1 = q.1 ∧ RelV p.2 q.2

/-- a key of a dict (00_mix): an int or a text -/
def kV : Key → V
  | .inl i => .int i
  | .inr x => .str x

/-- what stands at a tracked address -/
inductive HO where
  /-- a list -/
  | lst (xs : List V)
  /-- a tuple (never changes) -/
  | tup (xs : List V)
  /-- a dict whose keys are ints and texts; one whose keys are tuples of ints and texts (the empty one is both) -/
  | dK (kvs : List (Key × V)) | dT (kvs : List (List Key × V))
  /-- a set of ints: its members, its size -/
  | set (S : Int → Bool) (n : Nat)
  /-- an instance of the class at C, its dict at dx, its attributes -/
  | ins (C dx : Addr) (fs : List (Str × V))
  /-- the dict of the instance at x -/
  | own (x : Addr)
  /-- the dict of an exception -/
  | xd (fs : List (Str × V))
  /-- a bound method, f of x -/
  | met (f x : Addr)
  /-- a range object lo, lo + 1, .. below hi -/
  | rng (lo hi : Int)
  /-- a thing that is known to the object (the script; a dict while a loop walks it): read, never written while it is so -/
  | frz (o : Obj) (u : HO)
  /-- a code object's table -/
  | tbl (ps : Array Value)
  /-- any other thing, by what is true of its one object (a def of one's own: SetO a S n := HO.ext fun h => ..) -/
  | ext (φ : Heap → Prop)

abbrev Hp := Addr → Option HO
def upd (H : Hp) (a : Addr) (o : HO) : Hp := fun b => if b = a then some o else H b
theorem upd_same {H : Hp} {a : Addr} {o : HO} : upd H a o a = some o := by unfold upd; rw [if_pos rfl]
theorem upd_ne {H : Hp} {a b : Addr} {o : HO} (h : b ≠ a) : upd H a o b = H b := by unfold upd; rw [if_neg h]
/-- two objects of different content stand apart -/
theorem ne_of {H : Hp} {a b : Addr} {o u : HO} (h : H a = some o) (h' : H b = some u) (d : o ≠ u) : a ≠ b := by
  intro e; subst e; rw [h] at h'; exact d (Option.some.inj h')
theorem ne_of_none {H : Hp} {a b : Addr} {o : HO} (h : H a = some o) (h' : H b = none) : a ≠ b := by
  intro e; subst e; rw [h] at h'; cases h'

section
variable (P : Program) (w : World)
def ObjOk (H : Hp) (h : Heap) (a : Addr) : HO → Prop
  | .lst xs => xs.length ≤ sizeLine ∧ ∃ (its : List Value) (n : Nat), Vals xs its ∧ h.get? a = some { cls := .type "list", data := .seq its.toArray n }
  | .tup xs => xs.length ≤ sizeLine ∧ ∃ its : List Value, Vals xs its ∧ IsTup h a its.toArray
  | .dK kvs => kvs.length ≤ sizeLine ∧ (a == sysModules) = false ∧ ∃ vs, KV kvs vs ∧ h.DictOf (mixKind P w) a vs
  | .dT kvs => kvs.length ≤ sizeLine ∧ (a == sysModules) = false ∧ ∃ xs : List (List Key × Addr × Value),
      Paired (fun (p : List Key × V) (q : List Key × Addr × Value) => p.1 = q.1 ∧ H q.2.1 = some (.tup (p.1.map kV)) ∧ RelV p.2 q.2.2) kvs xs ∧
      ∃ o es ep, h.get? a = some o ∧ o.ExactDict ∧ o.data = .dict es ep ∧ es.toList = xs.map (entryOfKey (tupleKind (mixKind P w))) ∧ (xs.map (·.1)).Nodup
  | .set S n => h.SetOf (intKind P w) a S n
  | .ins C dx fs => H dx = some (.own a) ∧ fs.length ≤ 1000 ∧ dx ≠ a ∧ h.get? a = some (PySem.W.instObj C dx) ∧
      ∃ mA, h.Ns1 dx mA ∧ (∀ f, RelO (fs.lookup f) (mA f)) ∧ PySem.Within mA (fs.map (·.1))
  | .own _ => ∃ o, h.get? a = some o
  | .xd fs => ∃ mA, h.Ns1 a mA ∧ ∀ f, RelO (fs.lookup f) (mA f)
  | .rng lo hi => ∃ t u v, h.get? a = some { cls := .type "range", data := .fields #[.int lo t, .int hi u, .int 1 v] }
  | .frz o u => h.get? a = some o ∧ ObjOk H h a u
  | .tbl ps => h.get? a = some { cls := .none, data := .fields ps }
  | .met f x => h.get? a = some (PySem.W.methodObj (.ref f) (.ref x))
  | .ext φ => φ h ∧ (∃ o, h.get? a = some o) ∧ ∀ h1 h2 : Heap, φ h1 → (∀ o, h1.get? a = some o → h2.get? a = some o) → φ h2
/-- the abstract heap is held -/
def HOk (H : Hp) (h : Heap) : Prop := ∀ a o, H a = some o → ObjOk P w H h a o
end

section
variable {P : Program} {w : World} {H H' : Hp} {h h' : Heap} {a : Addr} {o : HO}
theorem ObjOk.lt (x : ObjOk P w H h a o) : a < h.objs.size := by
  cases o with
  | lst xs => obtain ⟨_, _, _, _, e⟩ := x; exact Heap.lt_size e
  | tup xs => obtain ⟨_, _, _, p⟩ := x; exact p.lt
  | dK kvs => obtain ⟨_, _, _, _, o, _, _, e, _⟩ := x; exact Heap.lt_size e
  | dT kvs => obtain ⟨_, _, _, _, o, _, _, e, _⟩ := x; exact Heap.lt_size e
  | set S n => obtain ⟨o, _, _, _, e, _⟩ := x; exact Heap.lt_size e
  | ins C dx fs => obtain ⟨_, _, _, e, _⟩ := x; exact Heap.lt_size e
  | own y => obtain ⟨_, e⟩ := x; exact Heap.lt_size e
  | xd fs => obtain ⟨_, ⟨_, _, _, e, _⟩, _⟩ := x; exact Heap.lt_size e
  | rng lo hi => obtain ⟨_, _, _, e⟩ := x; exact Heap.lt_size e
  | frz ob u => obtain ⟨e, _⟩ := x; exact Heap.lt_size e
  | tbl ps => exact Heap.lt_size (show h.get? a = some _ from x)
  | met f y => exact Heap.lt_size (show h.get? a = some _ from x)
  | ext φ => obtain ⟨_, ⟨_, e⟩, _⟩ := x; exact Heap.lt_size e
theorem Paired.mapP {α β : Type} {F G : α → β → Prop} : ∀ {l₁ : List α} {l₂ : List β}, Paired F l₁ l₂ → (∀ a b, F a b → G a b) → Paired G l₁ l₂
  | _, _, .nil, _ => .nil
  | _, _, .cons r t, f => .cons (f _ _ r) (Paired.mapP t f)
/-- what an object's description leans on: its own object, its own dict, the tuples -/
theorem ObjOk.stay (x : ObjOk P w H h a o) (k : ∀ b u, (b = a ∨ H b = some (.own a)) → h.get? b = some u → h'.get? b = some u)
    (ho : ∀ b, H b = some (.own a) → H' b = some (.own a)) (ht : ∀ b xs, H b = some (.tup xs) → H' b = some (.tup xs)) : ObjOk P w H' h' a o := by
  induction o with
  | lst xs => obtain ⟨z, its, n, r, e⟩ := x; exact ⟨z, its, n, r, k _ _ (.inl rfl) e⟩
  | tup xs => obtain ⟨z, its, r, ob, e, c⟩ := x; exact ⟨z, its, r, ob, k _ _ (.inl rfl) e, c⟩
  | dK kvs => obtain ⟨z, y, vs, r, ob, es, ep, e, c⟩ := x; exact ⟨z, y, vs, r, ob, es, ep, k _ _ (.inl rfl) e, c⟩
  | dT kvs =>
    obtain ⟨z, y, xs, r, ob, es, ep, e, c⟩ := x
    exact ⟨z, y, xs, Paired.mapP r fun p q z => ⟨z.1, ht _ _ z.2.1, z.2.2⟩, ob, es, ep, k _ _ (.inl rfl) e, c⟩
  | set S n => obtain ⟨ob, es, ep, t, e, c⟩ := x; exact ⟨ob, es, ep, t, k _ _ (.inl rfl) e, c⟩
  | ins C dx fs =>
    obtain ⟨d, z, ne, e, mA, ⟨od, es, ep, e2, c⟩, r⟩ := x
    exact ⟨ho _ d, z, ne, k _ _ (.inl rfl) e, mA, ⟨od, es, ep, k _ _ (.inr d) e2, c⟩, r⟩
  | own y => obtain ⟨ob, e⟩ := x; exact ⟨ob, k _ _ (.inl rfl) e⟩
  | xd fs => obtain ⟨mA, ⟨od, es, ep, e, c⟩, r⟩ := x; exact ⟨mA, ⟨od, es, ep, k _ _ (.inl rfl) e, c⟩, r⟩
  | rng lo hi => obtain ⟨t, u, v, e⟩ := x; exact ⟨t, u, v, k _ _ (.inl rfl) e⟩
  | frz ob u ih => obtain ⟨e, q⟩ := x; exact ⟨k _ _ (.inl rfl) e, ih q⟩
  | tbl ps =>
    have e : h.get? a = some { cls := .none, data := .fields ps } := x
    show h'.get? a = some { cls := .none, data := .fields ps }
    exact k a _ (.inl rfl) e
  | met f y =>
    have e : h.get? a = some (PySem.W.methodObj (.ref f) (.ref y)) := x
    show h'.get? a = some (PySem.W.methodObj (.ref f) (.ref y))
    exact k a _ (.inl rfl) e
  | ext φ => obtain ⟨p, ⟨o, e⟩, st⟩ := x; exact ⟨st _ _ p fun o q => k _ _ (.inl rfl) q, ⟨o, k _ _ (.inl rfl) e⟩, st⟩
theorem HOk.lt (x : HOk P w H h) (e : H a = some o) : a < h.objs.size := (x a o e).lt
theorem HOk.fresh (x : HOk P w H h) (e : h.objs.size ≤ a) : H a = none := by
  cases q : H a with
  | none => rfl
  | some u => exact absurd (Nat.lt_of_lt_of_le (x.lt q) e) (Nat.lt_irrefl _)
/-- every object of the heap is kept -/
theorem HOk.kept (x : HOk P w H h) (k : ∀ b u, h.get? b = some u → h'.get? b = some u) : HOk P w H h' := fun a o e =>
  (x a o e).stay (fun b u _ q => k b u q) (fun _ q => q) fun _ _ q => q
/-- a new object is laid and tracked -/
theorem HOk.laid (x : HOk P w H h) (k : ∀ b u, h.get? b = some u → h'.get? b = some u) (hp : h.objs.size ≤ a) (new : ObjOk P w (upd H a o) h' a o) : HOk P w (upd H a o) h' := fun b u e => by
  have hn := x.fresh hp
  by_cases hb : b = a
  · subst hb; rw [upd_same] at e; cases e; exact new
  · rw [upd_ne hb] at e
    exact (x b u e).stay (fun c v _ q => k c v q) (fun c q => by rw [upd_ne (ne_of_none q hn)]; exact q) fun c xs q => by rw [upd_ne (ne_of_none q hn)]; exact q
end

/-- what may be read as u: it is u, or a known u -/
def Rd (H : Hp) (a : Addr) (u : HO) : Prop := H a = some u ∨ ∃ o, H a = some (.frz o u)
theorem Rd.of {H : Hp} {a : Addr} {u : HO} (h : H a = some u) : Rd H a u := .inl h
theorem Rd.ok {P : Program} {w : World} {H : Hp} {h : Heap} {a : Addr} {u : HO} (r : Rd H a u) (x : HOk P w H h) : ObjOk P w H h a u := by
  rcases r with r | ⟨o, r⟩
  · exact x a u r
  · obtain ⟨_, q⟩ := x a _ r
    exact q
/-- what may be written -/
def Mut : Option HO → Prop
  | some (.lst _) => True
  | some (.dK _) => True
  | some (.dT _) => True
  | some (.set _ _) => True
  | some (.ins _ _ _) => True
  | some (.ext _) => True
  | _ => False
section
variable {P : Program} {w : World} {H : Hp} {h h' : Heap} {x e : Addr} {o' : HO}
/-- the object at e is changed: x itself, or the dict of the instance x -/
theorem HOk.write (ok : HOk P w H h) (mu : Mut (H x)) (he : e = x ∨ H e = some (.own x)) (k : ∀ b u, b ≠ e → h.get? b = some u → h'.get? b = some u) (heo : ∃ u, h'.get? e = some u)
    (new : ObjOk P w (upd H x o') h' x o') : HOk P w (upd H x o') h' := fun b u q => by
  have nown : ∀ c y, H c = some (.own y) → c ≠ x := fun c y r z => by subst z; rw [r] at mu; exact mu
  have ntup : ∀ c xs, H c = some (.tup xs) → c ≠ x := fun c xs r z => by subst z; rw [r] at mu; exact mu
  by_cases hb : b = x
  · subst hb; rw [upd_same] at q; cases q; exact new
  · rw [upd_ne hb] at q
    by_cases hbe : b = e
    · have q' : H b = some (.own x) := by
        rcases he with z | z
        · exact absurd (hbe.trans z) hb
        · rw [hbe]; exact z
      rw [q] at q'; cases q'
      obtain ⟨v, hv⟩ := heo
      exact ⟨v, by rw [hbe]; exact hv⟩
    · refine (ok b u q).stay (fun c v hc r => k c v ?_ r) (fun c r => by rw [upd_ne (nown c b r)]; exact r) fun c xs r => by rw [upd_ne (ntup c xs r)]; exact r
      rcases hc with rfl | hc
      · exact hbe
      · rintro rfl
        rcases he with z | z
        · exact nown c b hc z
        · rw [hc] at z; cases z; exact hb rfl
end

/-! ### kept unless tracked; of the frames at fs (the callers') the slots may change (an exception that passes writes there); of the records at ex (iterators) nothing is said -/
structure Un (fs ex : List Addr) (H H' : Hp) (h h' : Heap) : Prop where
  keep : ∀ b o, h.get? b = some o → H b = none → b ∉ fs → b ∉ ex → h'.get? b = some o
  slot : ∀ b o, h.get? b = some o → H b = none → b ∈ fs → b ∉ ex → ∃ sl, h'.get? b = some { o with slots := sl }
  free : ∀ b o, h.get? b = some o → H b = none → b ∉ ex → H' b = none
  there : ∀ b o, h.get? b = some o → b ∉ ex → ∃ o', h'.get? b = some o'
  tups : ∀ b xs, H b = some (.tup xs) → H' b = some (.tup xs)
  frzs : ∀ b o u, H b = some (.frz o u) → H' b = some (.frz o u)
  tbls : ∀ b ps, H b = some (.tbl ps) → ∃ more, H' b = some (.tbl (ps ++ more))
section
variable {fs fs' ex ex' : List Addr} {H H1 H2 : Hp} {h h1 h2 h' : Heap} {a x e : Addr} {o : HO}
theorem Un.any (u : Un fs ex H H1 h h1) {b : Addr} {ob : Obj} (q : h.get? b = some ob) (n : H b = none) (hx : b ∉ ex) : ∃ sl, h1.get? b = some { ob with slots := sl } := by
  by_cases hb : b ∈ fs
  · exact u.slot b ob q n hb hx
  · exact ⟨ob.slots, u.keep b ob q n hb hx⟩
theorem Un.trans (a : Un fs ex H H1 h h1) (b : Un fs ex H1 H2 h1 h2) : Un fs ex H H2 h h2 where
  keep := fun c ob q n hc hx => b.keep c ob (a.keep c ob q n hc hx) (a.free c ob q n hx) hc hx
  slot := fun c ob q n hc hx => by
    obtain ⟨sl, e1⟩ := a.slot c ob q n hc hx
    obtain ⟨sl', e2⟩ := b.slot c _ e1 (a.free c ob q n hx) hc hx
    exact ⟨sl', e2⟩
  free := fun c ob q n hx => by
    obtain ⟨o', e1⟩ := a.there c ob q hx
    exact b.free c o' e1 (a.free c ob q n hx) hx
  there := fun c ob q hx => by
    obtain ⟨o', e1⟩ := a.there c ob q hx
    exact b.there c o' e1 hx
  tups := fun c xs q => b.tups c xs (a.tups c xs q)
  frzs := fun c ob xs q => b.frzs c ob xs (a.frzs c ob xs q)
  tbls := fun c ps q => by
    obtain ⟨m1, e1⟩ := a.tbls c ps q
    obtain ⟨m2, e2⟩ := b.tbls c _ e1
    exact ⟨m1 ++ m2, by rw [e2, Array.append_assoc]⟩
theorem Un.kept (k : ∀ b u, h.get? b = some u → h'.get? b = some u) : Un fs ex H H h h' :=
  ⟨fun b ob q _ _ _ => k b ob q, fun b ob q _ _ _ => ⟨ob.slots, k b ob q⟩, fun _ _ _ n _ => n, fun b ob q _ => ⟨ob, k b ob q⟩, fun _ _ q => q, fun _ _ _ q => q, fun _ ps q => ⟨#[], by rw [q]; simp⟩⟩
theorem Un.refl : Un fs ex H H h h := Un.kept fun _ _ q => q
theorem Un.laid (k : ∀ b u, h.get? b = some u → h'.get? b = some u) (hp : h.objs.size ≤ a) (hn : H a = none) : Un fs ex H (upd H a o) h h' where
  keep := fun b u q _ _ _ => k b u q
  slot := fun b u q _ _ _ => ⟨u.slots, k b u q⟩
  free := fun b u q n _ => by rw [upd_ne (Nat.ne_of_lt (Nat.lt_of_lt_of_le (Heap.lt_size q) hp))]; exact n
  there := fun b u q _ => ⟨u, k b u q⟩
  tups := fun b xs q => by rw [upd_ne (ne_of_none q hn)]; exact q
  frzs := fun b u xs q => by rw [upd_ne (ne_of_none q hn)]; exact q
  tbls := fun b ps q => ⟨#[], by rw [upd_ne (ne_of_none q hn), q]; simp⟩
theorem Un.write (mu : Mut (H x)) (he : e = x ∨ H e = some (.own x)) (k : ∀ b u, b ≠ e → h.get? b = some u → h'.get? b = some u) (heo : ∃ u, h'.get? e = some u) : Un fs ex H (upd H x o) h h' := by
  have hx : ∀ b, H b = none → b ≠ x := fun b n z => by subst z; rw [n] at mu; exact mu
  have hb : ∀ b, H b = none → b ≠ e := fun b n z => by
    subst z
    rcases he with r | r
    · exact hx b n r
    · rw [n] at r; cases r
  have hm : ∀ b u, H b = some u → ¬ Mut (some u) → b ≠ x := fun b u q nm z => by subst z; rw [q] at mu; exact nm mu
  refine ⟨fun b u q n _ _ => k b u (hb b n) q, fun b u q n _ _ => ⟨u.slots, k b u (hb b n) q⟩, fun b u q n _ => by rw [upd_ne (hx b n)]; exact n, fun b u q _ => ?_,
    fun b xs q => by rw [upd_ne (hm b _ q fun z => z)]; exact q, fun b u xs q => by rw [upd_ne (hm b _ q fun z => z)]; exact q, fun b ps q => ⟨#[], by rw [upd_ne (hm b _ q fun z => z), q]; simp⟩⟩
  by_cases hbe : b = e
  · subst hbe; exact heo
  · exact ⟨u, k b u hbe q⟩
theorem Un.mono (u : Un fs ex H H1 h h1) (hs : ∀ b ∈ fs, b ∈ fs') (hx : ∀ b ∈ ex, b ∈ ex') : Un fs' ex' H H1 h h1 :=
  ⟨fun b ob q n hb he => u.keep b ob q n (fun z => hb (hs b z)) fun z => he (hx b z), fun _ _ q n _ he => u.any q n fun z => he (hx _ z), fun b ob q n he => u.free b ob q n fun z => he (hx b z), fun b ob q he => u.there b ob q fun z => he (hx b z), u.tups, u.frzs, u.tbls⟩
end

/-! ### the heap without what is tracked -/
def trk (h : Heap) (H : Hp) : List Addr := (List.range h.objs.size).filter fun a => (H a).isSome
def hidT (h : Heap) (H : Hp) : Heap := PySem.W.hideAll h (trk h H)
theorem hidT_size (h : Heap) (H : Hp) : (hidT h H).objs.size = h.objs.size := PySem.W.hideAll_size _ _
theorem hidT_get {h : Heap} {H : Hp} {b : Addr} {o : Obj} (e : h.get? b = some o) (n : H b = none) : (hidT h H).get? b = some o :=
  PySem.W.hideAll_get _ e fun hm => by
    have q : (H b).isSome = true := (List.mem_filter.mp hm).2
    rw [n] at q; simp at q
theorem of_hidT {h : Heap} {H : Hp} {b : Addr} {o : Obj} (e : (hidT h H).get? b = some o) : h.get? b = some o ∧ H b = none := by
  have e' : h.get? b = some o := PySem.W.of_hideAll (trk h H) e
  refine ⟨e', ?_⟩
  cases q : H b with
  | none => rfl
  | some x =>
    have hm : b ∈ trk h H := List.mem_filter.mpr ⟨List.mem_range.mpr (Heap.lt_size e'), by simp [q]⟩
    have z : (hidT h H).get? b = none := PySem.W.hideAll_none (trk h H) hm
    rw [z] at e; cases e

/-! ### OpenK's ledger, filled with every new object but one -/
def allNews (g h : Heap) (L : Addr) : List (Addr × Obj) := (List.range h.objs.size).filterMap fun a => if a = L ∨ (g.get? a).isSome = true then none else (h.get? a).map fun o => (a, o)
def rest (g h : Heap) (L d : Addr) : List (Addr × Obj) := (allNews g h L).filter fun p => decide (p.1 ≠ d)
end L2

namespace L2
open PySem PySem.Spec PyProof.Rows

/-- the module's facts, over the base: the heap at the law's entry without what is tracked there -/
structure Mod (K : PySem.W.Frag) (mg : Str → Option Value) (base : Heap) : Prop where
  kin : K.In base
  glob : base.Ns mainGlobals mg
  blt : ∃ mb, base.Ns builtinsNs mb ∧ ∀ x : Str, x ≠ "__name__" → mb x = bootBuiltins x
  nolimit : base.NoLimit

/-- the context: a def's body (or a comprehension's block) running. base: fixed through the whole law; s₀, H₀: the entry; outer: the frames whose slots others may change (a def's callers); stack: all frames that run;
   ex: iterators that were made ahead of the entry and are walked here (a comprehension's); fn: the names whose cells were made at the entry (a def: all; a comprehension's block: its own); calm: not within an except suite; pn: pins that every state bears; xe: what is wanted of an exception that leaves the code -/
structure Cx where
  prog : Program
  w : World
  K : PySem.W.Frag
  mg : Str → Option Value
  base : Heap
  A : Around
  N : List Str
  s₀ : Shared
  H₀ : Hp
  env : Env
  outer : List Env
  stack : List Env
  ex : List Addr
  fn : Str → Bool
  calm : Bool
  pn : List (Addr × Obj)
  xe : Value → Shared → Prop
/-- the callers' frames -/
def frs (l : List Env) : List Addr := l.filterMap (·.frame)
abbrev Cx.fs (X : Cx) : List Addr := frs X.outer

def Vis (sc : Scope) (x : Str) : Prop := sc.names.lookup x = some .local ∨ sc.names.lookup x = some .cell ∨ sc.names.lookup x = some .free
def Loc (sc : Scope) (x : Str) : Prop := sc.names.lookup x = some .local ∨ sc.names.lookup x = some .cell
def Look (env : Env) (h : Heap) (m : Str → Option Value) (x : Str) (u : Value) : Prop :=
  (env.kindOf x = some .local ∧ m x = some u) ∨ ((env.kindOf x = some .cell ∨ env.kindOf x = some .free) ∧ ∃ c, env.cells.lookup x = some c ∧ h.IsCell c (some u))

structure Cx.Ok (X : Cx) : Prop where
  mod : Mod X.K X.mg X.base
  kind : X.env.scope.kind = .function
  glob : X.env.globals = mainGlobals
  blt : X.env.builtins = builtinsNs
  above : X.s₀.heap.objs.size ≤ X.env.locals
  inj : ∀ x y c, X.env.cells.lookup x = some c → X.env.cells.lookup y = some c → x = y
  has : ∀ x, (X.env.kindOf x = some .cell ∨ X.env.kindOf x = some .free) → ∃ c, X.env.cells.lookup x = some c
  cab : ∀ x c, X.fn x = true → X.env.cells.lookup x = some c → X.s₀.heap.objs.size ≤ c
  hd : X.calm = true → X.A.handled = none
  frames : X.A.frames = some X.stack
  stk : X.stack = X.outer ∨ (X.stack = X.env :: X.outer ∧ X.env.frame = some X.env.locals)
  exf : ∀ b ∈ X.ex, b ≠ X.env.locals ∧ ∀ x c, X.env.cells.lookup x = some c → c ≠ b
  bs : ∀ b o, X.base.get? b = some o → X.s₀.heap.get? b = some o ∧ X.H₀ b = none
  bsz : X.base.objs.size ≤ X.s₀.heap.objs.size
  noex : ∀ b o, X.base.get? b = some o → b ∉ X.ex
  exfs : ∀ b ∈ X.ex, b ∉ X.fs
  funs : X.s₀.heap.FunFrames X.base X.outer
  frf : ∀ b ∈ X.fs, X.H₀ b = none

structure Inv (X : Cx) (pins : List (Addr × Obj)) (σ : List (Option V)) (H : Hp) (s : Shared) : Prop where
  ok : X.Ok
  os : s.os = X.s₀.os
  bare : AllBare s.gens
  base : Un X.fs X.ex X.H₀ H X.s₀.heap s.heap
  loc : ∃ m, s.heap.Ns X.env.locals m ∧ ∀ (i : Nat) (x : Str) (v : V), X.N[i]? = some x → σ[i]? = some (some v) → Vis X.env.scope x → ∃ u, RelV v u ∧ Look X.env s.heap m x u
  cell : ∀ x c, X.env.cells.lookup x = some c → ∃ v, s.heap.IsCell c v
  free : H X.env.locals = none
  freeC : ∀ x c, X.env.cells.lookup x = some c → H c = none
  pin : ∀ p ∈ X.pn ++ pins, s.heap.get? p.1 = some p.2 ∧ H p.1 = none ∧ p.1 ≠ X.env.locals ∧ p.1 ∉ X.fs ∧ ∀ v, p.2.data ≠ .cell v
  hok : HOk X.prog X.w H s.heap
  len : σ.length = X.N.length

section
variable {X : Cx} {pins : List (Addr × Obj)} {σ : List (Option V)} {H H' : Hp} {s : Shared} {h' : Heap}

theorem Cx.Ok.nofr (ok : X.Ok) {b : Addr} {o : Obj} (e : X.base.get? b = some o) : b ∉ X.fs := fun hb => by
  have := (ok.funs.mem hb).1
  rw [e] at this; cases this
theorem Inv.bs (I : Inv X pins σ H s) : ∀ b o, X.base.get? b = some o → s.heap.get? b = some o ∧ H b = none := fun b o e =>
  ⟨I.base.keep b o (I.ok.bs b o e).1 (I.ok.bs b o e).2 (I.ok.nofr e) (I.ok.noex b o e), I.base.free b o (I.ok.bs b o e).1 (I.ok.bs b o e).2 (I.ok.noex b o e)⟩
theorem Inv.bk (I : Inv X pins σ H s) : ∀ b o, X.base.get? b = some o → s.heap.get? b = some o := fun b o e => (I.bs b o e).1
theorem Inv.mod (I : Inv X pins σ H s) : Mod X.K X.mg X.base := I.ok.mod
theorem Inv.kIn (I : Inv X pins σ H s) : X.K.In s.heap := I.ok.mod.kin.keeps I.bk
theorem Inv.nolimit (I : Inv X pins σ H s) : s.heap.NoLimit := I.ok.mod.nolimit.keeps I.bk
/-- the frame over the base: for OpenK's rules (K.In X.base is I.mod.kin) -/
theorem Inv.fr (I : Inv X pins σ H s) : ∃ m, Fr X.base X.env.locals s.heap m :=
  let ⟨m, hn, _⟩ := I.loc
  ⟨m, hn, I.bk, Nat.le_trans I.ok.bsz I.ok.above⟩
theorem Inv.lt (I : Inv X pins σ H s) : X.env.locals < s.heap.objs.size := let ⟨_, hn, _⟩ := I.loc; hn.lt
theorem Inv.sz (I : Inv X pins σ H s) : X.s₀.heap.objs.size ≤ s.heap.objs.size := Nat.le_trans I.ok.above (Nat.le_of_lt I.lt)
theorem Inv.nofs (I : Inv X pins σ H s) {a : Addr} (h : s.heap.objs.size ≤ a) : a ∉ X.fs := fun hb => by
  obtain ⟨_, o, ho, _⟩ := I.ok.funs.mem hb
  exact absurd (Nat.lt_of_lt_of_le (Heap.lt_size ho) (Nat.le_trans I.sz h)) (Nat.lt_irrefl _)
theorem Inv.cne (I : Inv X pins σ H s) : ∀ x c, X.env.cells.lookup x = some c → c ≠ X.env.locals := fun x c e z => by
  obtain ⟨v, o, ho, hd⟩ := I.cell x c e
  obtain ⟨m, ⟨o', es, ep, ho', hd', _⟩, _⟩ := I.loc
  rw [z, ho'] at ho; cases ho; rw [hd'] at hd; cases hd
theorem Inv.funs (I : Inv X pins σ H s) : s.heap.FunFrames X.base X.outer := by
  have all : ∀ (l : List Env), (∀ b ∈ frs l, b ∈ X.fs) → X.s₀.heap.FunFrames X.base l → s.heap.FunFrames X.base l := by
    intro l
    induction l with
    | nil => intro _ _; trivial
    | cons env r ih =>
      intro hs hl
      obtain ⟨hk, ⟨L, o, hf, hn, ho, hd⟩, hr⟩ := hl
      have hL : L ∈ X.fs := hs L (by unfold frs; rw [List.filterMap_cons, hf]; exact List.mem_cons_self)
      obtain ⟨sl, e⟩ := I.base.slot L o ho (I.ok.frf L hL) hL fun z => I.ok.exfs L z hL
      exact ⟨hk, ⟨L, _, hf, hn, e, hd⟩, ih (fun b hb => hs b (by unfold frs; rw [List.filterMap_cons, hf]; exact List.mem_cons_of_mem _ hb)) hr⟩
  exact all X.outer (fun _ hb => hb) I.ok.funs

/-- the frames that run, for a call -/
theorem Inv.stack (I : Inv X pins σ H s) : s.heap.FunFrames X.base X.stack := by
  rcases I.ok.stk with e | ⟨e, hf⟩
  · rw [e]; exact I.funs
  · rw [e]
    obtain ⟨m, hn, _⟩ := I.loc
    refine .cons (by rw [I.ok.kind]; decide) hf hn ?_ I.funs
    exact Heap.get?_none_of_le (Nat.le_trans I.ok.bsz I.ok.above)
theorem Inv.stkSub (I : Inv X pins σ H s) : ∀ b ∈ frs X.stack, b ∈ X.env.locals :: X.fs := fun b hb => by
  rcases I.ok.stk with e | ⟨e, hf⟩
  · rw [e] at hb; exact List.mem_cons_of_mem _ hb
  · rw [e] at hb
    unfold frs at hb
    rw [List.filterMap_cons, hf] at hb
    exact hb
theorem Inv.stkFree (I : Inv X pins σ H s) : ∀ b ∈ frs X.stack, H b = none := fun b hb => by
  rcases List.mem_cons.mp (I.stkSub b hb) with e | hb
  · rw [e]; exact I.free
  · obtain ⟨_, o, ho, _⟩ := I.ok.funs.mem hb
    exact I.base.free b o ho (I.ok.frf b hb) fun z => I.ok.exfs b z hb

/-- THE STEP: the untracked objects but the frame and the records at ch are kept (the callers' frames up to slots), the frame's map is kept, the new abstract heap is held -/
theorem Inv.step {g' : Array GenState} {t' : Nat} {d' : Drawn} {ch : List Addr} (I : Inv X pins σ H s)
    (hch : ∀ b ∈ ch, (b ∈ X.ex ∨ X.s₀.heap.objs.size ≤ b) ∧ b ≠ X.env.locals ∧ (∀ x c, X.env.cells.lookup x = some c → c ≠ b) ∧ ∀ p ∈ X.pn ++ pins, p.1 ≠ b)
    (keep : ∀ b o, b ≠ X.env.locals → b ∉ X.fs → b ∉ ch → s.heap.get? b = some o → H b = none → h'.get? b = some o)
    (slot : ∀ b o, b ≠ X.env.locals → b ∈ X.fs → b ∉ ch → s.heap.get? b = some o → H b = none → ∃ sl, h'.get? b = some { o with slots := sl }) (free : ∀ b o, b ∉ ch → s.heap.get? b = some o → H b = none → H' b = none)
    (there : ∀ b o, b ∉ ch → s.heap.get? b = some o → ∃ o', h'.get? b = some o')
    (tups : ∀ b xs, H b = some (.tup xs) → H' b = some (.tup xs)) (frzs : ∀ b o u, H b = some (.frz o u) → H' b = some (.frz o u)) (tbls : ∀ b ps, H b = some (.tbl ps) → ∃ more, H' b = some (.tbl (ps ++ more)))
    (ns : ∀ m, s.heap.Ns X.env.locals m → h'.Ns X.env.locals m) (hok : HOk X.prog X.w H' h') (hg : AllBare g') :
    Inv X pins σ H' { s with heap := h', gens := g', drawn := d', toks := t' } := by
  have neL : ∀ b o, X.s₀.heap.get? b = some o → b ≠ X.env.locals := fun b o e => Nat.ne_of_lt (Nat.lt_of_lt_of_le (Heap.lt_size e) I.ok.above)
  have neC : ∀ b o, X.s₀.heap.get? b = some o → b ∉ X.ex → b ∉ ch := fun b o e hx hb => by
    rcases (hch b hb).1 with z | z
    · exact hx z
    · exact absurd (Nat.lt_of_lt_of_le (Heap.lt_size e) z) (Nat.lt_irrefl _)
  have cellK : ∀ x c, X.env.cells.lookup x = some c → ∀ v, s.heap.IsCell c v → h'.IsCell c v := fun x c e v ⟨o, ho, hd⟩ => by
    have nch : c ∉ ch := fun z => (hch c z).2.2.1 x c e rfl
    by_cases hc : c ∈ X.fs
    · obtain ⟨sl, q⟩ := slot c o (I.cne x c e) hc nch ho (I.freeC x c e)
      exact ⟨_, q, hd⟩
    · exact ⟨o, keep c o (I.cne x c e) hc nch ho (I.freeC x c e), hd⟩
  refine ⟨I.ok, I.os, hg, ⟨fun b o e n hb hx => ?_, fun b o e n hb hx => ?_, fun b o e n hx => ?_, fun b o e hx => ?_, fun b xs e => tups b xs (I.base.tups b xs e), fun b o xs e => frzs b o xs (I.base.frzs b o xs e), fun b ps e => ?_⟩, ?_, fun x c e => ?_, ?_, fun x c e => ?_, fun p hp => ?_, hok, I.len⟩
  · exact keep b o (neL b o e) hb (neC b o e hx) (I.base.keep b o e n hb hx) (I.base.free b o e n hx)
  · obtain ⟨sl, e1⟩ := I.base.slot b o e n hb hx
    obtain ⟨sl', e2⟩ := slot b _ (neL b o e) hb (neC b o e hx) e1 (I.base.free b o e n hx)
    exact ⟨sl', e2⟩
  · obtain ⟨o', e1⟩ := I.base.there b o e hx
    exact free b o' (neC b o e hx) e1 (I.base.free b o e n hx)
  · obtain ⟨o', e1⟩ := I.base.there b o e hx
    exact there b o' (neC b o e hx) e1
  · obtain ⟨m1, e1⟩ := I.base.tbls b ps e
    obtain ⟨m2, e2⟩ := tbls b _ e1
    exact ⟨m1 ++ m2, by rw [e2, Array.append_assoc]⟩
  · obtain ⟨m, hn, hl⟩ := I.loc
    refine ⟨m, ns m hn, fun i x v e1 e2 e3 => ?_⟩
    obtain ⟨u, r, l⟩ := hl i x v e1 e2 e3
    refine ⟨u, r, ?_⟩
    rcases l with l | ⟨k, c, e, z⟩
    · exact .inl l
    · exact .inr ⟨k, c, e, cellK x c e _ z⟩
  · obtain ⟨v, z⟩ := I.cell x c e
    exact ⟨v, cellK x c e v z⟩
  · obtain ⟨m, ⟨o, _, _, ho, _⟩, _⟩ := I.loc
    exact free _ o (fun z => (hch _ z).2.1 rfl) ho I.free
  · obtain ⟨v, o, ho, hd⟩ := I.cell x c e
    exact free c o (fun z => (hch c z).2.2.1 x c e rfl) ho (I.freeC x c e)
  · obtain ⟨e, n, ne, nf, d⟩ := I.pin p hp
    have nch : p.1 ∉ ch := fun z => (hch p.1 z).2.2.2 p hp rfl
    exact ⟨keep p.1 p.2 ne nf nch e n, free p.1 p.2 nch e n, ne, nf, d⟩
/-- .. where the frame's own object is kept too -/
theorem Inv.un {t' : Nat} (I : Inv X pins σ H s) (u : Un X.fs [] H H' s.heap h') (hok : HOk X.prog X.w H' h') : Inv X pins σ H' { s with heap := h', toks := t' } := by
  obtain ⟨m, ⟨o, es, ep, ho, r⟩, _⟩ := id I.loc
  obtain ⟨sl, hL⟩ := u.any ho I.free (by simp)
  exact I.step (g' := s.gens) (d' := s.drawn) (ch := []) (fun _ z => nomatch z) (fun b o _ hb _ e n => u.keep b o e n hb (by simp)) (fun b o _ hb _ e n => u.slot b o e n hb (by simp)) (fun b o _ e n => u.free b o e n (by simp)) (fun b o _ e => u.there b o e (by simp)) u.tups u.frzs u.tbls (fun m' hm => by
    obtain ⟨o', es', ep', ho', r'⟩ := hm
    rw [ho] at ho'; cases ho'
    exact ⟨_, es', ep', hL, r'⟩) hok I.bare
/-- behind a call (or a comprehension's block): the slots of this frame may have changed too, the records at ch may have turned -/
theorem Inv.call {g' : Array GenState} {t' : Nat} {d' : Drawn} {ch : List Addr} (I : Inv X pins σ H s) (u : Un (frs X.stack) ch H H' s.heap h') (hok : HOk X.prog X.w H' h') (hg : AllBare g')
    (hch : ∀ b ∈ ch, (b ∈ X.ex ∨ X.s₀.heap.objs.size ≤ b) ∧ b ≠ X.env.locals ∧ (∀ x c, X.env.cells.lookup x = some c → c ≠ b) ∧ ∀ p ∈ X.pn ++ pins, p.1 ≠ b) :
    Inv X pins σ H' { s with heap := h', gens := g', drawn := d', toks := t' } := by
  obtain ⟨m, ⟨o, es, ep, ho, r⟩, _⟩ := id I.loc
  obtain ⟨sl, hL⟩ := u.any ho I.free fun z => (hch _ z).2.1 rfl
  exact I.step (ch := ch) hch (fun b o hL hb hc e n => u.keep b o e n (fun z => (List.mem_cons.mp (I.stkSub b z)).elim hL hb) hc) (fun b o _ _ hc e n => u.any e n hc) (fun b o hc e n => u.free b o e n hc) (fun b o hc e => u.there b o e hc) u.tups u.frzs u.tbls (fun m' hm => by
    obtain ⟨o', es', ep', ho', r'⟩ := hm
    rw [ho] at ho'; cases ho'
    exact ⟨_, es', ep', hL, r'⟩) hok hg
/-- an untracked record of ours (an iterator) has turned -/
theorem Inv.turned {t' : Nat} {it : Addr} (I : Inv X pins σ H s) (k : ∀ b o, b ≠ it → s.heap.get? b = some o → h'.get? b = some o) (hn : H it = none) (hL : it ≠ X.env.locals)
    (h1 : it ∈ X.ex ∨ X.s₀.heap.objs.size ≤ it) (h2 : ∀ x c, X.env.cells.lookup x = some c → c ≠ it) (h3 : ∀ p ∈ X.pn ++ pins, p.1 ≠ it) : Inv X pins σ H { s with heap := h', toks := t' } := by
  have nit : ∀ b u, H b = some u → b ≠ it := fun b u e z => by rw [z, hn] at e; cases e
  refine I.step (g' := s.gens) (d' := s.drawn) (ch := [it]) (fun b hb => ?_) (fun b o _ _ hc e _ => k b o (fun z => hc (by simp [z])) e) (fun b o _ _ hc e _ => ⟨o.slots, k b o (fun z => hc (by simp [z])) e⟩) (fun _ _ _ _ n => n)
    (fun b o hc e => ⟨o, k b o (fun z => hc (by simp [z])) e⟩) (fun _ _ e => e) (fun _ _ _ e => e) (fun b ps e => ⟨#[], by rw [e]; simp⟩) (fun m hm => ?_) (fun b u e => ?_) I.bare
  · have e : b = it := by simpa using hb
    subst e
    exact ⟨h1, hL, h2, h3⟩
  · obtain ⟨o, es, ep, ho, r⟩ := hm
    exact ⟨o, es, ep, k _ o (Ne.symm hL) ho, r⟩
  · refine (I.hok b u e).stay (fun c v hc q => k c v ?_ q) (fun _ q => q) fun _ _ q => q
    rcases hc with z | z
    · rw [z]; exact nit b u e
    · exact nit c _ z
theorem Inv.tok (I : Inv X pins σ H s) (t : Nat) : Inv X pins σ H { s with toks := t } := I.un (h' := s.heap) (t' := t) Un.refl I.hok
/-- all objects kept -/
theorem Inv.kept {t' : Nat} (I : Inv X pins σ H s) (k : ∀ b u, s.heap.get? b = some u → h'.get? b = some u) : Inv X pins σ H { s with heap := h', toks := t' } := I.un (Un.kept k) (I.hok.kept k)
/-- a new object laid and tracked -/
theorem Inv.laid {a : Addr} {o : HO} {t' : Nat} (I : Inv X pins σ H s) (k : ∀ b u, s.heap.get? b = some u → h'.get? b = some u) (hp : s.heap.objs.size ≤ a) (new : ObjOk X.prog X.w (upd H a o) h' a o) :
    Inv X pins σ (upd H a o) { s with heap := h', toks := t' } := I.un (Un.laid k hp (I.hok.fresh hp)) (I.hok.laid k hp new)
/-- an object written -/
theorem Inv.write {x e : Addr} {o : HO} {t' : Nat} (I : Inv X pins σ H s) (mu : Mut (H x)) (he : e = x ∨ H e = some (.own x)) (k : ∀ b u, b ≠ e → s.heap.get? b = some u → h'.get? b = some u) (heo : ∃ u, h'.get? e = some u)
    (new : ObjOk X.prog X.w (upd H x o) h' x o) : Inv X pins σ (upd H x o) { s with heap := h', toks := t' } := I.un (Un.write mu he k heo) (I.hok.write mu he k heo new)
/-- forgetting slots, pins -/
theorem Inv.weak {σ' : List (Option V)} (I : Inv X pins σ H s) (hl : σ'.length = σ.length) (w : ∀ (i : Nat) v, σ'[i]? = some (some v) → σ[i]? = some (some v)) : Inv X pins σ' H s :=
  ⟨I.ok, I.os, I.bare, I.base, let ⟨m, hn, hl'⟩ := I.loc; ⟨m, hn, fun i x v e1 e2 e3 => hl' i x v e1 (w i v e2) e3⟩, I.cell, I.free, I.freeC, I.pin, I.hok, hl.trans I.len⟩
theorem Inv.pins_of {pins' : List (Addr × Obj)} (I : Inv X pins σ H s) (h : ∀ p ∈ pins', s.heap.get? p.1 = some p.2 ∧ H p.1 = none ∧ p.1 ≠ X.env.locals ∧ p.1 ∉ X.fs ∧ ∀ v, p.2.data ≠ .cell v) : Inv X pins' σ H s :=
  ⟨I.ok, I.os, I.bare, I.base, I.loc, I.cell, I.free, I.freeC, fun p hp => (List.mem_append.mp hp).elim (fun z => I.pin p (List.mem_append_left _ z)) (h p), I.hok, I.len⟩

theorem nodup_ix {N : List Str} (hN : N.Nodup) {i j : Nat} {x : Str} (a : N[i]? = some x) (b : N[j]? = some x) : i = j := by
  obtain ⟨h1, e1⟩ := List.getElem?_eq_some_iff.mp a
  obtain ⟨h2, e2⟩ := List.getElem?_eq_some_iff.mp b
  exact (List.getElem_inj hN).mp (e1.trans e2.symm)

/-- a name is stored; what changed -/
theorem store_ok2 {M : Model} {A : Around} {E : Value → Shared → Prop} {i : Nat} {x : Str} {v : V} {u : Value} {Q : Unit → Shared → Prop} (I : Inv X pins σ H s) (hN : X.N.Nodup) (hi : X.N[i]? = some x) (hx : Loc X.env.scope x) (r : RelV v u)
    (h : ∀ s', Inv X pins (σ.set i (some v)) H s' → (∃ a, Heap.SameBut a s.heap s'.heap ∧ (a = X.env.locals ∨ X.env.cells.lookup x = some a)) → Q () s') (hf : X.fn x = true ∨ X.env.scope.names.lookup x = some .local := by first | exact .inl rfl | exact .inr rfl | assumption) : wpAny M A (storeName X.env x u) Q E s := by
  obtain ⟨m, hn, hl⟩ := id I.loc
  have hcls : (X.env.scope.kind == .class || (X.env.scope.kind == .module && X.env.locals != X.env.globals)) = false := by rw [I.ok.kind]; rfl
  have hiσ : i < σ.length := by rw [I.len]; exact (List.getElem?_eq_some_iff.mp hi).1
  have cne := I.cne
  have tracked : ∀ {a : Addr} {h' : Heap}, (∃ o, s.heap.get? a = some o ∧ H a = none) → Heap.SameBut a s.heap h' → HOk X.prog X.w H h' := fun {a h'} ha hs b ob e => by
    obtain ⟨_, _, hfree⟩ := ha
    refine (I.hok b ob e).stay (fun c w' hc q => (hs.2 c ?_).trans q) (fun _ q => q) fun _ _ q => q
    rintro rfl
    rcases hc with rfl | hc
    · rw [hfree] at e; cases e
    · rw [hfree] at hc; cases hc
  rcases hx with hk | hk
  · refine wpAny_storeName_local hk hn (fun h' hn' hs => ?_) hcls
    obtain ⟨oL, _, _, hoL, _⟩ := id hn
    refine h _ ⟨I.ok, I.os, I.bare, ⟨fun b o e n hb hx => ?_, fun b o e n hb hx => ?_, I.base.free, fun b o e hx => ?_, I.base.tups, I.base.frzs, I.base.tbls⟩, ⟨_, hn', fun j y v' e1 e2 e3 => ?_⟩, fun y c e => ?_, I.free, I.freeC, fun p hp => ?_, tracked ⟨oL, hoL, I.free⟩ hs, by simpa using I.len⟩ ⟨_, hs, .inl rfl⟩
    · exact (hs.2 b (Nat.ne_of_lt (Nat.lt_of_lt_of_le (Heap.lt_size e) I.ok.above))).trans (I.base.keep b o e n hb hx)
    · obtain ⟨sl, e1⟩ := I.base.slot b o e n hb hx
      exact ⟨sl, (hs.2 b (Nat.ne_of_lt (Nat.lt_of_lt_of_le (Heap.lt_size e) I.ok.above))).trans e1⟩
    · obtain ⟨o', e1⟩ := I.base.there b o e hx
      exact ⟨o', (hs.2 b (Nat.ne_of_lt (Nat.lt_of_lt_of_le (Heap.lt_size e) I.ok.above))).trans e1⟩
    · by_cases hj : j = i
      · subst hj
        rw [hi] at e1; cases e1
        rw [List.getElem?_set_self hiσ] at e2
        cases e2
        exact ⟨u, r, .inl ⟨hk, by simp⟩⟩
      · rw [List.getElem?_set_ne (Ne.symm hj)] at e2
        obtain ⟨u', r', q⟩ := hl j y v' e1 e2 e3
        refine ⟨u', r', ?_⟩
        rcases q with ⟨k, e⟩ | ⟨k, c, e, z⟩
        · refine .inl ⟨k, ?_⟩
          have : y ≠ x := fun e => hj (nodup_ix hN e1 (e ▸ hi))
          simp [this, e]
        · exact .inr ⟨k, c, e, z.sameBut hs (cne y c e)⟩
    · obtain ⟨w', z⟩ := I.cell y c e
      exact ⟨w', z.sameBut hs (cne y c e)⟩
    · obtain ⟨e, n, ne, nf, d⟩ := I.pin p hp
      exact ⟨(hs.2 p.1 ne).trans e, n, ne, nf, d⟩
  · have hfn : X.fn x = true := by
      rcases hf with z | z
      · exact z
      · rw [z] at hk; cases hk
    obtain ⟨c, hc⟩ := I.ok.has x (.inl hk)
    obtain ⟨w', z⟩ := I.cell x c hc
    refine wpAny_storeName_cell I.ok.kind hk hc z (fun h' hc' hs => ?_)
    obtain ⟨oc, hoc, hocd⟩ := id z
    refine h { s with heap := h' } ⟨I.ok, I.os, I.bare, ⟨fun b o e n hb hx => ?_, fun b o e n hb hx => ?_, I.base.free, fun b o e hx => ?_, I.base.tups, I.base.frzs, I.base.tbls⟩, ⟨m, hn.sameBut hs (Ne.symm (cne x c hc)), fun j y v' e1 e2 e3 => ?_⟩, fun y c' e => ?_, I.free, I.freeC, fun p hp => ?_, tracked ⟨oc, hoc, I.freeC x c hc⟩ hs, by simpa using I.len⟩ ⟨c, hs, .inr hc⟩
    · exact (hs.2 b (Nat.ne_of_lt (Nat.lt_of_lt_of_le (Heap.lt_size e) (I.ok.cab x c hfn hc)))).trans (I.base.keep b o e n hb hx)
    · obtain ⟨sl, e1⟩ := I.base.slot b o e n hb hx
      exact ⟨sl, (hs.2 b (Nat.ne_of_lt (Nat.lt_of_lt_of_le (Heap.lt_size e) (I.ok.cab x c hfn hc)))).trans e1⟩
    · obtain ⟨o', e1⟩ := I.base.there b o e hx
      exact ⟨o', (hs.2 b (Nat.ne_of_lt (Nat.lt_of_lt_of_le (Heap.lt_size e) (I.ok.cab x c hfn hc)))).trans e1⟩
    · by_cases hj : j = i
      · subst hj
        rw [hi] at e1; cases e1
        rw [List.getElem?_set_self hiσ] at e2
        cases e2
        exact ⟨u, r, .inr ⟨.inl hk, c, hc, hc'⟩⟩
      · rw [List.getElem?_set_ne (Ne.symm hj)] at e2
        obtain ⟨u', r', q⟩ := hl j y v' e1 e2 e3
        refine ⟨u', r', ?_⟩
        rcases q with q | ⟨k, c', e, z'⟩
        · exact .inl q
        · refine .inr ⟨k, c', e, z'.sameBut hs ?_⟩
          rintro rfl
          exact hj (nodup_ix hN e1 (I.ok.inj _ _ _ e hc ▸ hi))
    · by_cases hcc : c' = c
      · subst hcc; exact ⟨_, hc'⟩
      · obtain ⟨w2, z2⟩ := I.cell y c' e
        exact ⟨w2, z2.sameBut hs hcc⟩
    · obtain ⟨e, n, ne, nf, d⟩ := I.pin p hp
      refine ⟨(hs.2 p.1 ?_).trans e, n, ne, nf, d⟩
      intro q
      rw [q, hoc] at e
      have q' : oc = p.2 := Option.some.inj e
      exact d w' (by rw [← q']; exact hocd)
theorem store_ok {M : Model} {A : Around} {E : Value → Shared → Prop} {i : Nat} {x : Str} {v : V} {u : Value} {Q : Unit → Shared → Prop} (I : Inv X pins σ H s) (hN : X.N.Nodup) (hi : X.N[i]? = some x) (hx : Loc X.env.scope x) (r : RelV v u)
    (h : ∀ s', Inv X pins (σ.set i (some v)) H s' → Q () s') (hf : X.fn x = true ∨ X.env.scope.names.lookup x = some .local := by first | exact .inl rfl | exact .inr rfl | assumption) : wpAny M A (storeName X.env x u) Q E s :=
  store_ok2 I hN hi hx r (fun s' I' _ => h s' I') hf
/-- behind a call or a block, the state as it is -/
theorem Inv.call' {s' : Shared} {ch : List Addr} (I : Inv X pins σ H s) (ho : s'.os = s.os) (u : Un (frs X.stack) ch H H' s.heap s'.heap) (hok : HOk X.prog X.w H' s'.heap) (hg : AllBare s'.gens)
    (hch : ∀ b ∈ ch, (b ∈ X.ex ∨ X.s₀.heap.objs.size ≤ b) ∧ b ≠ X.env.locals ∧ (∀ x c, X.env.cells.lookup x = some c → c ≠ b) ∧ ∀ p ∈ X.pn ++ pins, p.1 ≠ b) : Inv X pins σ H' s' := by
  obtain ⟨h', g', d', t', o'⟩ := s'
  have e : o' = s.os := ho
  subst e
  exact I.call (g' := g') (t' := t') (d' := d') u hok hg hch
end

/-! ### the judgements -/
/-- an exception: its class, its own dict's address (where it has one), the abstract heap behind it -/
abbrev XK := Value → Option Addr → Hp → Prop
abbrev St := List (Option V)
abbrev VK := V → Hp → Prop
/-- an expression's reading; a test's; an argument list's -/
abbrev TE := St → Hp → VK → Prop
abbrev TT := St → Hp → (Bool → Hp → Prop) → Prop
abbrev TA := St → Hp → (List V → Hp → Prop) → Prop
/-- what is wanted behind a statement -/
structure Ends where
  nx : St → Hp → Prop
  rt : VK
  bk : St → Hp → Prop := fun _ _ => False
  ct : St → Hp → Prop := fun _ _ => False
abbrev TS := Ends → St → Hp → Prop

def EP (X : Cx) (pins : List (Addr × Obj)) (σ : St) (Q : VK) (u : Value) (s' : Shared) : Prop := ∃ v H', Inv X pins σ H' s' ∧ RelV v u ∧ Q v H'
def TP (X : Cx) (pins : List (Addr × Obj)) (σ : St) (Q : Bool → Hp → Prop) (b : Bool) (s' : Shared) : Prop := ∃ H', Inv X pins σ H' s' ∧ Q b H'
def AP (X : Cx) (pins : List (Addr × Obj)) (σ : St) (Q : List V → Hp → Prop) (us : List Value) (s' : Shared) : Prop := ∃ vs H', Inv X pins σ H' s' ∧ Vals vs us ∧ Q vs H'
def SP (X : Cx) (pins : List (Addr × Obj)) (D : Ends) (f : Flow) (s' : Shared) : Prop :=
  match f with
  | .next => ∃ σ' H', Inv X pins σ' H' s' ∧ D.nx σ' H'
  | .brk => ∃ σ' H', Inv X pins σ' H' s' ∧ D.bk σ' H'
  | .cont => ∃ σ' H', Inv X pins σ' H' s' ∧ D.ct σ' H'
  | .ret u => ∃ v σ' H', Inv X pins σ' H' s' ∧ RelV v u ∧ D.rt v H'

def PE (X : Cx) (e : Expr) (t : TE) : Prop :=
  ∀ (pins : List (Addr × Obj)) (s : Shared) (σ : St) (H : Hp) (Q : VK), Inv X pins σ H s → t σ H Q → wpAny (model X.prog X.w) X.A (eval e X.env) (EP X pins σ Q) X.xe s
def PT (X : Cx) (e : Expr) (t : TT) : Prop :=
  ∀ (pins : List (Addr × Obj)) (s : Shared) (σ : St) (H : Hp) (Q : Bool → Hp → Prop), Inv X pins σ H s → t σ H Q → wpAny (model X.prog X.w) X.A (isTrue e X.env (eval e X.env)) (TP X pins σ Q) X.xe s
/-- a test whatever its 'whole' is (and, or) -/
def PW (X : Cx) (e : Expr) (t : TT) : Prop :=
  ∀ (whole : Sem Value) (pins : List (Addr × Obj)) (s : Shared) (σ : St) (H : Hp) (Q : Bool → Hp → Prop), Inv X pins σ H s → t σ H Q → wpAny (model X.prog X.w) X.A (isTrue e X.env whole) (TP X pins σ Q) X.xe s
theorem PW.pt {X : Cx} {e : Expr} {t : TT} (h : PW X e t) : PT X e t := h _
/-- an argument list (no star), from the left -/
def PA (X : Cx) (es : List Expr) (t : TA) : Prop :=
  ∀ (pos : Pos) (pins : List (Addr × Obj)) (s : Shared) (σ : St) (H : Hp) (Q : List V → Hp → Prop), Inv X pins σ H s → t σ H Q → wpAny (model X.prog X.w) X.A (spliced (backTo pos (starEach es X.env))) (AP X pins σ Q) X.xe s
def PS (X : Cx) (st : Stmt) (t : TS) : Prop :=
  ∀ (pins : List (Addr × Obj)) (s : Shared) (σ : St) (H : Hp) (D : Ends), Inv X pins σ H s → t D σ H → wpAny (model X.prog X.w) X.A (exec st X.env) (SP X pins D) X.xe s
def PSs (X : Cx) (st : List Stmt) (t : TS) : Prop :=
  ∀ (pins : List (Addr × Obj)) (s : Shared) (σ : St) (H : Hp) (D : Ends), Inv X pins σ H s → t D σ H → wpAny (model X.prog X.w) X.A (execs st X.env) (SP X pins D) X.xe s
/-- weaken the end -/
theorem thn {α : Type} {t : Sem α} {Q Q' : α → Shared → Prop} {M : Model} {A : Around} {E : Value → Shared → Prop} {s : Shared} (h : wpAny M A t Q E s) (hQ : ∀ a s, Q a s → Q' a s) : wpAny M A t Q' E s := wpAny_mono h hQ fun _ _ x => x
end L2

namespace L2
open PySem PySem.Spec PyProof.Rows
section
variable {X : Cx}

/-! ### names and constants -/
def tVar (i : Nat) : TE := fun σ H Q => ∃ v, σ[i]? = some (some v) ∧ Q v H
def tC (v : V) : TE := fun _ H Q => Q v H
theorem pe_var {i : Nat} {x : Str} {pos : Pos} (hN : X.N[i]? = some x) (hv : Vis X.env.scope x) (hd : (x == ("__debug__" : Str)) = false := by decide) (hcd : (x == ("__classdict__" : Str)) = false := by decide) : PE X (.Name x pos) (tVar i) := by
  intro pins s σ H Q I h
  obtain ⟨v, e, h⟩ := h
  obtain ⟨m, hn, hl⟩ := I.loc
  obtain ⟨u, r, l⟩ := hl i x v hN e hv
  have fin : EP X pins σ Q u s := ⟨v, H, I, r, h⟩
  rcases l with ⟨hk, hm⟩ | ⟨hk, c, hc, hcell⟩
  · exact wpAny_Name (wpAny_loadName_local I.ok.kind hk hn hm fin) hd
  · rcases hk with hk | hk
    · exact wpAny_Name (wpAny_loadName_cell I.ok.kind hk hc hcell fin) hd
    · exact wpAny_Name (wpAny_loadName_free I.ok.kind hk hc hcell fin hcd) hd
theorem pe_int {i j pos} : PE X (.Constant (.int i) j pos) (tC (.int i)) := fun _ _ _ H _ I h => wpAny_Constant_int ⟨.int i, H, I.tok _, ⟨_, rfl⟩, h⟩
theorem pe_bl {b j pos} : PE X (.Constant (.bool b) j pos) (tC (.bl b)) := fun _ _ _ H _ I h => Constant_bool ⟨.bl b, H, I, rfl, h⟩
theorem pe_non {j pos} : PE X (.Constant .none j pos) (tC .non) := fun _ _ _ H _ I h => Constant_none ⟨.non, H, I, rfl, h⟩
theorem pe_str {x j pos} : PE X (.Constant (.str x) j pos) (tC (.str x)) := fun _ _ _ H _ I h => Calls.Constant_str ⟨.str x, H, I.tok _, ⟨_, rfl⟩, h⟩

/-- a global name of the def -/
def Gl (X : Cx) (x : Str) : Prop := X.env.kindOf x = some .globalImplicit
theorem ld_glob {E : Value → Shared → Prop} {pins : List (Addr × Obj)} {s : Shared} {σ : St} {H : Hp} {x : Str} {u : Value} {pos : Pos} {Q : Value → Shared → Prop} (I : Inv X pins σ H s) (hg : Gl X x) (hm : X.mg x = some u) (h : Q u s)
    (hd : (x == ("__debug__" : Str)) = false := by decide) : wpAny (model X.prog X.w) X.A (eval (.Name x pos) X.env) Q E s :=
  Calls.Name_function_global I.ok.kind hg (Calls.loadGlobal_global (by rw [I.ok.glob]; exact I.mod.glob.keeps I.bk) hm h) hd
theorem ld_blt {E : Value → Shared → Prop} {pins : List (Addr × Obj)} {s : Shared} {σ : St} {H : Hp} {x : Str} {u : Value} {pos : Pos} {Q : Value → Shared → Prop} (I : Inv X pins σ H s) (hg : Gl X x) (hm : X.mg x = none) (hv : bootBuiltins x = some u) (h : Q u s)
    (hn : x ≠ "__name__" := by decide) (hd : (x == ("__debug__" : Str)) = false := by decide) : wpAny (model X.prog X.w) X.A (eval (.Name x pos) X.env) Q E s := by
  obtain ⟨mb, h1, h2⟩ := I.mod.blt
  exact Calls.Name_function_global I.ok.kind hg (Calls.loadGlobal_builtin (by rw [I.ok.glob]; exact I.mod.glob.keeps I.bk) hm (by rw [I.ok.blt]; exact h1.keeps I.bk) ((h2 x hn).trans hv) h) hd
/-- a module's constant, a class, a function, as a value -/
theorem pe_glob {x : Str} {v : V} {u : Value} {pos : Pos} (hg : Gl X x) (hm : X.mg x = some u) (r : RelV v u) (hd : (x == ("__debug__" : Str)) = false := by decide) : PE X (.Name x pos) (tC v) :=
  fun _ _ _ H _ I h => ld_glob I hg hm ⟨v, H, I, r, h⟩ hd
theorem pe_bltn {x : Str} {v : V} {u : Value} {pos : Pos} (hg : Gl X x) (hm : X.mg x = none) (hv : bootBuiltins x = some u) (r : RelV v u) (hn : x ≠ "__name__" := by decide) (hd : (x == ("__debug__" : Str)) = false := by decide) : PE X (.Name x pos) (tC v) :=
  fun _ _ _ H _ I h => ld_blt I hg hm hv ⟨v, H, I, r, h⟩ hn hd

/-! ### arithmetic -/
variable {a b : Expr} {ta tb : TE} {pos : Pos}
/-! ### comparisons -/
def PC (X : Cx) (op : CmpOp) (a b : Expr) (t : TE) : Prop :=
  ∀ (pins : List (Addr × Obj)) (s : Shared) (σ : St) (H : Hp) (Q : VK), Inv X pins σ H s → t σ H Q →
    wpAny (model X.prog X.w) X.A (eval a X.env) (fun v s₁ => wpAny (model X.prog X.w) X.A (eval b X.env) (fun u s₂ => wpAny (model X.prog X.w) X.A (compareOp op v u) (EP X pins σ Q) X.xe s₂) X.xe s₁) X.xe s
theorem nobehind (b : Expr) {op : CmpOp} (h : op ≠ .In) (h2 : op ≠ .NotIn) : behindInMarks op b = false := by
  have e1 : (op == CmpOp.In) = false := by cases op <;> first | rfl | exact absurd rfl h
  have e2 : (op == CmpOp.NotIn) = false := by cases op <;> first | rfl | exact absurd rfl h2
  cases b <;> simp [behindInMarks, e1, e2]
/-- a comparison as a value, as a test -/
def tB (t : TE) : TT := fun σ H Q => t σ H fun x H1 => ∃ c, x = .bl c ∧ Q c H1
theorem pe_cmp {op : CmpOp} {t : TE} (h : PC X op a b t) (h1 : behindInMarks op b = false := by first | exact nobehind _ (by decide) (by decide) | rfl) : PE X (.Compare a [op] [b] pos) t := fun pins s σ H Q I hw => wpAny_Compare1 (h pins s σ H Q I hw) h1
/-- an expression whose value is a bool, as a test -/
theorem pt_val {e : Expr} {t : TE} (h : PE X e t) (he : ∀ whole, isTrue e X.env whole = (do let v ← whole; standAt e.pos; holding [v] (truthy v)) := by intro _; rfl) : PT X e (tB t) := by
  intro pins s σ H Q I hw
  refine isTrue_plain (thn (h pins s σ H _ I hw) fun v s1 ⟨x, H1, I1, r1, q1⟩ => ?_) (he _)
  obtain ⟨d, rfl, q⟩ := q1
  cases r1
  exact wpAny_truthy_bool ⟨H1, I1, q⟩

/-! ### and, or, not -/
variable {tA tB' : TT} {rest : List Expr}
def tAnd (t u : TT) : TT := fun σ H Q => t σ H fun c H1 => if c = true then u σ H1 Q else Q false H1
def tOr (t u : TT) : TT := fun σ H Q => t σ H fun c H1 => if c = true then Q true H1 else u σ H1 Q
def tNot (t : TT) : TT := fun σ H Q => t σ H fun c H1 => Q (!c) H1
theorem pw_and1 (ha : PT X a tA) : PW X (.BoolOp .And [a] pos) tA := by
  intro wh pins s σ H Q I h
  refine isTrue_and (thn (ha pins s σ H Q I h) fun c s1 e => ?_)
  cases c with
  | true => exact isTrue_and_nil e
  | false => exact e
theorem pw_or1 (ha : PT X a tA) : PW X (.BoolOp .Or [a] pos) tA := by
  intro wh pins s σ H Q I h
  refine isTrue_or (thn (ha pins s σ H Q I h) fun c s1 e => ?_)
  cases c with
  | false => exact isTrue_or_nil e
  | true => exact e
theorem pw_and (ha : PT X a tA) (hb : PW X (.BoolOp .And (b :: rest) pos) tB') : PW X (.BoolOp .And (a :: b :: rest) pos) (tAnd tA tB') := by
  intro wh pins s σ H Q I h
  refine isTrue_and (thn (ha pins s σ H _ I h) fun c s1 ⟨H1, I1, q1⟩ => ?_)
  cases c with
  | true => exact hb wh pins s1 σ H1 Q I1 q1
  | false => exact ⟨H1, I1, q1⟩
theorem pw_or (ha : PT X a tA) (hb : PW X (.BoolOp .Or (b :: rest) pos) tB') : PW X (.BoolOp .Or (a :: b :: rest) pos) (tOr tA tB') := by
  intro wh pins s σ H Q I h
  refine isTrue_or (thn (ha pins s σ H _ I h) fun c s1 ⟨H1, I1, q1⟩ => ?_)
  cases c with
  | true => exact ⟨H1, I1, q1⟩
  | false => exact hb wh pins s1 σ H1 Q I1 q1
theorem pt_not (ha : PT X a tA) : PT X (.UnaryOp .Not a pos) (tNot tA) := by
  intro pins s σ H Q I h
  exact isTrue_not (ha pins s σ H (fun c H1 => Q (!c) H1) I h)
/-- .. as values (bools) -/
def tAndV (ta tb : TE) : TE := fun σ H Q => ta σ H fun x H1 => ∃ c, x = .bl c ∧ if c = true then tb σ H1 Q else Q (.bl false) H1
def tOrV (ta tb : TE) : TE := fun σ H Q => ta σ H fun x H1 => ∃ c, x = .bl c ∧ if c = true then Q (.bl true) H1 else tb σ H1 Q
def tNotV (ta : TE) : TE := fun σ H Q => ta σ H fun x H1 => ∃ c, x = .bl c ∧ Q (.bl (!c)) H1
theorem pe_one {op} {t : TE} (h : PE X a t) : PE X (.BoolOp op [a] pos) t := fun pins s σ H Q I hw => BoolOp_one (h pins s σ H Q I hw)
theorem pe_and (ha : PE X a ta) (hb : PE X (.BoolOp .And (b :: rest) pos) tb) : PE X (.BoolOp .And (a :: b :: rest) pos) (tAndV ta tb) := by
  intro pins s σ H Q I h
  refine BoolOp_and (thn (ha pins s σ H _ I h) fun v s1 ⟨x, H1, I1, r1, q1⟩ => ?_)
  obtain ⟨c, rfl, q1⟩ := q1
  cases r1
  refine wpAny_truthy_bool ?_
  cases c with
  | true => exact hb pins s1 σ H1 Q I1 q1
  | false => exact ⟨.bl false, H1, I1, rfl, q1⟩
theorem pe_or (ha : PE X a ta) (hb : PE X (.BoolOp .Or (b :: rest) pos) tb) : PE X (.BoolOp .Or (a :: b :: rest) pos) (tOrV ta tb) := by
  intro pins s σ H Q I h
  refine BoolOp_or (thn (ha pins s σ H _ I h) fun v s1 ⟨x, H1, I1, r1, q1⟩ => ?_)
  obtain ⟨c, rfl, q1⟩ := q1
  cases r1
  refine wpAny_truthy_bool ?_
  cases c with
  | false => exact hb pins s1 σ H1 Q I1 q1
  | true => exact ⟨.bl true, H1, I1, rfl, q1⟩
theorem pe_not (ha : PE X a ta) : PE X (.UnaryOp .Not a pos) (tNotV ta) := by
  intro pins s σ H Q I h
  refine UnaryOp_ (thn (ha pins s σ H _ I h) fun v s1 ⟨x, H1, I1, r1, q1⟩ => ?_)
  obtain ⟨c, rfl, q1⟩ := q1
  cases r1
  exact not_of (wpAny_truthy_bool ⟨.bl (!c), H1, I1, rfl, q1⟩)
/-- a if t else b -/
def tIf (t : TT) (ta tb : TE) : TE := fun σ H Q => t σ H fun c H1 => if c = true then ta σ H1 Q else tb σ H1 Q
end
end L2

namespace L2
open PySem PySem.Spec PyProof.Rows

/-! ### a list, a tuple that is read: tracked, frozen, or an object of the module -/
def SqL (K : PySem.W.Frag) (H : Hp) (a : Addr) (xs : List V) : Prop :=
  Rd H a (.lst xs) ∨
    ∃ (o : Obj) (its : Array Value) (n : Nat), K.lookup a = some o ∧ o.cls = .type "list" ∧ o.dict = none ∧ o.data = .seq its n ∧ its.size ≤ sizeLine ∧ Vals xs its.toList
def SqT (K : PySem.W.Frag) (H : Hp) (a : Addr) (xs : List V) : Prop :=
  Rd H a (.tup xs) ∨
    ∃ (o : Obj) (its : Array Value) (n : Nat), K.lookup a = some o ∧ o.cls = .type "tuple" ∧ o.data = .seq its n ∧ its.size ≤ sizeLine ∧ Vals xs its.toList
def absV : Value → Option V
  | .none => some .non
  | .bool b => some (.bl b)
  | .int i _ => some (.int i)
  | .str x _ => some (.str x)
  | .bytes b _ => some (.byt b)
  | .float b _ => some (.flt b)
  | .ref a => some (.ref a)
  | .type n => some (.ty n)
  | _ => none
theorem RelV.abs {x : V} {u : Value} (r : RelV x u) : absV u = some x := by
  cases x with
  | non => cases r; rfl
  | bl _ => cases r; rfl
  | int _ => obtain ⟨t, rfl⟩ := r; rfl
  | str _ => obtain ⟨t, rfl⟩ := r; rfl
  | byt _ => obtain ⟨t, rfl⟩ := r; rfl
  | flt _ => obtain ⟨t, rfl⟩ := r; rfl
  | ref _ => cases r; rfl
  | ty _ => cases r; rfl
theorem RelV.inj {x y : V} {u : Value} (r : RelV x u) (q : RelV y u) : x = y := Option.some.inj (r.abs.symm.trans q.abs)
theorem Vals.inj : ∀ {xs ys : List V} {us : List Value}, Vals xs us → Vals ys us → xs = ys
  | _, _, _, .nil, .nil => rfl
  | _, _, _, .cons r t, .cons r' t' => by rw [r.inj r', Vals.inj t t']
section
variable {X : Cx} {pins : List (Addr × Obj)} {σ : St} {H : Hp} {s : Shared} {a : Addr} {xs ys : List V}
theorem SqL.of {K : PySem.W.Frag} (h : H a = some (.lst xs)) : SqL K H a xs := .inl (.inl h)
theorem SqT.of {K : PySem.W.Frag} (h : H a = some (.tup xs)) : SqT K H a xs := .inl (.inl h)
theorem Inv.list (I : Inv X pins σ H s) (h : SqL X.K H a xs) : ∃ its : List Value, Vals xs its ∧ PlainL s.heap a its.toArray ∧ xs.length ≤ sizeLine := by
  rcases h with h | ⟨o, its, n, hk, hc, hd, hs, hz, r⟩
  · obtain ⟨z, its, n, r, e⟩ := h.ok I.hok
    exact ⟨its, r, ⟨_, n, e, rfl, rfl, rfl⟩, z⟩
  · refine ⟨its.toList, r, ⟨o, n, I.kIn a o hk, hc, hd, by simpa using hs⟩, ?_⟩
    have e := r.length
    simp only [Array.length_toList] at e
    omega
theorem Inv.tuple (I : Inv X pins σ H s) (h : SqT X.K H a xs) : ∃ its : List Value, Vals xs its ∧ IsTup s.heap a its.toArray ∧ xs.length ≤ sizeLine := by
  rcases h with h | ⟨o, its, n, hk, hc, hs, hz, r⟩
  · obtain ⟨z, its, r, p⟩ := h.ok I.hok
    exact ⟨its, r, p, z⟩
  · refine ⟨its.toList, r, ⟨o, I.kIn a o hk, hc, n, by simpa using hs⟩, ?_⟩
    have e := r.length
    simp only [Array.length_toList] at e
    omega
theorem Inv.list_inj (I : Inv X pins σ H s) (h : SqL X.K H a xs) (h' : SqL X.K H a ys) : xs = ys := by
  obtain ⟨its, r, ⟨o, n, e, _, _, d⟩, _⟩ := I.list h
  obtain ⟨its', r', ⟨o', n', e', _, _, d'⟩, _⟩ := I.list h'
  rw [e] at e'; cases e'
  rw [d] at d'
  injection d' with d1 _
  have : its = its' := by simpa using congrArg Array.toList d1
  subst this
  exact r.inj r'
theorem Inv.tuple_inj (I : Inv X pins σ H s) (h : SqT X.K H a xs) (h' : SqT X.K H a ys) : xs = ys := by
  obtain ⟨its, r, ⟨o, e, _, n, d⟩, _⟩ := I.tuple h
  obtain ⟨its', r', ⟨o', e', _, n', d'⟩, _⟩ := I.tuple h'
  rw [e] at e'; cases e'
  rw [d] at d'
  injection d' with d1 _
  have : its = its' := by simpa using congrArg Array.toList d1
  subst this
  exact r.inj r'
end

/-! ### another wish about exceptions -/
abbrev Cx.wish (X : Cx) (E : Value → Shared → Prop) : Cx := { X with xe := E }
/-- no exception leaves -/
abbrev Cx.nox (X : Cx) : Cx := X.wish fun _ _ => False
theorem Cx.Ok.wish {X : Cx} (ok : X.Ok) (E : Value → Shared → Prop) : (X.wish E).Ok :=
  ⟨ok.mod, ok.kind, ok.glob, ok.blt, ok.above, ok.inj, ok.has, ok.cab, ok.hd, ok.frames, ok.stk, ok.exf, ok.bs, ok.bsz, ok.noex, ok.exfs, ok.funs, ok.frf⟩
theorem Cx.Ok.unwish {X : Cx} {E : Value → Shared → Prop} (ok : (X.wish E).Ok) : X.Ok :=
  ⟨ok.mod, ok.kind, ok.glob, ok.blt, ok.above, ok.inj, ok.has, ok.cab, ok.hd, ok.frames, ok.stk, ok.exf, ok.bs, ok.bsz, ok.noex, ok.exfs, ok.funs, ok.frf⟩
section
variable {X : Cx} {pins : List (Addr × Obj)} {σ : St} {H : Hp} {s : Shared} {E : Value → Shared → Prop}
theorem Inv.wish (I : Inv X pins σ H s) (E : Value → Shared → Prop) : Inv (X.wish E) pins σ H s := ⟨I.ok.wish E, I.os, I.bare, I.base, I.loc, I.cell, I.free, I.freeC, I.pin, I.hok, I.len⟩
theorem Inv.unwish (I : Inv (X.wish E) pins σ H s) : Inv X pins σ H s := ⟨I.ok.unwish, I.os, I.bare, I.base, I.loc, I.cell, I.free, I.freeC, I.pin, I.hok, I.len⟩
theorem SP.unwish {D : Ends} {f : Flow} {s' : Shared} (h : SP (X.wish E) pins D f s') : SP X pins D f s' := by
  cases f with
  | next => obtain ⟨σ', H', I, q⟩ := h; exact ⟨σ', H', I.unwish, q⟩
  | brk => obtain ⟨σ', H', I, q⟩ := h; exact ⟨σ', H', I.unwish, q⟩
  | cont => obtain ⟨σ', H', I, q⟩ := h; exact ⟨σ', H', I.unwish, q⟩
  | ret u => obtain ⟨v, σ', H', I, r, q⟩ := h; exact ⟨v, σ', H', I.unwish, r, q⟩
theorem PE.nox {e : Expr} {t : TE} (h : PE X.nox e t) : PE X e t := fun pins s σ H Q I hw =>
  wpAny_mono (h pins s σ H Q (I.wish _) hw) (fun _ _ ⟨v, H', I', r, q⟩ => ⟨v, H', I'.unwish, r, q⟩) fun _ _ z => False.elim z
theorem PT.nox {e : Expr} {t : TT} (h : PT X.nox e t) : PT X e t := fun pins s σ H Q I hw =>
  wpAny_mono (h pins s σ H Q (I.wish _) hw) (fun _ _ ⟨H', I', q⟩ => ⟨H', I'.unwish, q⟩) fun _ _ z => False.elim z
theorem PSs.nox {st : List Stmt} {t : TS} (h : PSs X.nox st t) : PSs X st t := fun pins s σ H D I hw =>
  wpAny_mono (h pins s σ H D (I.wish _) hw) (fun _ _ q => q.unwish) fun _ _ z => False.elim z
end

/-! ### blocks and small statements -/
section
variable {X : Cx} {st : Stmt} {rest : List Stmt} {t u : TS} {e : Expr} {te : TE} {pos : Pos}
def tNext : TS := fun D σ H => D.nx σ H
def tSeq (t u : TS) : TS := fun D σ H => t { D with nx := u D } σ H
theorem pss_nil : PSs X [] tNext := fun _ _ σ H _ I h => wpAny_execs_nil ⟨σ, H, I, h⟩
theorem pss_cons (h1 : PS X st t) (h2 : PSs X rest u) : PSs X (st :: rest) (tSeq t u) := by
  intro pins s σ H D I h
  refine wpAny_execs_cons (thn (h1 pins s σ H { D with nx := u D } I h) fun f s1 q => ?_)
  cases f with
  | next =>
    obtain ⟨σ', H', I', q⟩ := q
    exact h2 pins s1 σ' H' D I' q
  | ret v => exact q
  | brk => exact q
  | cont => exact q
theorem pss_one (h1 : PS X st t) : PSs X [st] t := by
  intro pins s σ H D I h
  refine wpAny_execs_cons (thn (h1 pins s σ H D I h) fun f s1 q => ?_)
  cases f with
  | next => exact wpAny_execs_nil q
  | ret v => exact q
  | brk => exact q
  | cont => exact q
/-- in a def's body nothing is shown -/
theorem Inv.quiet {pins : List (Addr × Obj)} {σ : St} {H : Hp} {s : Shared} (I : Inv X pins σ H s) : interactive X.env = false := by simp [interactive, I.ok.kind]
/-- an expression whose value is dropped -/
def tDrop (te : TE) : TS := fun D σ H => te σ H fun _ H1 => D.nx σ H1
theorem ps_expr (he : PE X e te) (hs : swapsWith e none pos.line X.env = pure false := by rfl) : PS X (.Expr e pos) (tDrop te) := by
  intro pins s σ H D I h
  exact wpAny_Expr_any (thn (he pins s σ H _ I h) fun v s1 ⟨x, H1, I1, r1, q1⟩ => ⟨σ, H1, I1, q1⟩) I.quiet hs
def tRet (te : TE) : TS := fun D σ H => te σ H D.rt
theorem ps_ret (he : PE X e te) : PS X (.Return (some e) pos) (tRet te) := by
  intro pins s σ H D I h
  exact wpAny_Return_some (thn (he pins s σ H _ I h) fun v s1 ⟨x, H1, I1, r1, q1⟩ => ⟨x, σ, H1, I1, r1, q1⟩)
def tRetN : TS := fun D _ H => D.rt .non H
def tIfS (c : TT) (t u : TS) : TS := fun D σ H => c σ H fun b H1 => if b = true then t D σ H1 else u D σ H1
theorem ps_if {c : Expr} {a b : List Stmt} {tc : TT} (hc : PT X c tc) (ha : PSs X a t) (hb : PSs X b u) : PS X (.If c a b pos) (tIfS tc t u) := by
  intro pins s σ H D I h
  refine wpAny_If (thn (hc pins s σ H _ I h) fun d s1 ⟨H1, I1, q1⟩ => ?_)
  cases d with
  | true => exact ha pins s1 σ H1 D I1 q1
  | false => exact hb pins s1 σ H1 D I1 q1
/-- code that the proof never comes to -/
def tNever : TS := fun _ _ _ => False
theorem ps_never : PS X st tNever := fun _ _ _ _ _ _ h => h.elim
end

/-! ### targets -/
abbrev TG := V → St → Hp → (St → Hp → Prop) → Prop
abbrev TGs := List V → St → Hp → (St → Hp → Prop) → Prop
def PG (X : Cx) (target : Expr) (t : TG) : Prop :=
  ∀ (pins : List (Addr × Obj)) (s : Shared) (σ : St) (H : Hp) (v : V) (u : Value) (Q : St → Hp → Prop), Inv X pins σ H s → RelV v u → t v σ H Q →
    wpAny (model X.prog X.w) X.A (assign target X.env u) (fun _ s' => ∃ σ' H', Inv X pins σ' H' s' ∧ Q σ' H') X.xe s
/-- several targets, one after another -/
def PGs (X : Cx) (ts : List Expr) (t : TGs) : Prop :=
  ∀ (pins : List (Addr × Obj)) (s : Shared) (σ : St) (H : Hp) (vs : List V) (us : List Value) (Q : St → Hp → Prop), Inv X pins σ H s → Vals vs us → t vs σ H Q →
    wpAny (model X.prog X.w) X.A (assignInOrder ((assignEach ts X.env).map (·.2)) us) (fun _ s' => ∃ σ' H', Inv X pins σ' H' s' ∧ Q σ' H') X.xe s
/-- a op= b, by values -/
abbrev TIp := V → V → Hp → VK → Prop
def PIp (X : Cx) (op : Operator) (t : TIp) : Prop :=
  ∀ (pins : List (Addr × Obj)) (s : Shared) (σ : St) (H : Hp) (x y : V) (v u : Value) (Q : VK), Inv X pins σ H s → RelV x v → RelV y u → t x y H Q →
    wpAny (model X.prog X.w) X.A (inplaceOp op v u) (EP X pins σ Q) X.xe s
section
variable {X : Cx} {pos : Pos}
def gName (i : Nat) : TG := fun v σ H Q => Q (σ.set i (some v)) H
theorem pg_name {i : Nat} {x : Str} (hN : X.N.Nodup) (hi : X.N[i]? = some x) (hx : Loc X.env.scope x) (hf : X.fn x = true ∨ X.env.scope.names.lookup x = some .local := by first | exact .inl rfl | exact .inr rfl | assumption) : PG X (.Name x pos) (gName i) := by
  intro pins s σ H v u Q I r h
  exact wpAny_assign_Name (store_ok I hN hi hx r (fun s' I' => ⟨_, H, I', h⟩) hf)
def gNil : TGs := fun vs σ H Q => vs = [] ∧ Q σ H
def gCons (t : TG) (u : TGs) : TGs := fun vs σ H Q => ∃ v r, vs = v :: r ∧ t v σ H fun σ' H' => u r σ' H' Q
theorem pgs_nil : PGs X [] gNil := by
  intro pins s σ H vs us Q I r h
  obtain ⟨e, h⟩ := h
  subst e
  cases r
  exact assignInOrder_nil ⟨σ, H, I, h⟩
theorem pgs_cons {e : Expr} {es : List Expr} {t : TG} {u : TGs} (h1 : PG X e t) (h2 : PGs X es u)
    (hs : (assignEach (e :: es) X.env).map (·.2) = assign e X.env :: (assignEach es X.env).map (·.2) := by rfl) : PGs X (e :: es) (gCons t u) := by
  intro pins s σ H vs us Q I r h
  obtain ⟨v, vr, e1, h⟩ := h
  subst e1
  cases r with
  | cons r rr =>
    rw [hs]
    refine assignInOrder_cons (thn (h1 pins s σ H _ _ _ I r h) fun _ s1 ⟨σ1, H1, I1, q1⟩ => ?_)
    exact h2 pins s1 σ1 H1 _ _ Q I1 rr q1
/-- (a, b, ..) = a tuple of that length -/
def gTup (K : PySem.W.Frag) (n : Nat) (t : TGs) : TG := fun v σ H Q => ∃ a xs, v = .ref a ∧ SqT K H a xs ∧ xs.length = n ∧ t xs σ H Q
theorem pg_tup {es : List Expr} {k : Nat} {t : TGs} {n : Nat} (hc : X.calm = true) (h : PGs X es t)
    (hn : (assignEach es X.env).length = n := by rfl) (hst : (assignEach es X.env).findIdx? (·.1) = none := by rfl) : PG X (.Tuple es k pos) (gTup X.K n t) := by
  intro pins s σ H v u Q I r hw
  obtain ⟨a, xs, e1, hq, hl, hw⟩ := hw
  subst e1
  cases r
  obtain ⟨its, rv, ht, hz⟩ := I.tuple hq
  refine assign_Tuple_tuple (I.ok.hd hc) ht (by simp [hn, ← hl, rv.length]) hst fun h' hx => ?_
  have I1 : Inv X pins σ H { s with heap := h' } := I.kept (t' := s.toks) fun b o e => hx b o (Nat.ne_of_lt (Heap.lt_size e)) e
  exact h pins _ σ H xs _ Q I1 (by simpa using rv) hw
/-- target = value -/
def tAsg (te : TE) (g : TG) : TS := fun D σ H => te σ H fun x H1 => g x σ H1 D.nx
theorem ps_asg {tg e : Expr} {te : TE} {g : TG} (he : PE X e te) (hg : PG X tg g) (hs : swapsWithSole [tg] e pos.line X.env = pure false := by rfl) (hw : swappedStores [tg] e X.env = pure none := by rfl)
    (h1 : (assignEach [tg] X.env).map (·.2) = [assign tg X.env] := by rfl) : PS X (.Assign [tg] e pos) (tAsg te g) := by
  intro pins s σ H D I h
  refine wpAny_Assign_stores (thn (he pins s σ H _ I h) fun v s1 ⟨x, H1, I1, r1, q1⟩ => ?_) hs hw
  rw [h1]
  exact thn (hg pins s1 σ H1 x v _ I1 r1 q1) fun _ s2 q => q
/-- name = value -/
theorem ps_set {i : Nat} {x : Str} {e : Expr} {te : TE} {pos' : Pos} (hN : X.N.Nodup) (hi : X.N[i]? = some x) (hx : Loc X.env.scope x) (he : PE X e te) (hs : swapsWith e (some (.Name x pos')) pos.line X.env = pure false := by rfl) (hf : X.fn x = true ∨ X.env.scope.names.lookup x = some .local := by first | exact .inl rfl | exact .inr rfl | assumption) :
    PS X (.Assign [.Name x pos'] e pos) (tAsg te (gName i)) := by
  intro pins s σ H D I h
  refine wpAny_Assign_Name (thn (he pins s σ H _ I h) fun v s1 ⟨y, H1, I1, r1, q1⟩ => ?_) hs
  exact store_ok I1 hN hi hx r1 (fun s2 I2 => ⟨_, H1, I2, q1⟩) hf
/-- name op= e -/
def tAug (i : Nat) (te : TE) (ti : TIp) : TS := fun D σ H => ∃ x, σ[i]? = some (some x) ∧ te σ H fun y H1 => ti x y H1 fun z H2 => D.nx (σ.set i (some z)) H2
theorem ps_aug {i : Nat} {x : Str} {e : Expr} {te : TE} {op : Operator} {ti : TIp} {pos' : Pos} (hN : X.N.Nodup) (hi : X.N[i]? = some x) (hx : Loc X.env.scope x) (he : PE X e te) (ho : PIp X op ti) (hf : X.fn x = true ∨ X.env.scope.names.lookup x = some .local := by first | exact .inl rfl | exact .inr rfl | assumption) :
    PS X (.AugAssign (.Name x pos') op e pos) (tAug i te ti) := by
  intro pins s σ H D I h
  obtain ⟨v, e1, h⟩ := h
  obtain ⟨m, hn, hl⟩ := I.loc
  have vis : Vis X.env.scope x := by rcases hx with k | k; exact .inl k; exact .inr (.inl k)
  obtain ⟨u, r, l⟩ := hl i x v hi e1 vis
  refine wpAny_AugAssign_Name ?_
  have go : wpAny (model X.prog X.w) X.A (eval e X.env) (fun w s₂ => wpAny (model X.prog X.w) X.A (inplaceOp op u w) (fun r s₃ => wpAny (model X.prog X.w) X.A (storeName X.env x r) (fun _ => SP X pins D .next) X.xe s₃) X.xe s₂) X.xe s := by
    refine thn (he pins s σ H _ I h) fun w s1 ⟨y, H1, I1, r1, q1⟩ => ?_
    refine thn (ho pins s1 σ H1 v y u w _ I1 r r1 q1) fun z s2 ⟨zv, H2, I2, r2, q2⟩ => ?_
    exact store_ok I2 hN hi hx r2 (fun s3 I3 => ⟨_, H2, I3, q2⟩) hf
  rcases l with ⟨hk, hm⟩ | ⟨hk, c, hc, hcell⟩
  · exact wpAny_loadName_local I.ok.kind hk hn hm go
  · rcases hk with hk | hk
    · exact wpAny_loadName_cell I.ok.kind hk hc hcell go
    · rcases hx with k | k
      · have : X.env.scope.names.lookup x = some .free := hk
        rw [k] at this; cases this
      · have : X.env.scope.names.lookup x = some .free := hk
        rw [k] at this; cases this
/-- ints -/
def ipI (f : Int → Int → Int) : TIp := fun x y H Q => ∃ i j, x = .int i ∧ y = .int j ∧ Q (.int (f i j)) H
theorem ip_add : PIp X .Add (ipI fun i j => i + j) := by
  intro pins s σ H x y v u Q I r1 r2 h
  obtain ⟨i, j, e1, e2, q⟩ := h
  subst e1; subst e2
  obtain ⟨t, rfl⟩ := r1
  obtain ⟨t', rfl⟩ := r2
  exact iadd_int ⟨.int _, H, I.tok _, ⟨_, rfl⟩, q⟩
theorem ip_sub : PIp X .Sub (ipI fun i j => i - j) := by
  intro pins s σ H x y v u Q I r1 r2 h
  obtain ⟨i, j, e1, e2, q⟩ := h
  subst e1; subst e2
  obtain ⟨t, rfl⟩ := r1
  obtain ⟨t', rfl⟩ := r2
  exact isub_int ⟨.int _, H, I.tok _, ⟨_, rfl⟩, q⟩
end

/-! ### while -/
section
variable {X : Cx} {pos : Pos}
/-- the invariant W with its measure -/
def tWhile (c : TT) (tb : TS) : TS := fun D σ H => ∃ W : Nat → St → Hp → Prop, (∃ m, W m σ H) ∧ ∀ m σ H, W m σ H →
  c σ H fun b H1 => if b = true then ∃ N : St → Hp → Prop, (∀ σ' H', N σ' H' → ∃ m', m' < m ∧ W m' σ' H') ∧ tb { D with nx := N, ct := N, bk := D.nx } σ H1 else D.nx σ H1
theorem ps_while {c : Expr} {body : List Stmt} {tc : TT} {tb : TS} (hp : PassesOwn (model X.prog X.w) X.A X.env X.xe) (hc : PT X c tc) (hb : PSs X body tb) : PS X (.While c body [] pos) (tWhile tc tb) := by
  intro pins s σ H D I h
  obtain ⟨W, ⟨m0, w0⟩, turn⟩ := h
  refine wpAny_While (codeAny_whileLoop (fun n s' => ∃ σ' H', Inv X pins σ' H' s' ∧ W n σ' H') ?_ m0 ⟨σ, H, I, w0⟩)
  rintro n s1 ⟨σ1, H1, I1, w1⟩
  refine wpAny_passesOwn hp (thn (hc pins s1 σ1 H1 _ I1 (turn n σ1 H1 w1)) fun b s2 ⟨H2, I2, q2⟩ => ?_)
  cases b with
  | true =>
    obtain ⟨N, hN, q2⟩ := q2
    rw [if_pos rfl]
    refine wpAny_passesOwn hp (thn (hb pins s2 σ1 H2 _ I2 q2) fun f s3 q3 => ?_)
    cases f with
    | next =>
      obtain ⟨σ3, H3, I3, n3⟩ := q3
      obtain ⟨m', hm, w3⟩ := hN σ3 H3 n3
      exact ⟨m', hm, σ3, H3, I3, w3⟩
    | cont =>
      obtain ⟨σ3, H3, I3, n3⟩ := q3
      obtain ⟨m', hm, w3⟩ := hN σ3 H3 n3
      exact ⟨m', hm, σ3, H3, I3, w3⟩
    | brk => exact q3
    | ret v => exact q3
  | false =>
    rw [if_neg Bool.false_ne_true]
    exact wpAny_execs_nil ⟨σ1, H2, I2, q2⟩
end

/-! ### what a loop or a comprehension walks -/
/-- at turn i: it yields x (the heap may grow), or it stops -/
structure It where
  go : Nat → Hp → Prop
  yld : Nat → Hp → V → Hp → Prop
  stop : Nat → Hp → Prop
/-- the iterator's own objects may turn: they are not the frame's, not pinned, younger than the entry (or a comprehension's own) -/
def FpOk (X : Cx) (pins : List (Addr × Obj)) (H : Hp) (b : Addr) : Prop :=
  H b = none ∧ b ≠ X.env.locals ∧ b ∉ X.fs ∧ (b ∈ X.ex ∨ X.s₀.heap.objs.size ≤ b) ∧ (∀ x c, X.env.cells.lookup x = some c → c ≠ b) ∧ ∀ p ∈ X.pn ++ pins, p.1 ≠ b
theorem Inv.fpOk {X : Cx} {pins : List (Addr × Obj)} {σ : St} {H H' : Hp} {s : Shared} {b : Addr} (I : Inv X pins σ H s) (hb : s.heap.objs.size ≤ b) (hn : H' b = none) : FpOk X pins H' b := by
  refine ⟨hn, Nat.ne_of_gt (Nat.lt_of_lt_of_le I.lt hb), I.nofs hb, .inr (Nat.le_trans I.sz hb), fun x c e z => ?_, fun p hp z => ?_⟩
  · obtain ⟨v, q⟩ := I.cell x c e
    exact absurd (Nat.lt_of_lt_of_le q.lt (by rw [z]; exact hb)) (Nat.lt_irrefl _)
  · exact absurd (Nat.lt_of_lt_of_le (Heap.lt_size (I.pin p hp).1) (by rw [z]; exact hb)) (Nat.lt_irrefl _)
structure Turn (P : Program) (w : World) (K : PySem.W.Frag) (tg : Expr) (J : It) (fp : List Addr) (it : Addr) (tn : Nat → Heap → Prop) : Prop where
  mem : it ∈ fp
  obj : ∀ i h, tn i h → ∀ b ∈ fp, ∃ o, h.get? b = some o ∧ ∀ v, o.data ≠ .cell v
  keep : ∀ i h h', tn i h → (∀ b ∈ fp, ∀ o, h.get? b = some o → h'.get? b = some o) → tn i h'
  item : ∀ (X : Cx), X.prog = P → X.w = w → X.K = K → X.calm = true → ∀ (i : Nat) (pins : List (Addr × Obj)) (s : Shared) (σ : St) (H : Hp) (E : Value → Shared → Prop), Inv X pins σ H s → (∀ b ∈ fp, FpOk X pins H b) → tn i s.heap → J.go i H →
    wpAny (model P w) X.A (pyNext (.ref it)) (fun r s1 => ∃ u, r = some u ∧
      wpAny (model P w) X.A (letOwnedTupleGo tg (.ref it) u) (fun _ s2 => ∃ x H', Inv X pins σ H' s2 ∧ RelV x u ∧ J.yld i H x H' ∧ tn (i + 1) s2.heap ∧ ∀ b ∈ fp, H' b = none) E s1) E s
  done : ∀ (X : Cx), X.prog = P → X.w = w → X.K = K → X.calm = true → ∀ (i : Nat) (pins : List (Addr × Obj)) (s : Shared) (σ : St) (H : Hp) (E : Value → Shared → Prop), Inv X pins σ H s → (∀ b ∈ fp, FpOk X pins H b) → tn i s.heap → J.stop i H →
    wpAny (model P w) X.A (pyNext (.ref it)) (fun r s1 => r = none ∧ Inv X pins σ H s1) E s
  self : ∀ (A : Around) (i : Nat) (s : Shared) (Q : Value → Shared → Prop) (E : Value → Shared → Prop), tn i s.heap → Q (.ref it) s → wpAny (model P w) A (pyIter (.ref it)) Q E s
abbrev TI := St → Hp → (It → Hp → Prop) → Prop
/-- an iterator has come -/
def PIE (X : Cx) (pins : List (Addr × Obj)) (σ : St) (tg : Expr) (R : It → Hp → Prop) (itv : Value) (s2 : Shared) : Prop :=
  ∃ (it : Addr) (fp : List Addr) (tn : Nat → Heap → Prop) (J : It) (H' : Hp), itv = .ref it ∧ Inv X pins σ H' s2 ∧ Turn X.prog X.w X.K tg J fp it tn ∧ tn 0 s2.heap ∧ (∀ b ∈ fp, FpOk X pins H' b) ∧ R J H'
def PI (X : Cx) (tg iter : Expr) (wi : TI) : Prop :=
  ∀ (pins : List (Addr × Obj)) (s : Shared) (σ : St) (H : Hp) (R : It → Hp → Prop), Inv X pins σ H s → wi σ H R →
    wpAny (model X.prog X.w) X.A (eval iter X.env) (fun v s1 => wpAny (model X.prog X.w) X.A (pyIter v) (PIE X pins σ tg R) X.xe s1) X.xe s

/-- the step ahead of the store is nothing for an iterator that keeps no tuple -/
theorem go_of {M : Model} {A : Around} {E : Value → Shared → Prop} {s : Shared} {tg : Expr} {it : Addr} {u : Value} {o : Obj} {n : String} {vs : Array Value} {Q : Unit → Shared → Prop} (ho : s.heap.get? it = some o) (hc : o.cls = .type n) (hd : o.data = .fields vs)
    (hn : ["enumerate", "zip", "dict_itemiterator", "dict_reverseitemiterator", "odict_iterator", "itertools.zip_longest", "itertools.pairwise"].contains n = false) (hQ : Q () s) : wpAny M A (letOwnedTupleGo tg (.ref it) u) Q E s := by
  unfold letOwnedTupleGo
  cases tg <;> first
    | exact wpAny_pure hQ
    | (cases u <;> first
        | exact wpAny_pure hQ
        | (refine wpAny_bind (wpAny_load ho ?_)
           rw [hc, hd]
           show wpAny M A (if (["enumerate", "zip", "dict_itemiterator", "dict_reverseitemiterator", "odict_iterator", "itertools.zip_longest", "itertools.pairwise"].contains n && vs[0]? == some (rawInt _)) = true then _ else _) Q E s
           rw [if_neg (by intro h; rw [hn, Bool.false_and] at h; cases h)]
           exact wpAny_pure hQ))

/-- the list at a, as it stands at each turn (a loop may append to it) -/
def Itl (K : PySem.W.Frag) (a : Addr) : It :=
  ⟨fun i H => ∃ xs x, SqL K H a xs ∧ xs[i]? = some x, fun i H x H' => H' = H ∧ ∀ xs, SqL K H a xs → xs[i]? = some x, fun i H => ∃ xs, SqL K H a xs ∧ xs.length ≤ i⟩
def Itt (K : PySem.W.Frag) (a : Addr) : It :=
  ⟨fun i H => ∃ xs x, SqT K H a xs ∧ xs[i]? = some x, fun i H x H' => H' = H ∧ ∀ xs, SqT K H a xs → xs[i]? = some x, fun i H => ∃ xs, SqT K H a xs ∧ xs.length ≤ i⟩
/-- lo, lo + 1, .. (n of them) -/
def Itr (lo : Int) (n : Nat) : It := ⟨fun i _ => i < n, fun i H x H' => H' = H ∧ x = .int (lo + i), fun i _ => n ≤ i⟩
theorem turn_list {P : Program} {w : World} {K : PySem.W.Frag} {tg : Expr} (a it : Addr) : Turn P w K tg (Itl K a) [it] it (fun i h => h.IsListIter it a i) where
  mem := by simp
  obj := fun i h st b hb => by
    have e : b = it := by simpa using hb
    subst e
    obtain ⟨o, e, c, d⟩ := st
    exact ⟨o, e, fun v z => by rw [d] at z; cases z⟩
  keep := fun i h h' st k => st.at fun o e => k it (by simp) o e
  item := by
    intro X hP hw hK hc i pins s σ H E I hf st hg
    subst hP hw hK
    obtain ⟨xs, x, hq, hx⟩ := hg
    obtain ⟨its, rv, p, hz⟩ := I.list hq
    obtain ⟨u, hu, ru⟩ := rv.get hx
    obtain ⟨f0, f1, f2, f3, f4, f5⟩ := hf it (by simp)
    refine wpAny_pyNext_list_item st p.isList (x := u) (by simpa using hu) fun h' st' sb => ?_
    have I1 : Inv X pins σ H { s with heap := h' } := I.turned (t' := s.toks) (fun b o hb e => (sb.2 b hb).trans e) f0 f1 f3 f4 f5
    obtain ⟨o, e, c, d⟩ := id st'
    exact ⟨u, rfl, go_of (s := { s with heap := h' }) e c d (by decide) ⟨x, H, I1, ru, ⟨rfl, fun ys hy => by rw [I.list_inj hy hq]; exact hx⟩, st', fun b hb => (hf b hb).1⟩⟩
  done := by
    intro X hP hw hK hc i pins s σ H E I hf st hg
    subst hP hw hK
    obtain ⟨xs, hq, hx⟩ := hg
    obtain ⟨its, rv, p, hz⟩ := I.list hq
    obtain ⟨f0, f1, f2, f3, f4, f5⟩ := hf it (by simp)
    have hl := rv.length
    exact wpAny_pyNext_list_end (I.ok.hd hc) st p.isList (by simp; omega) fun h' eb => ⟨rfl, I.turned (t' := s.toks) (fun b o hb e => eb b o hb e) f0 f1 f3 f4 f5⟩
  self := fun _ _ _ _ _ st h => wpAny_pyIter_listiter st h
theorem turn_range {P : Program} {w : World} {K : PySem.W.Frag} {tg : Expr} (it : Addr) (lo : Int) (n : Nat) : Turn P w K tg (Itr lo n) [it] it (fun i h => IsRangeIter h it (lo + (i : Nat) * 1) ((n : Int) - (i : Nat)) 1) where
  mem := by simp
  obj := fun i h st b hb => by
    have e : b = it := by simpa using hb
    subst e
    exact ⟨_, st, fun v z => by
      have z' : Data.fields _ = Data.cell v := z
      cases z'⟩
  keep := fun i h h' st k => k it (by simp) _ st
  item := by
    intro X hP hw hK hc i pins s σ H E I hf st hg
    subst hP hw hK
    obtain ⟨f0, f1, f2, f3, f4, f5⟩ := hf it (by simp)
    have W := Walks.range (prog := X.prog) (w := X.w) (I.ok.hd hc) it lo 1 n
    refine W.item i s _ _ hg st fun v h' tk hv st' kk => ?_
    obtain ⟨t, rfl⟩ := hv
    have I1 : Inv X pins σ H { s with heap := h', toks := tk } := I.turned (fun b o hb e => kk b o (by simpa using hb) e) f0 f1 f3 f4 f5
    refine ⟨_, rfl, go_of (s := { s with heap := h', toks := tk }) (n := "range_iterator") st' rfl rfl (by decide) ⟨.int (lo + i), H, I1, ⟨t, ?_⟩, ⟨rfl, rfl⟩, st', fun b hb => (hf b hb).1⟩⟩
    rw [Int.mul_one]
  done := by
    intro X hP hw hK hc i pins s σ H E I hf st hg
    subst hP hw hK
    obtain ⟨f0, f1, f2, f3, f4, f5⟩ := hf it (by simp)
    exact wpAny_pyNext_range_end (I.ok.hd hc) st (by have : n ≤ i := hg; omega) fun h' eb => ⟨rfl, I.turned (t' := s.toks) (fun b o hb e => eb b o hb e) f0 f1 f3 f4 f5⟩
  self := fun _ _ _ _ _ st h => wpAny_pyIter_rangeiter st h
end L2

namespace L2
open PySem PySem.Spec PyProof.Rows
section
variable {X : Cx} {tg : Expr}
def iList (K : PySem.W.Frag) (tl : TE) : TI := fun σ H R => tl σ H fun x H1 => ∃ a, x = .ref a ∧ (∃ xs, SqL K H1 a xs) ∧ R (Itl K a) H1
def iTup (K : PySem.W.Frag) (tl : TE) : TI := fun σ H R => tl σ H fun x H1 => ∃ a, x = .ref a ∧ (∃ xs, SqT K H1 a xs) ∧ R (Itt K a) H1
theorem pi_list {l : Expr} {tl : TE} (hl : PE X l tl) : PI X tg l (iList X.K tl) := by
  intro pins s σ H R I h
  refine thn (hl pins s σ H _ I h) fun v s1 ⟨x, H1, I1, r1, q1⟩ => ?_
  obtain ⟨a, e, ⟨xs, hq⟩, q⟩ := q1
  subst e
  cases r1
  obtain ⟨its, rv, p, hz⟩ := I1.list hq
  refine wpAny_pyIter_list p.isList ?_
  refine ⟨s1.heap.objs.size, [s1.heap.objs.size], _, _, H1, rfl, I1.kept (t' := s1.toks) fun b o e => Heap.get?_push_of_some _ e, turn_list a _, ⟨_, Heap.get?_push_size _ rfl, rfl, rfl⟩, fun b hb => ?_, q⟩
  have e : b = s1.heap.objs.size := by simpa using hb
  subst e
  exact I1.fpOk (Nat.le_refl _) (I1.hok.fresh (Nat.le_refl _))
/-- a range object just made, walked -/
theorem range_it {pins : List (Addr × Obj)} {σ : St} {H : Hp} {s : Shared} {R : It → Hp → Prop} {E : Value → Shared → Prop} {lo hi : Int} {t u v : Tok} {tk : Nat} (I : Inv X pins σ H s) (h1 : -(2 ^ 62) ≤ lo) (h2 : lo < 2 ^ 62) (h3 : -(2 ^ 62) ≤ hi) (h4 : hi < 2 ^ 62)
    (q : R (Itr lo (hi - lo).toNat) H) : wpAny (model X.prog X.w) X.A (pyIter (.ref s.heap.objs.size)) (PIE X pins σ tg R) E { s with heap := s.heap.push { cls := .type "range", data := .fields #[.int lo t, .int hi u, .int 1 v] }, toks := tk } := by
  refine wpAny_pyIter_range (IsRange.new ..) (small_one h1 h2 h3 h4) ?_
  have I1 : Inv X pins σ H { s with heap := s.heap.push { cls := .type "range", data := .fields #[.int lo t, .int hi u, .int 1 v] }, toks := tk } := I.kept fun b o e => Heap.get?_push_of_some _ e
  refine ⟨(s.heap.push { cls := .type "range", data := .fields #[.int lo t, .int hi u, .int 1 v] }).objs.size, [(s.heap.push { cls := .type "range", data := .fields #[.int lo t, .int hi u, .int 1 v] }).objs.size], _, _, H, rfl,
    I1.kept (t' := tk) fun b o e => Heap.get?_push_of_some _ e, turn_range _ lo (hi - lo).toNat, ?_, fun b hb => ?_, q⟩
  · have e1 : lo + ((0 : Nat) : Int) * 1 = lo := by simp
    have e2 : (((hi - lo).toNat : Nat) : Int) - ((0 : Nat) : Int) = Builtin.Range.rangeSize lo hi 1 := by rw [rangeSize_one]; split <;> omega
    show IsRangeIter _ _ (lo + ((0 : Nat) : Int) * 1) ((((hi - lo).toNat : Nat) : Int) - ((0 : Nat) : Int)) 1
    rw [e1, e2]
    exact Heap.get?_push_size _ rfl
  · have e : b = (s.heap.push { cls := .type "range", data := .fields #[.int lo t, .int hi u, .int 1 v] }).objs.size := by simpa using hb
    subst e
    exact I1.fpOk (Nat.le_refl _) (I1.hok.fresh (Nat.le_refl _))
def iRng1 (ta : TA) : TI := fun σ H R => ta σ H fun vs H1 => ∃ j : Int, vs = [.int j] ∧ -(2 ^ 62) ≤ j ∧ j < 2 ^ 62 ∧ R (Itr 0 j.toNat) H1
def iRng2 (ta : TA) : TI := fun σ H R => ta σ H fun vs H1 => ∃ i j : Int, vs = [.int i, .int j] ∧ (-(2 ^ 62) ≤ i ∧ i < 2 ^ 62 ∧ -(2 ^ 62) ≤ j ∧ j < 2 ^ 62) ∧ R (Itr i (j - i).toNat) H1
theorem pi_range1 {a : Expr} {ta : TA} {p pos : Pos} (hg : Gl X "range") (hm : X.mg "range" = none) (ha : PA X [a] ta) (hs : starEach [a] X.env = [(false, eval a X.env)] := by rfl) : PI X tg (.Call (.Name "range" p) [a] [] pos) (iRng1 ta) := by
  intro pins s σ H R I h
  refine Call_ (ld_blt I hg hm boot_range (PyProof.Rows.callWith_type1 (thn (ha pos pins s σ H _ I h) fun us s1 ⟨vs, H1, I1, r1, q1⟩ => ?_) hs rfl))
  obtain ⟨j, e, q1, q2, q⟩ := q1
  subst e
  cases r1 with
  | cons r rr =>
    cases rr
    obtain ⟨t, rfl⟩ := r
    exact call_range_1 (range_it I1 (by omega) (by omega) q1 q2 (by simpa using q))
theorem pi_range2 {a b : Expr} {ta : TA} {p pos : Pos} (hg : Gl X "range") (hm : X.mg "range" = none) (ha : PA X [a, b] ta) (hs : starEach [a, b] X.env = [(false, eval a X.env), (false, eval b X.env)] := by rfl) (hs2 : starEach [b] X.env = [(false, eval b X.env)] := by rfl) :
    PI X tg (.Call (.Name "range" p) [a, b] [] pos) (iRng2 ta) := by
  intro pins s σ H R I h
  refine Call_ (ld_blt I hg hm boot_range (PyProof.Rows.callWith_type1 (thn (ha pos pins s σ H _ I h) fun us s1 ⟨vs, H1, I1, r1, q1⟩ => ?_) (by rw [hs, hs2]) (by rw [hs2]; rfl)))
  obtain ⟨i, j, e, ⟨q1, q2, q3, q4⟩, q⟩ := q1
  subst e
  cases r1 with
  | cons r rr =>
    cases rr with
    | cons r' rr =>
      cases rr
      obtain ⟨t, rfl⟩ := r
      obtain ⟨t', rfl⟩ := r'
      exact call_range_2 (range_it I1 q1 q2 q3 q4 q)

/-! ### for -/
/-- W: the invariant by the turn and a measure; N: what the body is to reach -/
def tFor (wi : TI) (g : TG) (tb : TS) : TS := fun D σ H => wi σ H fun J H1 => ∃ W : Nat → Nat → St → Hp → Prop, (∃ m, W 0 m σ H1) ∧ ∀ i m σ H, W i m σ H →
  (J.stop i H ∧ D.nx σ H) ∨ (J.go i H ∧ ∃ N : St → Hp → Prop, (∀ σ' H', N σ' H' → ∃ m', m' < m ∧ W (i + 1) m' σ' H') ∧ ∀ x H', J.yld i H x H' → g x σ H' fun σ2 H2 => tb { D with nx := N, ct := N, bk := D.nx } σ2 H2)
/-- the records at fp as they stand -/
def pinsAt (fp : List Addr) (h : Heap) : List (Addr × Obj) := fp.filterMap fun b => (h.get? b).map fun o => (b, o)
theorem mem_pinsAt {fp : List Addr} {h : Heap} {b : Addr} {o : Obj} (hb : b ∈ fp) (e : h.get? b = some o) : (b, o) ∈ pinsAt fp h := List.mem_filterMap.mpr ⟨b, hb, by rw [e]; rfl⟩
theorem of_pinsAt {fp : List Addr} {h : Heap} {p : Addr × Obj} (hp : p ∈ pinsAt fp h) : p.1 ∈ fp ∧ h.get? p.1 = some p.2 := by
  obtain ⟨b, hb, e⟩ := List.mem_filterMap.mp hp
  cases q : h.get? b with
  | none => rw [q] at e; cases e
  | some o =>
    rw [q] at e
    have e' : (b, o) = p := Option.some.inj e
    subst e'
    exact ⟨hb, q⟩
theorem Inv.pinned {pins : List (Addr × Obj)} {σ : St} {H : Hp} {s : Shared} {fp : List Addr} (I : Inv X pins σ H s) (hf : ∀ b ∈ fp, FpOk X pins H b) (ho : ∀ b ∈ fp, ∃ o, s.heap.get? b = some o ∧ ∀ v, o.data ≠ .cell v) : Inv X (pins ++ pinsAt fp s.heap) σ H s :=
  I.pins_of fun p hp => (List.mem_append.mp hp).elim (fun z => I.pin p (List.mem_append_right _ z)) fun z => by
    obtain ⟨hb, e⟩ := of_pinsAt z
    obtain ⟨f0, f1, f2, _⟩ := hf p.1 hb
    obtain ⟨o, e', d⟩ := ho p.1 hb
    rw [e] at e'; cases e'
    exact ⟨e, f0, f1, f2, d⟩
theorem Inv.unpinned {pins pl : List (Addr × Obj)} {σ : St} {H : Hp} {s : Shared} (I : Inv X (pins ++ pl) σ H s) : Inv X pins σ H s := I.pins_of fun p hp => I.pin p (List.mem_append_right _ (List.mem_append_left _ hp))
theorem ps_for {iter : Expr} {body : List Stmt} {wi : TI} {g : TG} {tb : TS} {pos : Pos} (hp : PassesOwn (model X.prog X.w) X.A X.env X.xe) (hc : X.calm = true) (hi : PI X tg iter wi) (hg : PG X tg g) (hb : PSs X body tb)
    (hs : ∀ x, foldedSetIterable iter X.env x = pure x := by intro _; rfl) : PS X (.For tg iter body [] pos) (tFor wi g tb) := by
  intro pins s σ H D I h
  refine wpAny_For (thn (hi pins s σ H _ I h) fun v s1 h1 => thn h1 fun itv s2 h2 => ?_) hs
  obtain ⟨it, fp, tn, J, H2, e, I2, T, st2, f2, W, ⟨m0, w0⟩, turn⟩ := h2
  subst e
  -- what stays true of the iterator's objects through the loop
  have stat : ∀ {H' : Hp}, (∀ b ∈ fp, H' b = none) → ∀ b ∈ fp, FpOk X pins H' b := fun hn b hb => ⟨hn b hb, (f2 b hb).2⟩
  refine codeAny_forLoop_any (fun n s' => ∃ i σ' H', Inv X pins σ' H' s' ∧ tn i s'.heap ∧ (∀ b ∈ fp, H' b = none) ∧ W i n σ' H') ?_ m0 ⟨0, σ, H2, I2, st2, fun b hb => (f2 b hb).1, w0⟩
  rintro n s3 ⟨i, σ3, H3, I3, st3, fr3, w3⟩
  rcases turn i n σ3 H3 w3 with ⟨stop, qn⟩ | ⟨go, N, hN, step⟩
  · refine wpAny_passesOwn hp (thn (T.done X rfl rfl rfl hc i pins s3 σ3 H3 X.xe I3 (stat fr3) st3 stop) fun r s4 ⟨hr, I4⟩ => ?_)
    subst hr
    exact wpAny_execs_nil ⟨σ3, H3, I4, qn⟩
  · refine wpAny_passesOwn hp (thn (T.item X rfl rfl rfl hc i pins s3 σ3 H3 X.xe I3 (stat fr3) st3 go) fun r s4 ⟨u, hr, h4⟩ => ?_)
    subst hr
    refine wpAny_passesOwn hp (thn h4 fun _ s5 ⟨x, H5, I5, r5, y5, st5, fr5⟩ => ?_)
    have I5' := I5.pinned (stat fr5) (T.obj _ _ st5)
    refine wpAny_passesOwn hp (thn (hg _ s5 σ3 H5 x u _ I5' r5 (step x H5 y5)) fun _ s6 ⟨σ6, H6, I6, q6⟩ => ?_)
    refine wpAny_passesOwn hp (thn (hb _ s6 σ6 H6 _ I6 q6) fun f s7 q7 => ?_)
    have again : ∀ {σ7 : St} {H7 : Hp}, Inv X (pins ++ pinsAt fp s5.heap) σ7 H7 s7 → N σ7 H7 → ∃ m, m < n ∧ ∃ i σ' H', Inv X pins σ' H' s7 ∧ tn i s7.heap ∧ (∀ b ∈ fp, H' b = none) ∧ W i m σ' H' := fun {σ7 H7} I7 n7 => by
      obtain ⟨m', hm, w7⟩ := hN σ7 H7 n7
      refine ⟨m', hm, i + 1, σ7, H7, I7.unpinned, T.keep _ _ _ st5 fun b hb o e => (I7.pin (b, o) (List.mem_append_right _ (List.mem_append_right _ (mem_pinsAt hb e)))).1, fun b hb => ?_, w7⟩
      obtain ⟨o, e, d⟩ := T.obj _ _ st5 b hb
      exact (I7.pin (b, o) (List.mem_append_right _ (List.mem_append_right _ (mem_pinsAt hb e)))).2.1
    cases f with
    | next => obtain ⟨σ7, H7, I7, n7⟩ := q7; exact again I7 n7
    | cont => obtain ⟨σ7, H7, I7, n7⟩ := q7; exact again I7 n7
    | brk => obtain ⟨σ7, H7, I7, q7⟩ := q7; exact ⟨σ7, H7, I7.unpinned, q7⟩
    | ret v => obtain ⟨x7, σ7, H7, I7, r7, q7⟩ := q7; exact ⟨x7, σ7, H7, I7.unpinned, r7, q7⟩
end

/-! ### the forms one uses -/
/-- over a list that the body leaves as it is -/
theorem for_list {K : PySem.W.Frag} {a : Addr} {xs : List V} {g : TG} {tb : TS} {D : Ends} {σ : St} {H : Hp} (Pv : Nat → St → Hp → Prop) (h0 : Pv 0 σ H) (hl : ∀ i σ H, i ≤ xs.length → Pv i σ H → SqL K H a xs)
    (hs : ∀ i x σ H, xs[i]? = some x → Pv i σ H → g x σ H fun σ2 H2 => tb { D with nx := Pv (i + 1), ct := Pv (i + 1), bk := D.nx } σ2 H2) (hd : ∀ σ H, Pv xs.length σ H → D.nx σ H) :
    ∃ W : Nat → Nat → St → Hp → Prop, (∃ m, W 0 m σ H) ∧ ∀ i m σ H, W i m σ H →
      ((Itl K a).stop i H ∧ D.nx σ H) ∨ ((Itl K a).go i H ∧ ∃ N : St → Hp → Prop, (∀ σ' H', N σ' H' → ∃ m', m' < m ∧ W (i + 1) m' σ' H') ∧ ∀ x H', (Itl K a).yld i H x H' → g x σ H' fun σ2 H2 => tb { D with nx := N, ct := N, bk := D.nx } σ2 H2) := by
  refine ⟨fun i m σ H => m = xs.length - i ∧ i ≤ xs.length ∧ Pv i σ H, ⟨xs.length, by simp, Nat.zero_le _, h0⟩, ?_⟩
  rintro i m σ H ⟨rfl, hi, p⟩
  have q := hl i σ H hi p
  by_cases hlt : i < xs.length
  · refine .inr ⟨⟨xs, xs[i], q, by simp [hlt]⟩, Pv (i + 1), fun σ' H' p' => ⟨xs.length - (i + 1), by omega, rfl, hlt, p'⟩, fun x H' y => ?_⟩
    obtain ⟨e, y⟩ := y
    subst e
    exact hs i x σ _ (y xs q) p
  · have e : i = xs.length := by omega
    subst e
    exact .inl ⟨⟨xs, q, Nat.le_refl _⟩, hd σ H p⟩
theorem for_range {lo : Int} {n : Nat} {g : TG} {tb : TS} {D : Ends} {σ : St} {H : Hp} (Pv : Nat → St → Hp → Prop) (h0 : Pv 0 σ H)
    (hs : ∀ i σ H, i < n → Pv i σ H → g (.int (lo + i)) σ H fun σ2 H2 => tb { D with nx := Pv (i + 1), ct := Pv (i + 1), bk := D.nx } σ2 H2) (hd : ∀ σ H, Pv n σ H → D.nx σ H) :
    ∃ W : Nat → Nat → St → Hp → Prop, (∃ m, W 0 m σ H) ∧ ∀ i m σ H, W i m σ H →
      ((Itr lo n).stop i H ∧ D.nx σ H) ∨ ((Itr lo n).go i H ∧ ∃ N : St → Hp → Prop, (∀ σ' H', N σ' H' → ∃ m', m' < m ∧ W (i + 1) m' σ' H') ∧ ∀ x H', (Itr lo n).yld i H x H' → g x σ H' fun σ2 H2 => tb { D with nx := N, ct := N, bk := D.nx } σ2 H2) := by
  refine ⟨fun i m σ H => m = n - i ∧ i ≤ n ∧ Pv i σ H, ⟨n, by simp, Nat.zero_le _, h0⟩, ?_⟩
  rintro i m σ H ⟨rfl, hi, p⟩
  by_cases hlt : i < n
  · refine .inr ⟨hlt, Pv (i + 1), fun σ' H' p' => ⟨n - (i + 1), by omega, rfl, hlt, p'⟩, fun x H' y => ?_⟩
    obtain ⟨e, y⟩ := y
    subst e y
    exact hs i σ _ hlt p
  · have e : i = n := by omega
    subst e
    exact .inl ⟨Nat.le_refl _, hd σ H p⟩
/-- while, by a word and a measure of the state -/
theorem while_by {c : TT} {tb : TS} {D : Ends} {σ : St} {H : Hp} (Pv : St → Hp → Prop) (μ : St → Hp → Nat) (h0 : Pv σ H)
    (hs : ∀ σ H, Pv σ H → c σ H fun b H1 => if b = true then tb { D with nx := fun σ' H' => Pv σ' H' ∧ μ σ' H' < μ σ H, ct := fun σ' H' => Pv σ' H' ∧ μ σ' H' < μ σ H, bk := D.nx } σ H1 else D.nx σ H1)
    (mono : ∀ σ H Q Q', (∀ b H1, Q b H1 → Q' b H1) → c σ H Q → c σ H Q') : tWhile c tb D σ H := by
  refine ⟨fun m σ H => m = μ σ H ∧ Pv σ H, ⟨_, rfl, h0⟩, ?_⟩
  rintro m σ H ⟨rfl, p⟩
  refine mono σ H _ _ (fun b H1 q => ?_) (hs σ H p)
  cases b with
  | true => exact ⟨_, fun σ' H' ⟨p', l⟩ => ⟨_, l, rfl, p'⟩, q⟩
  | false => exact q
end L2

namespace L2
open PySem PySem.Spec PyProof.Rows

abbrev R2 := V → V → Hp → VK → Prop
/-- a two-place operation on values: f is binaryOp op, inplaceOp op or compareOp op -/
def OpR (X : Cx) (f : Value → Value → Sem Value) (r : R2) : Prop :=
  ∀ (pins : List (Addr × Obj)) (s : Shared) (σ : St) (H : Hp) (x y : V) (v u : Value) (Q : VK), Inv X pins σ H s → RelV x v → RelV y u → r x y H Q →
    wpAny (model X.prog X.w) X.A (f v u) (EP X pins σ Q) X.xe s
/-- a call of a value that is known (a builtin, a type) with values -/
def CallR (X : Cx) (f : Value) (r : List V → Hp → VK → Prop) : Prop :=
  ∀ (pins : List (Addr × Obj)) (s : Shared) (σ : St) (H : Hp) (xs : List V) (us : List Value) (Q : VK), Inv X pins σ H s → Vals xs us → r xs H Q →
    wpAny (model X.prog X.w) X.A (call f us) (EP X pins σ Q) X.xe s
def tOp (r : R2) (ta tb : TE) : TE := fun σ H Q => ta σ H fun x H1 => tb σ H1 fun y H2 => r x y H2 Q
def tUn (r : V → Hp → VK → Prop) (ta : TE) : TE := fun σ H Q => ta σ H fun x H1 => r x H1 Q
/-- ints in, under C, and a value out -/
def rI (C : Int → Int → Prop) (g : Int → Int → V) : R2 := fun x y H Q => ∃ i j, x = .int i ∧ y = .int j ∧ C i j ∧ Q (g i j) H
def rI0 (g : Int → Int → V) : R2 := fun x y H Q => ∃ i j, x = .int i ∧ y = .int j ∧ Q (g i j) H
def rU (g : Int → V) : V → Hp → VK → Prop := fun x H Q => ∃ i, x = .int i ∧ Q (g i) H

section
variable {X : Cx} {a b c : Expr} {ta tb tc : TE} {pos : Pos}

theorem binT (ha : PE X a ta) (hb : PE X b tb) {pins : List (Addr × Obj)} {s : Shared} {σ : St} {H : Hp} {R : V → V → Hp → Prop} (I : Inv X pins σ H s)
    (h : ta σ H fun x H1 => tb σ H1 fun y H2 => R x y H2) {Q : Value → Shared → Prop} {f : Value → Value → Sem Value}
    (hf : ∀ v u s2 x y H2, Inv X pins σ H2 s2 → RelV x v → RelV y u → R x y H2 → wpAny (model X.prog X.w) X.A (f v u) Q X.xe s2) :
    wpAny (model X.prog X.w) X.A (eval a X.env) (fun v s₁ => wpAny (model X.prog X.w) X.A (eval b X.env) (fun u s₂ => wpAny (model X.prog X.w) X.A (f v u) Q X.xe s₂) X.xe s₁) X.xe s := by
  refine thn (ha pins s σ H _ I h) fun v s1 ⟨x, H1, I1, r1, q1⟩ => ?_
  refine thn (hb pins s1 σ H1 _ I1 q1) fun u s2 ⟨y, H2, I2, r2, q2⟩ => ?_
  exact hf v u s2 x y H2 I2 r1 r2 q2

theorem pe_op {op : Operator} {r : R2} (ho : OpR X (binaryOp op) r) (ha : PE X a ta) (hb : PE X b tb) : PE X (.BinOp a op b pos) (tOp r ta tb) := by
  intro pins s σ H Q I h
  exact wpAny_BinOp (binT ha hb I h fun v u s2 x y H2 I2 rx ry q => ho pins s2 σ H2 x y v u Q I2 rx ry q)
/-! ### ints -/
theorem opI {f : Value → Value → Sem Value} {C : Int → Int → Prop} {g : Int → Int → Int}
    (rule : ∀ (i j : Int) (t u : Tok) (s : Shared) (Q : Value → Shared → Prop) (E : Value → Shared → Prop), C i j → Q (.int (g i j) s.toks) { s with toks := s.toks + 1 } → wpAny (model X.prog X.w) X.A (f (.int i t) (.int j u)) Q E s) :
    OpR X f (rI C fun i j => .int (g i j)) := by
  intro pins s σ H x y v u Q I rx ry h
  obtain ⟨i, j, rfl, rfl, hc, q⟩ := h
  obtain ⟨t, rfl⟩ := rx
  obtain ⟨t', rfl⟩ := ry
  exact rule i j t t' s _ _ hc ⟨.int (g i j), H, I.tok _, ⟨_, rfl⟩, q⟩
theorem opI0 {f : Value → Value → Sem Value} {g : Int → Int → Int}
    (rule : ∀ (i j : Int) (t u : Tok) (s : Shared) (Q : Value → Shared → Prop) (E : Value → Shared → Prop), Q (.int (g i j) s.toks) { s with toks := s.toks + 1 } → wpAny (model X.prog X.w) X.A (f (.int i t) (.int j u)) Q E s) :
    OpR X f (rI0 fun i j => .int (g i j)) := by
  intro pins s σ H x y v u Q I rx ry h
  obtain ⟨i, j, rfl, rfl, q⟩ := h
  obtain ⟨t, rfl⟩ := rx
  obtain ⟨t', rfl⟩ := ry
  exact rule i j t t' s _ _ ⟨.int (g i j), H, I.tok _, ⟨_, rfl⟩, q⟩
theorem opB0 {f : Value → Value → Sem Value} {g : Int → Int → Bool}
    (rule : ∀ (i j : Int) (t u : Tok) (s : Shared) (Q : Value → Shared → Prop) (E : Value → Shared → Prop), Q (.bool (g i j)) s → wpAny (model X.prog X.w) X.A (f (.int i t) (.int j u)) Q E s) :
    OpR X f (rI0 fun i j => .bl (g i j)) := by
  intro pins s σ H x y v u Q I rx ry h
  obtain ⟨i, j, rfl, rfl, q⟩ := h
  obtain ⟨t, rfl⟩ := rx
  obtain ⟨t', rfl⟩ := ry
  exact rule i j t t' s _ _ ⟨.bl (g i j), H, I, rfl, q⟩

def CDiv (i j : Int) : Prop := 0 < j ∧ j < 1073741824
def CPow (i j : Int) : Prop := 0 ≤ j ∧ j ≤ 1000000 ∧ i.natAbs < 2 ^ 64
def CMul (i j : Int) : Prop := (-(2 ^ 64) < i ∧ i < 2 ^ 64) ∨ (-(2 ^ 64) < j ∧ j < 2 ^ 64)
theorem CMul.ok {i j : Int} (h : CMul i j) : IntMulOk i j := by
  rcases h with ⟨h1, h2⟩ | ⟨h1, h2⟩
  · exact .of_left (intBits_le_64 h1 h2)
  · exact .of_right (intBits_le_64 h1 h2)
theorem op_add : OpR X (binaryOp .Add) (rI0 fun i j => .int (i + j)) := opI0 fun _ _ _ _ _ _ _ q => add_int q
theorem op_sub : OpR X (binaryOp .Sub) (rI0 fun i j => .int (i - j)) := opI0 fun _ _ _ _ _ _ _ q => sub_int q
theorem op_mul : OpR X (binaryOp .Mult) (rI CMul fun i j => .int (i * j)) := opI fun _ _ _ _ _ _ _ hc q => mul_int q hc.ok
/-- // by a positive divisor -/
theorem op_fdiv : OpR X (binaryOp .FloorDiv) (rI CDiv fun i j => .int (i / j)) := opI fun i j _ _ _ _ _ hc q => by
  have h1 : (0 : Int) < j := hc.1
  have h2 : j < 1073741824 := hc.2
  exact floordiv_int (by omega) (by rw [Int.fdiv_eq_ediv_of_nonneg i (by omega)]; exact q) (.inl (PyProof.noPylong_small (by omega)))
/-- % by a positive divisor of any size -/
theorem op_mod : OpR X (binaryOp .Mod) (rI (fun _ j => 0 < j) fun i j => .int (i % j)) := opI fun i j _ _ _ _ _ hc q => by
  have h1 : (0 : Int) < j := hc
  exact mod_int' (by omega) (by rw [Int.fmod_eq_emod_of_nonneg i (by omega)]; exact q)
theorem op_pow : OpR X (binaryOp .Pow) (rI CPow fun i j => .int (i ^ j.toNat)) := opI fun _ _ _ _ _ _ _ hc q => pow_int_small hc.1 hc.2.1 hc.2.2 q
/-! ### bools among ints: n += (a < b) -/
end

/-! ### comparisons -/
/-- the scalars that == tells apart as data does -/
def scal : V → V → Bool
  | .non, .non => true | .non, .int _ => true | .int _, .non => true | .non, .bl _ => true | .bl _, .non => true | .non, .str _ => true | .str _, .non => true
  | .int _, .int _ => true | .bl _, .bl _ => true | .str _, .str _ => true | .byt _, .byt _ => true
  | .int _, .str _ => true | .str _, .int _ => true | .bl _, .str _ => true | .str _, .bl _ => true
  | _, _ => false
def rEq : R2 := fun x y H Q => scal x y = true ∧ Q (.bl (decide (x = y))) H
def rNe : R2 := fun x y H Q => scal x y = true ∧ Q (.bl (!decide (x = y))) H

theorem dec_int {i j : Int} : decide (V.int i = V.int j) = (i == j) := by
  rw [Bool.eq_iff_iff]
  simp
theorem dec_bl {i j : Bool} : decide (V.bl i = V.bl j) = (i == j) := by
  rw [Bool.eq_iff_iff]
  simp
theorem dec_str {i j : Str} : decide (V.str i = V.str j) = (i == j) := by
  rw [Bool.eq_iff_iff]
  simp
theorem dec_byt {i j : Array UInt8} : decide (V.byt i = V.byt j) = (i.toList == j.toList) := by
  rw [Bool.eq_iff_iff]
  cases i
  cases j
  simp

section
variable {X : Cx} {a b c : Expr} {ta tb tc : TE} {pos : Pos}
theorem fin_bl {pins : List (Addr × Obj)} {σ : St} {H : Hp} {s : Shared} {Q : VK} {k k' : Bool} (I : Inv X pins σ H s) (q : Q (.bl k) H) (e : k = k') : EP X pins σ Q (.bool k') s := by
  subst e
  exact ⟨.bl k, H, I, rfl, q⟩
theorem op_eq : OpR X (compareOp .Eq) rEq := by
  intro pins s σ H x y v u Q I rx ry h
  obtain ⟨hs, q⟩ := h
  cases x with
  | non =>
    cases rx
    cases y with
    | non => cases ry; exact PySem.EqNone.eq_none_none (fin_bl I q (by simp))
    | bl j => cases ry; exact PySem.EqNone.eq_none_bool (fin_bl I q (by simp))
    | int j => obtain ⟨t', rfl⟩ := ry; exact PySem.EqNone.eq_none_int (fin_bl I q (by simp))
    | str j => obtain ⟨t', rfl⟩ := ry; exact PySem.EqNone.eq_none_str (fin_bl I q (by simp))
    | _ => exact absurd (show false = true from hs) Bool.false_ne_true
  | bl i =>
    cases rx
    cases y with
    | non => cases ry; exact PySem.EqNone.eq_bool_none (fin_bl I q (by simp))
    | bl j => cases ry; exact eq_bool (fin_bl I q dec_bl)
    | str j => obtain ⟨t', rfl⟩ := ry; exact PySem.EqMixed.eq_bool_str (fin_bl I q (by simp))
    | _ => exact absurd (show false = true from hs) Bool.false_ne_true
  | int i =>
    obtain ⟨t, rfl⟩ := rx
    cases y with
    | non => cases ry; exact PySem.EqNone.eq_int_none (fin_bl I q (by simp))
    | int j => obtain ⟨t', rfl⟩ := ry; exact eq_int (fin_bl I q dec_int)
    | str j => obtain ⟨t', rfl⟩ := ry; exact PySem.EqMixed.eq_int_str (fin_bl I q (by simp))
    | _ => exact absurd (show false = true from hs) Bool.false_ne_true
  | str i =>
    obtain ⟨t, rfl⟩ := rx
    cases y with
    | non => cases ry; exact PySem.EqNone.eq_str_none (fin_bl I q (by simp))
    | bl j => cases ry; exact PySem.EqMixed.eq_str_bool (fin_bl I q (by simp))
    | int j => obtain ⟨t', rfl⟩ := ry; exact PySem.EqMixed.eq_str_int (fin_bl I q (by simp))
    | str j => obtain ⟨t', rfl⟩ := ry; exact eq_str (fin_bl I q dec_str)
    | _ => exact absurd (show false = true from hs) Bool.false_ne_true
  | byt i =>
    obtain ⟨t, rfl⟩ := rx
    cases y with
    | byt j => obtain ⟨t', rfl⟩ := ry; exact PySem.W.eq_bytes (fin_bl I q dec_byt)
    | _ => exact absurd (show false = true from hs) Bool.false_ne_true
  | _ => cases y <;> exact absurd (show false = true from hs) Bool.false_ne_true
theorem op_ne : OpR X (compareOp .NotEq) rNe := by
  intro pins s σ H x y v u Q I rx ry h
  obtain ⟨hs, q⟩ := h
  cases x with
  | non =>
    cases rx
    cases y with
    | non => cases ry; exact PySem.EqNone.ne_none_none (fin_bl I q (by simp))
    | bl j => cases ry; exact PySem.EqNone.ne_none_bool (fin_bl I q (by simp))
    | int j => obtain ⟨t', rfl⟩ := ry; exact PySem.EqNone.ne_none_int (fin_bl I q (by simp))
    | str j => obtain ⟨t', rfl⟩ := ry; exact PySem.EqNone.ne_none_str (fin_bl I q (by simp))
    | _ => exact absurd (show false = true from hs) Bool.false_ne_true
  | bl i =>
    cases rx
    cases y with
    | non => cases ry; exact PySem.EqNone.ne_bool_none (fin_bl I q (by simp))
    | bl j => cases ry; exact ne_bool (fin_bl I q (congrArg not dec_bl))
    | str j => obtain ⟨t', rfl⟩ := ry; exact PySem.EqMixed.ne_bool_str (fin_bl I q (by simp))
    | _ => exact absurd (show false = true from hs) Bool.false_ne_true
  | int i =>
    obtain ⟨t, rfl⟩ := rx
    cases y with
    | non => cases ry; exact PySem.EqNone.ne_int_none (fin_bl I q (by simp))
    | int j => obtain ⟨t', rfl⟩ := ry; exact ne_int (fin_bl I q (congrArg not dec_int))
    | str j => obtain ⟨t', rfl⟩ := ry; exact PySem.EqMixed.ne_int_str (fin_bl I q (by simp))
    | _ => exact absurd (show false = true from hs) Bool.false_ne_true
  | str i =>
    obtain ⟨t, rfl⟩ := rx
    cases y with
    | non => cases ry; exact PySem.EqNone.ne_str_none (fin_bl I q (by simp))
    | bl j => cases ry; exact PySem.EqMixed.ne_str_bool (fin_bl I q (by simp))
    | int j => obtain ⟨t', rfl⟩ := ry; exact PySem.EqMixed.ne_str_int (fin_bl I q (by simp))
    | str j => obtain ⟨t', rfl⟩ := ry; exact ne_str (fin_bl I q (congrArg not dec_str))
    | _ => exact absurd (show false = true from hs) Bool.false_ne_true
  | byt i =>
    obtain ⟨t, rfl⟩ := rx
    cases y with
    | byt j => obtain ⟨t', rfl⟩ := ry; exact PySem.W.ne_bytes (fin_bl I q (congrArg not dec_byt))
    | _ => exact absurd (show false = true from hs) Bool.false_ne_true
  | _ => cases y <;> exact absurd (show false = true from hs) Bool.false_ne_true

theorem op_lt : OpR X (compareOp .Lt) (rI0 fun i j => .bl (decide (i < j))) := opB0 fun _ _ _ _ _ _ _ q => lt_int q
theorem op_le : OpR X (compareOp .LtE) (rI0 fun i j => .bl (decide (i ≤ j))) := opB0 fun _ _ _ _ _ _ _ q => le_int q
theorem op_gt : OpR X (compareOp .Gt) (rI0 fun i j => .bl (decide (j < i))) := opB0 fun _ _ _ _ _ _ _ q => gt_int q
theorem op_ge : OpR X (compareOp .GtE) (rI0 fun i j => .bl (decide (j ≤ i))) := opB0 fun _ _ _ _ _ _ _ q => ge_int q
theorem op_notN : OpR X (compareOp .IsNot) (fun x y H Q => y = .non ∧ Q (.bl (!decide (x = .non))) H) := by
  intro pins s σ H x y v u Q I rx ry h
  obtain ⟨rfl, q⟩ := h
  cases ry
  refine isnot_none_gen (fin_bl I q ?_)
  cases x <;> first
    | (cases rx; rfl)
    | (obtain ⟨t, rfl⟩ := rx; rfl)

/-- two rules for one operation: by cases -/
theorem OpR.or {f : Value → Value → Sem Value} {r r' : R2} (h : OpR X f r) (h' : OpR X f r') : OpR X f (fun x y H Q => r x y H Q ∨ r' x y H Q) := by
  intro pins s σ H x y v u Q I rx ry q
  rcases q with q | q
  · exact h pins s σ H x y v u Q I rx ry q
  · exact h' pins s σ H x y v u Q I rx ry q

theorem nomark (b : Expr) {op : CmpOp} (h : op ≠ .In := by decide) (h2 : op ≠ .NotIn := by decide) : behindInMarks op b = false := by
  have e1 : (op == CmpOp.In) = false := by cases op <;> first | rfl | exact absurd rfl h
  have e2 : (op == CmpOp.NotIn) = false := by cases op <;> first | rfl | exact absurd rfl h2
  cases b <;> simp [behindInMarks, e1, e2]
/-- a comparison as a value; hm: nomark b, or (for in, not in) by with_unfolding_all rfl -/
theorem pe_cmpR {op : CmpOp} {r : R2} (ho : OpR X (compareOp op) r) (ha : PE X a ta) (hb : PE X b tb) (hm : behindInMarks op b = false) : PE X (.Compare a [op] [b] pos) (tOp r ta tb) := by
  intro pins s σ H Q I h
  exact wpAny_Compare1 (binT ha hb I h fun v u s2 x y H2 I2 rx ry q => ho pins s2 σ H2 x y v u Q I2 rx ry q) hm
/-- a reading of a value as a test -/
def tTest (t : TE) : TT := fun σ H Q => t σ H fun x H' => ∃ k, x = .bl k ∧ Q k H'
theorem pt_cmpR {op : CmpOp} {r : R2} (ho : OpR X (compareOp op) r) (ha : PE X a ta) (hb : PE X b tb) (hm : behindInMarks op b = false) : PT X (.Compare a [op] [b] pos) (tTest (tOp r ta tb)) := by
  intro pins s σ H Q I h
  refine wpAny_isTrue_Compare1 (thn (ha pins s σ H _ I h) fun v s1 ⟨x, H1, I1, r1, q1⟩ => thn (hb pins s1 σ H1 _ I1 q1) fun u s2 ⟨y, H2, I2, r2, q2⟩ =>
    thn (ho pins s2 σ H2 x y v u _ I2 r1 r2 q2) fun c s3 ⟨z, H3, I3, r3, k, e, q3⟩ => ?_) hm
  subst e
  cases r3
  exact wpAny_truthy_bool ⟨H3, I3, q3⟩
/-- a op1 b op2 c -/
def tChain (r r' : R2) (ta tb tc : TE) : TE := fun σ H Q => ta σ H fun x H1 => tb σ H1 fun y H2 => r x y H2 fun z H3 => ∃ k, z = .bl k ∧
  (if k = true then tc σ H3 fun w' H4 => r' y w' H4 Q else Q (.bl false) H3)
/-! ### truth -/
theorem line63 : (sizeLine : Nat) < 2 ^ 63 := by rw [sizeLine_eq]; decide
/-! ### strs and bytes -/
theorem op_add_str : OpR X (binaryOp .Add) (fun x y H Q => ∃ i j, x = .str i ∧ y = .str j ∧ i.length + j.length ≤ sizeLine ∧ Q (.str (i ++ j)) H) := by
  intro pins s σ H x y v u Q I rx ry h
  obtain ⟨i, j, rfl, rfl, hz, q⟩ := h
  obtain ⟨t, rfl⟩ := rx
  obtain ⟨t', rfl⟩ := ry
  exact add_str (fun t' tk => ⟨.str (i ++ j), H, I.tok _, ⟨_, rfl⟩, q⟩) hz
/-! ### scalar builtins, by CallR -/
theorem vals1 {x : V} {us : List Value} (r : Vals [x] us) : ∃ u, us = [u] ∧ RelV x u := by
  cases r with
  | cons r1 r2 => cases r2; exact ⟨_, rfl, r1⟩
theorem vals2 {x y : V} {us : List Value} (r : Vals [x, y] us) : ∃ u w', us = [u, w'] ∧ RelV x u ∧ RelV y w' := by
  cases r with
  | cons r1 r2 =>
    cases r2 with
    | cons r3 r4 => cases r4; exact ⟨_, _, rfl, r1, r3⟩
theorem call_min2 (hc : X.calm = true) : CallR X (.builtin "min") (fun xs H Q => ∃ i j, xs = [.int i, .int j] ∧ Q (.int (if j < i then j else i)) H) := by
  intro pins s σ H xs us Q I r h
  obtain ⟨i, j, rfl, q⟩ := h
  obtain ⟨u, w', rfl, ⟨t, rfl⟩, ⟨t', rfl⟩⟩ := vals2 r
  refine min_two_ints (I.ok.hd hc) fun h' tk k => ⟨_, H, I.kept k, ?_, q⟩
  by_cases hj : j < i
  · rw [if_pos hj, if_pos hj]; exact ⟨_, rfl⟩
  · rw [if_neg hj, if_neg hj]; exact ⟨_, rfl⟩
theorem call_int1 : CallR X (.type "int") (fun xs H Q => (∃ i, xs = [.int i] ∧ Q (.int i) H) ∨ ∃ k, xs = [.bl k] ∧ Q (.int (if k then 1 else 0)) H) := by
  intro pins s σ H xs us Q I r h
  rcases h with ⟨i, rfl, q⟩ | ⟨k, rfl, q⟩
  · obtain ⟨u, rfl, t, rfl⟩ := vals1 r
    exact call_int_int ⟨.int i, H, I, ⟨_, rfl⟩, q⟩
  · obtain ⟨u, rfl, r1⟩ := vals1 r
    cases r1
    exact call_int_bool ⟨.int (if k then 1 else 0), H, I.tok _, ⟨_, rfl⟩, q⟩
/-- divmod: a new tuple -/
theorem call_divmod : CallR X (.builtin "divmod") (fun xs H Q => ∃ i j, xs = [.int i, .int j] ∧ CDiv i j ∧ ∀ p, H p = none → Q (.ref p) (upd H p (.tup [.int (i / j), .int (i % j)]))) := by
  intro pins s σ H xs us Q I r h
  obtain ⟨i, j, rfl, ⟨h1, h2⟩, q⟩ := h
  obtain ⟨u, w', rfl, ⟨t, rfl⟩, ⟨t', rfl⟩⟩ := vals2 r
  refine divmod_int (by omega) ?_ (.inl (PyProof.noPylong_small (by omega)))
  rw [Int.fdiv_eq_ediv_of_nonneg i (by omega), Int.fmod_eq_emod_of_nonneg i (by omega)]
  have hn : H s.heap.objs.size = none := I.hok.fresh (Nat.le_refl _)
  refine ⟨.ref s.heap.objs.size, _, ?_, rfl, q _ hn⟩
  refine I.laid (fun b o e => Heap.get?_push_of_some _ e) (Nat.le_refl _) ⟨by simp only [List.length_cons, List.length_nil]; rw [sizeLine_eq]; decide, [.int (i / j) s.toks, .int (i % j) (s.toks + 1)], .cons ⟨_, rfl⟩ (.cons ⟨_, rfl⟩ .nil), ?_⟩
  exact ⟨_, Heap.get?_push_size s.heap rfl, rfl, 0, rfl⟩
end
end L2

namespace L2
open PySem PySem.Spec PyProof.Rows

/-! ### an instance, its attributes a map -/
structure ObjM (h : Heap) (x dx C : Addr) (mA : Str → Option Value) : Prop where
  obj : h.get? x = some (PySem.W.instObj C dx)
  ns : h.Ns1 dx mA
  ne : dx ≠ x

theorem lookIn_ns {h : Heap} {dx : Addr} {mA : Str → Option Value} (n : h.Ns1 dx mA) : ∃ od, h.get? dx = some od ∧ ∀ name, PySem.W.lookIn name od = some (mA name) := by
  obtain ⟨o, es, ep, ho, hd, hk, _, hm⟩ := n
  refine ⟨o, ho, fun name => ?_⟩
  have e := hm name
  unfold nsFind findBy at e
  rw [← Array.find?_toList] at e
  unfold PySem.W.lookIn
  rw [hd]
  dsimp only
  split
  · rename_i y q
    rw [q] at e
    exact congrArg some e
  · rename_i q
    rw [q] at e
    have a : es.toList.any (·.refKey) = false := by
      rw [List.any_eq_false]
      intro y hy
      obtain ⟨z, t, hkey⟩ := hk y (Array.mem_toList_iff.mp hy)
      simp [DictEntry.refKey, hkey]
    have a' : ¬ es.toList.any (·.refKey) = true := by rw [a]; exact Bool.false_ne_true
    rw [if_neg a']
    exact congrArg some e

theorem ObjM.look {h : Heap} {x dx C : Addr} {mA : Str → Option Value} (I : ObjM h x dx C mA) : ∃ od, PySem.W.InstAt h x (PySem.W.instObj C dx) C (some od) ∧ ∀ name, PySem.W.lookIn name od = some (mA name) :=
  let ⟨od, ho, hl⟩ := lookIn_ns I.ns
  ⟨od, ⟨I.obj, rfl, rfl, ho⟩, hl⟩

section
variable {prog : Program} {w : World} {A : Around} {E : Value → Shared → Prop} {s : Shared} {K : PySem.W.Frag} {x dx C f : Addr} {mA : Str → Option Value} {name : Str} {v : Value}

end

/-! ### the attributes as a list of pairs -/
theorem RelO.some_of {v : V} {o : Option Value} (r : RelO (some v) o) : ∃ u, o = some u ∧ RelV v u := by
  cases o with
  | none => exact (show False from r).elim
  | some u => exact ⟨u, rfl, r⟩
theorem RelO.none_of {o : Option Value} (r : RelO none o) : o = none := by
  cases o with
  | none => rfl
  | some u => exact (show False from r).elim
section
variable {P : Program} {w : World} {H H' : Hp} {h h' : Heap} {a C dx : Addr} {fs fs' : List (Str × V)}
theorem ins_get (hok : HOk P w H h) (e : H a = some (.ins C dx fs)) : ∃ mA, ObjM h a dx C mA ∧ (∀ f, RelO (fs.lookup f) (mA f)) ∧ PySem.Within mA (fs.map (·.1)) ∧ fs.length ≤ 1000 ∧ H dx = some (.own a) := by
  obtain ⟨d, z, ne, ob, mA, n, r, q⟩ := (show ObjOk P w H h a (.ins C dx fs) from hok a _ e)
  exact ⟨mA, ⟨ob, n, ne⟩, r, q, z, d⟩
end

/-! ### what of the text a class must have -/
structure Cls (K : PySem.W.Frag) (C : Addr) : Prop where
  pg : PySem.W.plainGet K C Str.empty = true
  hd : PySem.W.hasDictIn K C = true
  po : PySem.W.plainOver K C = true
  sa : PySem.W.findIn K (.ref C) "__setattr__" = some (some (.builtin "object.__setattr__"))
theorem Cls.get {K : PySem.W.Frag} {C : Addr} (c : Cls K C) (f : Str) : PySem.W.plainGet K C f = true := c.pg
/-- a constant of the class -/
structure Con (K : PySem.W.Frag) (C : Addr) (f : Str) (v : V) (u : Value) : Prop where
  at_ : PySem.W.findIn K (.ref C) f = some (some u)
  rel : RelV v u
  get : PySem.W.specialIn K u "__get__" = some none
  cp : PySem.W.copiedNames.contains f = false
/-- a method: a plain def of the class or of one above it -/
structure Meth (K : PySem.W.Frag) (C : Addr) (m : Str) (f : Addr) : Prop where
  at_ : PySem.W.findIn K (.ref C) m = some (some (.ref f))
  fn : PySem.W.isFn K (.ref f) = true
  kp : PySem.W.keepIn K (.ref f) = true

section
variable {X : Cx} {pins : List (Addr × Obj)} {σ : St} {H : Hp} {s : Shared} {a C dx : Addr} {fs : List (Str × V)} {f : Str} {v : V} {A : Around} {E : Value → Shared → Prop}

end

/-! ### readings and rules -/
section
variable {X : Cx} {o e value : Expr} {f : Str} {pos pos' tpos : Pos} {ta tv : TE}
end

/-! ### isinstance -/
section
variable {X : Cx} {pins : List (Addr × Obj)} {σ : St} {H : Hp} {s : Shared} {A : Around} {E : Value → Shared → Prop} {Q : Value → Shared → Prop} {c : Value} {b : Bool}
/-- the type of a value, as the fragment's deciders take it; for an instance its class -/
inductive TyOf (K : PySem.W.Frag) (H : Hp) : V → Value → Prop where
  | non : TyOf K H .non (.type "NoneType")
  | bl (x : Bool) : TyOf K H (.bl x) (.type "bool")
  | int (i : Int) : TyOf K H (.int i) (.type "int")
  | str (x : Str) : TyOf K H (.str x) (.type "str")
  | flt (x : UInt64) : TyOf K H (.flt x) (.type "float")
  | lst {a : Addr} {xs : List V} (e : H a = some (.lst xs)) : TyOf K H (.ref a) (.type "list")
  | frz {a : Addr} {o : Obj} {xs : List V} (e : H a = some (.frz o (.lst xs))) : TyOf K H (.ref a) (.type "list")
  | tup {a : Addr} {xs : List V} (e : H a = some (.tup xs)) : TyOf K H (.ref a) (.type "tuple")
  | dK {a : Addr} {kvs : List (Key × V)} (e : H a = some (.dK kvs)) : TyOf K H (.ref a) (.type "dict")
  | dT {a : Addr} {kvs : List (List Key × V)} (e : H a = some (.dT kvs)) : TyOf K H (.ref a) (.type "dict")
  | ins {a C dx : Addr} {fs : List (Str × V)} (e : H a = some (.ins C dx fs)) (cl : Cls K C) (ha : PySem.W.findIn K (.ref C) "__class__" = some (some (.builtin "object.__class__")))
      (hn : PySem.W.specialIn K (.builtin "object.__class__") "__get__" = some (some (.builtin "getset_descriptor.__get__"))) (htk : PySem.W.takesIn K (.builtin "object.__class__") = some true)
      (hm : PySem.W.mroIn K C (.type "object") = some true) : TyOf K H (.ref a) (.ref C)
/-- isinstance(x, c) for one class c, a built-in or an own one: kitOne's answer -/
theorem isinst_ok {x : V} {u t : Value} (I : Inv X pins σ H s) (rx : RelV x u) (ty : TyOf X.K H x t) (e : PySem.W.kitOne X.K t c = some b) (h : ∀ tk, Q (.bool b) { s with toks := tk }) :
    wpAny (model X.prog X.w) A (call (.builtin "isinstance") [u, c]) Q E s := by
  cases ty with
  | non => cases (show u = Value.none from rx); exact PySem.W.kia_one PySem.W.kitx_none I.kIn True.intro e (fun z => nomatch z) h
  | bl y => cases (show u = Value.bool y from rx); exact PySem.W.kia_one PySem.W.kitx_bool I.kIn True.intro e (fun z => nomatch z) h
  | int i => obtain ⟨t, q⟩ := (show ∃ t, u = Value.int i t from rx); cases q; exact PySem.W.kia_one PySem.W.kitx_int I.kIn True.intro e (fun z => nomatch z) h
  | str y => obtain ⟨t, q⟩ := (show ∃ t, u = Value.str y t from rx); cases q; exact PySem.W.kia_one PySem.W.kitx_str I.kIn True.intro e (fun z => nomatch z) h
  | flt y => obtain ⟨t, q⟩ := (show ∃ t, u = Value.float y t from rx); cases q; exact PySem.W.kia_one PySem.W.kitx_float I.kIn True.intro e (fun z => nomatch z) h
  | @lst a xs ea =>
    cases (show u = Value.ref a from rx)
    obtain ⟨_, _, n, _, h1⟩ := (show ObjOk X.prog X.w H s.heap a (.lst xs) from I.hok a _ ea)
    exact PySem.W.kia_one PySem.W.kitx_list I.kIn ⟨_, h1, rfl⟩ e (fun z => nomatch z) h
  | @frz a ob xs ea =>
    cases (show u = Value.ref a from rx)
    obtain ⟨_, _, _, n, _, h1⟩ := (show ObjOk X.prog X.w H s.heap a (.frz ob (.lst xs)) from I.hok a _ ea)
    exact PySem.W.kia_one PySem.W.kitx_list I.kIn ⟨_, h1, rfl⟩ e (fun z => nomatch z) h
  | @tup a xs ea =>
    cases (show u = Value.ref a from rx)
    obtain ⟨_, _, _, p⟩ := (show ObjOk X.prog X.w H s.heap a (.tup xs) from I.hok a _ ea)
    obtain ⟨o, h1, h2, _⟩ := p
    exact PySem.W.kia_one PySem.W.kitx_tuple I.kIn ⟨o, h1, h2⟩ e (fun z => nomatch z) h
  | @dK a kvs ea =>
    cases (show u = Value.ref a from rx)
    obtain ⟨_, _, vs, _, p⟩ := (show ObjOk X.prog X.w H s.heap a (.dK kvs) from I.hok a _ ea)
    obtain ⟨o, es, ep, h1, h2, _⟩ := p
    exact PySem.W.kia_one PySem.W.kitx_dict I.kIn ⟨o, h1, h2.1⟩ e (fun z => nomatch z) h
  | @dT a kvs ea =>
    cases (show u = Value.ref a from rx)
    obtain ⟨_, _, xs, _, o, es, ep, h1, h2, _⟩ := (show ObjOk X.prog X.w H s.heap a (.dT kvs) from I.hok a _ ea)
    exact PySem.W.kia_one PySem.W.kitx_dict I.kIn ⟨o, h1, h2.1⟩ e (fun z => nomatch z) h
  | @ins a C dx fs ea cl ha hn htk hm =>
    cases (show u = Value.ref a from rx)
    obtain ⟨mA, O, _⟩ := ins_get I.hok ea
    obtain ⟨od, J, _⟩ := O.look
    exact PySem.W.kia_one (PySem.W.kitx_own (cl.get _) cl.hd ha hn htk hm) I.kIn J e (fun z => nomatch z) h
end
end L2

namespace L2
open PySem PySem.Spec PyProof.Rows

/-! ### room -/
structure Room (k : Nat) (A : Around) : Prop where
  hd : A.handled = none
  dp : A.depth + 3 * k + 5 < recursionLimit
  un : A.units + 16 * k + 200 < cLine
theorem Room.mono {j k : Nat} {A : Around} (r : Room k A) (h : j ≤ k) : Room j A := ⟨r.hd, by have := r.dp; omega, by have := r.un; omega⟩
theorem Room.deeper {k : Nat} {A : Around} (r : Room (k + 1) A) (env : Env) : Room k (A.deeper env) :=
  ⟨r.hd, by have := r.dp; show A.depth + 1 + 3 * k + 5 < _; omega, by have := r.un; show A.units + 3 + 16 * k + 200 < _; omega⟩
theorem Room.in1 {k : Nat} {A : Around} (r : Room (k + 1) A) : Room k A.in1 :=
  ⟨r.hd, by have := r.dp; show A.depth + 3 * k + 5 < _; omega, by have := r.un; show A.units + 1 + 16 * k + 200 < _; omega⟩
theorem make_depth {A : Around} {C : Addr} {us : List Value} {kw : List (Str × Value)} : (A.under (.builtin "type.__call__" ⟨.ref C :: us, kw⟩)).depth = A.depth + 1 := by
  first | rfl | simp [Around.under, Code.weight, Code.isCreation, Code.isGuard, Code.isCaller, Code.frames, Code.isFrame, guardIds]
theorem make_units {A : Around} {C : Addr} {us : List Value} {kw : List (Str × Value)} : (A.under (.builtin "type.__call__" ⟨.ref C :: us, kw⟩)).units = A.units + 1 := by
  first | rfl | simp [Around.under, Code.cUnits, Code.frames, Code.isFrame]
theorem Room.make {k : Nat} {A : Around} (r : Room (k + 1) A) (C : Addr) (us : List Value) (kw : List (Str × Value)) : Room k (A.under (.builtin "type.__call__" ⟨.ref C :: us, kw⟩)) :=
  ⟨r.hd, by have := r.dp; rw [make_depth]; omega, by have := r.un; rw [make_units]; omega⟩
theorem Room.depth {k : Nat} {A : Around} (r : Room k A) : A.depth < recursionLimit := by have := r.dp; omega
theorem Room.units {k : Nat} {A : Around} (r : Room k A) : A.units + 64 < cLine := by have := r.un; omega
/-! ### argument lists and displays -/
def tNil : TA := fun _ H Q => Q [] H
def tCons (ta : TE) (tr : TA) : TA := fun σ H Q => ta σ H fun x H1 => tr σ H1 fun xs H2 => Q (x :: xs) H2
section
variable {X : Cx} {e : Expr} {es : List Expr} {te : TE} {t : TA} {pos : Pos}
theorem pa_nil : PA X [] tNil := fun _ _ _ _ H Q I h => Calls.spliced_nil ⟨[], H, I, .nil, h⟩
theorem pa_cons (ha : PE X e te) (hr : PA X es t) (hs : starEach (e :: es) X.env = (false, eval e X.env) :: starEach es X.env := by rfl) : PA X (e :: es) (tCons te t) := by
  intro pos pins s σ H Q I h
  rw [hs]
  show wpAny _ _ (spliced ((false, eval e X.env) :: backTo pos (starEach es X.env))) _ _ s
  refine Calls.spliced_cons (thn (ha pins s σ H _ I h) fun u s1 ⟨x, H1, I1, r1, q1⟩ => ?_)
  exact thn (hr pos pins s1 σ H1 _ I1 q1) fun us s2 ⟨xs, H2, I2, r2, q2⟩ => ⟨x :: xs, H2, I2, .cons r1 r2, q2⟩

/-- a tuple, a list of written items -/
def tTup (t : TA) : TE := fun σ H Q => t σ H fun xs H1 => xs.length ≤ sizeLine ∧ ∀ p, H1 p = none → Q (.ref p) (upd H1 p (.tup xs))
def tLst (t : TA) : TE := fun σ H Q => t σ H fun xs H1 => xs.length ≤ sizeLine ∧ ∀ p, H1 p = none → Q (.ref p) (upd H1 p (.lst xs))
theorem pe_tup {x1} (h : PA X es t) : PE X (.Tuple es x1 pos) (tTup t) := by
  intro pins s σ H Q I hq
  refine wpAny_Tuple_spliced (thn (h pos pins s σ H _ I hq) fun us s1 ⟨xs, H1, I1, r, z, q⟩ => ⟨by rw [← r.length]; exact z, ?_⟩)
  have hf : H1 s1.heap.objs.size = none := I1.hok.fresh (Nat.le_refl _)
  refine ⟨.ref s1.heap.objs.size, upd H1 s1.heap.objs.size (.tup xs), I1.laid (t' := s1.toks) (fun b u e => Heap.get?_push_of_some _ e) (Nat.le_refl _) ?_, rfl, q _ hf⟩
  exact ⟨z, us, r, ⟨_, Heap.get?_push_size _ rfl, rfl, _, rfl⟩⟩
end

/-! ### what a def promises -/
/-- a def's promise: the bound arguments in the parameters' order, the heap, the wanted end, the wanted exception -/
abbrev Sp := List V → Hp → VK → XK → Prop
/-- how an exception lies behind a call (file 08 gives it): the callers' frames, abstract heap and state ahead of the call, the wish, the exception, the state -/
abbrev CXT := List Env → Hp → Shared → XK → Value → Shared → Prop

/-- the state at a call -/
structure Env0 (P : Program) (w : World) (K : PySem.W.Frag) (mg : Str → Option Value) (base : Heap) (A : Around) (outer : List Env) (s : Shared) (H : Hp) : Prop where
  frames : A.frames = some outer
  mod : Mod K mg base
  bs : ∀ b o, base.get? b = some o → s.heap.get? b = some o ∧ H b = none
  bsz : base.objs.size ≤ s.heap.objs.size
  funs : s.heap.FunFrames base outer
  frf : ∀ b ∈ frs outer, H b = none
  hok : HOk P w H s.heap
  bare : AllBare s.gens
/-- a call's end -/
def CE (outer : List Env) (P : Program) (w : World) (H : Hp) (s : Shared) (Q : VK) (u : Value) (s' : Shared) : Prop :=
  ∃ v H', s'.os = s.os ∧ AllBare s'.gens ∧ Un (frs outer) [] H H' s.heap s'.heap ∧ HOk P w H' s'.heap ∧ RelV v u ∧ Q v H'
def CR (CX : CXT) (outer : List Env) (P : Program) (w : World) (H : Hp) (s : Shared) (Q : VK) (E : XK) (r : Result) (s' : Shared) : Prop :=
  match r with
  | .ok (.ret u) => CE outer P w H s Q u s'
  | .ok _ => False
  | .error e => CX outer H s E e s'
structure FnOk (P : Program) (w : World) (K : PySem.W.Frag) (mg : Str → Option Value) (base : Heap) (CX : CXT) (k : Nat) (f : Addr) (fd : FuncData) (ps : List Str) (sp : Sp) : Prop where
  len : ∀ vs H Q E, sp vs H Q E → vs.length = ps.length
  run : ∀ (A : Around) (outer : List Env) (s : Shared) (H : Hp) (args : Args) (us : List Value) (vs : List V) (Q : VK) (E : XK), Room k A → Env0 P w K mg base A outer s H → BindsTo s fd args (ps.zip us) → Vals vs us → sp vs H Q E →
    codeAny (model P w) A (.call (.ref f) args) (CR CX outer P w H s Q E) s
theorem FnOk.mono {P : Program} {w : World} {K : PySem.W.Frag} {mg : Str → Option Value} {base : Heap} {CX : CXT} {j k : Nat} {f : Addr} {fd : FuncData} {ps : List Str} {sp : Sp} (F : FnOk P w K mg base CX j f fd ps sp) (h : j ≤ k) :
    FnOk P w K mg base CX k f fd ps sp := ⟨F.len, fun A outer s H args us vs Q E hr => F.run A outer s H args us vs Q E (hr.mono h)⟩
/-- a weaker promise -/
theorem FnOk.imp {P : Program} {w : World} {K : PySem.W.Frag} {mg : Str → Option Value} {base : Heap} {CX : CXT} {k : Nat} {f : Addr} {fd : FuncData} {ps : List Str} {sp sp' : Sp} (F : FnOk P w K mg base CX k f fd ps sp)
    (h : ∀ vs H Q E, sp' vs H Q E → sp vs H Q E) : FnOk P w K mg base CX k f fd ps sp' :=
  ⟨fun vs H Q E q => F.len vs H Q E (h _ _ _ _ q), fun A outer s H args us vs Q E hr he hb hv hs => F.run A outer s H args us vs Q E hr he hb hv (h _ _ _ _ hs)⟩

theorem Env0.make {P : Program} {w : World} {K : PySem.W.Frag} {mg : Str → Option Value} {base : Heap} {A : Around} {outer : List Env} {s : Shared} {H : Hp} (e : Env0 P w K mg base A outer s H) (C : Addr) (us : List Value) (kw : List (Str × Value)) :
    Env0 P w K mg base (A.under (.builtin "type.__call__" ⟨.ref C :: us, kw⟩)) outer s H := ⟨by first | exact e.frames | (simpa [Around.under, Code.envs, Code.isFrame, pushEnvs] using e.frames), e.mod, e.bs, e.bsz, e.funs, e.frf, e.hok, e.bare⟩
theorem Env0.in1 {P : Program} {w : World} {K : PySem.W.Frag} {mg : Str → Option Value} {base : Heap} {A : Around} {outer : List Env} {s : Shared} {H : Hp} (e : Env0 P w K mg base A outer s H) :
    Env0 P w K mg base A.in1 outer s H := ⟨e.frames, e.mod, e.bs, e.bsz, e.funs, e.frf, e.hok, e.bare⟩

section
variable {X : Cx} {pins : List (Addr × Obj)} {σ : St} {H : Hp} {s s' : Shared}
/-- from a body: what a callee wants -/
theorem Inv.env0 (I : Inv X pins σ H s) : Env0 X.prog X.w X.K X.mg X.base X.A X.stack s H :=
  ⟨I.ok.frames, I.ok.mod, I.bs, Nat.le_trans I.ok.bsz I.sz, I.stack, I.stkFree, I.hok, I.bare⟩
/-- behind a call -/
theorem Inv.after {Q : VK} {u : Value} (I : Inv X pins σ H s) (h : CE X.stack X.prog X.w H s Q u s') : EP X pins σ Q u s' := by
  obtain ⟨v, H', os, bare, un, hok, r, q⟩ := h
  obtain ⟨hh, g, d, t, os'⟩ := s'
  obtain rfl : os' = s.os := os
  exact ⟨v, H', I.call (h' := hh) (g' := g) (d' := d) (t' := t) (ch := []) un hok bare (fun b z => absurd z (by simp)), r, q⟩
end

/-! ### calls -/
/-- how the parameters are bound: us the positional arguments, kw the keywords' values by name, ds the defaults that fill up -/
def Binds (K : PySem.W.Frag) (fd : FuncData) (ps : List Str) (ds : List Value) : Prop :=
  ∀ (s : Shared) (us : List Value), K.In s.heap → (us ++ ds).length = ps.length → BindsTo s fd ⟨us, []⟩ (ps.zip (us ++ ds))
/-- every parameter is given -/
theorem Binds.all {K : PySem.W.Frag} {fd : FuncData} {ps : List Str} (h : ∀ us : List Value, us.length = ps.length → bindArgs fd ⟨us, []⟩ = pure (ps.zip us)) : Binds K fd ps [] := fun s us _ hl => by
  rw [List.append_nil] at hl ⊢
  exact .of_eq (h us hl)

section
variable {X : Cx} {CX : CXT} {k : Nat} {f C : Addr} {fd : FuncData} {ps : List Str} {sp : Sp} {dvs : List V} {ds : List Value} {E : XK} {x m : Str} {p pos apos : Pos} {e o : Expr} {es : List Expr} {ta : TE} {t : TA}

/-- what a class must have to be made -/
structure Mk (K : PySem.W.Frag) (C f : Addr) : Prop where
  makes : PySem.W.makesIn K C = true
  init : PySem.W.findIn K (.ref C) "__init__" = some (some (.ref f))
  fn : PySem.W.isFn K (.ref f) = true
  kp : PySem.W.keepIn K (.ref C) = true

end

/-! ### keywords -/
/-- the values of the keywords, from the left -/
def PK (X : Cx) (kws : List Keyword) (t : TA) : Prop :=
  ∀ (pos : Pos) (pins : List (Addr × Obj)) (s : Shared) (σ : St) (H : Hp) (Q : List V → Hp → Prop), Inv X pins σ H s → t σ H Q → wpAny (model X.prog X.w) X.A (evalAll ((backToKw pos (keywordEach kws X.env)).map (·.2))) (AP X pins σ Q) X.xe s
section
variable {X : Cx} {CX : CXT} {k : Nat} {f C : Addr} {fd : FuncData} {ps ks : List Str} {sp : Sp} {E : XK} {x m : Str} {p pos apos kpos : Pos} {e o : Expr} {es : List Expr} {kws : List Keyword} {te ta : TE} {t tk : TA} {nm : Option Str}
theorem pk_nil : PK X [] tNil := fun _ _ _ _ H Q I h => wpAny_evalAll_nil ⟨[], H, I, .nil, h⟩
theorem pk_cons (ha : PE X e te) (hr : PK X kws t) : PK X (⟨nm, e, kpos⟩ :: kws) (tCons te t) := by
  intro pos pins s σ H Q I h
  show wpAny _ _ (evalAll ((do let v ← eval e X.env; standAt pos; pure v) :: (backToKw pos (keywordEach kws X.env)).map (·.2))) _ _ s
  refine wpAny_evalAll_cons (wpAny_bind (thn (ha pins s σ H _ I h) fun u s1 ⟨x, H1, I1, r1, q1⟩ => wpAny_bind (wpAny_standAt (wpAny_pure ?_))))
  exact thn (hr pos pins s1 σ H1 _ I1 q1) fun us s2 ⟨xs, H2, I2, r2, q2⟩ => ⟨x :: xs, H2, I2, .cons r1 r2, q2⟩

/-- how a call with keywords binds: g puts the positional values us and the keywords' values ws (names ks) in the parameters' order, defaults among them -/
structure KBinds (K : PySem.W.Frag) (fd : FuncData) (ps ks : List Str) (g : List Value → List Value → List Value) (gV : List V → List V → List V) : Prop where
  to : ∀ (s : Shared) (us ws : List Value), K.In s.heap → (g us ws).length = ps.length → BindsTo s fd ⟨us, ks.zip ws⟩ (ps.zip (g us ws))
  rel : ∀ {vs : List V} {us : List Value} {zs : List V} {ws : List Value}, Vals vs us → Vals zs ws → Vals (gV vs zs) (g us ws)
variable {g : List Value → List Value → List Value} {gV : List V → List V → List V}
end

/-! ### a def's body keeps its promise -/
/-- names: the parameters first -/
structure FnScope (N P : List Str) (sc : Scope) : Prop where
  kind : sc.kind = .function
  co : sc.isCoroutine = false
  gen : sc.isGenerator = false
  nd : N.Nodup
  pre : N.take P.length = P
  par : ∀ x ∈ P, sc.names.lookup x = some .local ∨ sc.names.lookup x = some .cell
  nofree : ∀ y ∈ sc.names, y.2 ≠ .free

theorem bindL_out {kindOf : Str → Option NameKind} {x : Str} : ∀ {binds : List (Str × Value)} {m : Str → Option Value}, (∀ v, (x, v) ∉ binds) → bindL kindOf binds m x = m x
  | [], _, _ => rfl
  | (n, v) :: r, m, h => by
    unfold bindL
    rw [bindL_out fun w hw => h w (List.mem_cons_of_mem _ hw)]
    split
    · have : x ≠ n := by rintro rfl; exact h v List.mem_cons_self
      simp [this]
    · rfl
theorem bindC_out {kindOf : Str → Option NameKind} {x : Str} : ∀ {binds : List (Str × Value)} {m : Str → Option Value}, (∀ v, (x, v) ∉ binds) → bindC kindOf binds m x = m x
  | [], _, _ => rfl
  | (n, v) :: r, m, h => by
    unfold bindC
    rw [bindC_out fun w hw => h w (List.mem_cons_of_mem _ hw)]
    split
    · rfl
    · have : x ≠ n := by rintro rfl; exact h v List.mem_cons_self
      simp [this]
theorem bindL_get {kindOf : Str → Option NameKind} {x : Str} {v : Value} : ∀ {P : List Str} {vs : List Value} {i : Nat} {m : Str → Option Value}, P.Nodup → P[i]? = some x → vs[i]? = some v → kindOf x = some .local →
    bindL kindOf (P.zip vs) m x = some v
  | [], _, _, _, _, h, _, _ => by simp at h
  | _ :: _, [], _, _, _, _, h, _ => by simp at h
  | p :: P, w :: vs, 0, m, nd, h1, h2, hk => by
    simp at h1 h2; subst h1; subst h2
    show bindL kindOf ((p, w) :: P.zip vs) m p = _
    unfold bindL
    rw [bindL_out fun v hv => (List.nodup_cons.mp nd).1 (List.of_mem_zip hv).1, if_pos hk]
    simp
  | p :: P, w :: vs, i + 1, m, nd, h1, h2, hk => by
    show bindL kindOf ((p, w) :: P.zip vs) m x = _
    unfold bindL
    exact bindL_get (i := i) (List.nodup_cons.mp nd).2 (by simpa using h1) (by simpa using h2) hk
theorem bindC_get {kindOf : Str → Option NameKind} {x : Str} {v : Value} : ∀ {P : List Str} {vs : List Value} {i : Nat} {m : Str → Option Value}, P.Nodup → P[i]? = some x → vs[i]? = some v → kindOf x ≠ some .local →
    bindC kindOf (P.zip vs) m x = some v
  | [], _, _, _, _, h, _, _ => by simp at h
  | _ :: _, [], _, _, _, _, h, _ => by simp at h
  | p :: P, w :: vs, 0, m, nd, h1, h2, hk => by
    simp at h1 h2; subst h1; subst h2
    show bindC kindOf ((p, w) :: P.zip vs) m p = _
    unfold bindC
    rw [bindC_out fun v hv => (List.nodup_cons.mp nd).1 (List.of_mem_zip hv).1, if_neg hk]
    simp
  | p :: P, w :: vs, i + 1, m, nd, h1, h2, hk => by
    show bindC kindOf ((p, w) :: P.zip vs) m x = _
    unfold bindC
    exact bindC_get (i := i) (List.nodup_cons.mp nd).2 (by simpa using h1) (by simpa using h2) hk

/-- the names' values at the entry -/
def start (N : List Str) (vs : List V) : St := vs.map some ++ List.replicate (N.length - vs.length) none

/-- the context of a def's body, at its entry; an exception leaves the frame, then lies as CX says -/
def cxOf (CX : CXT) (P : Program) (w : World) (K : PySem.W.Frag) (mg : Str → Option Value) (base : Heap) (N : List Str) (qual : Str) (scope : Scope) (f : Addr) (cd : Value) (A : Around) (outer : List Env) (s : Shared) (H : Hp) (E : XK) : Cx where
  prog := P
  w := w
  K := K
  mg := mg
  base := base
  A := A.deeper (envOfC qual scope s.heap.objs.size f cd)
  N := N
  s₀ := s
  H₀ := H
  env := envOfC qual scope s.heap.objs.size f cd
  outer := outer
  stack := envOfC qual scope s.heap.objs.size f cd :: outer
  ex := []
  calm := true
  fn := fun _ => true
  pn := []
  xe := fun e s' => wpAny (model P w) (A.deeper (envOfC qual scope s.heap.objs.size f cd)) (leaving (envOfC qual scope s.heap.objs.size f cd) e) (fun _ s'' => CX outer H s E e s'') (fun e' s'' => CX outer H s E e' s'') s'

theorem cell_has {sc : Scope} {n : Nat} {x : Str} (h : sc.names.lookup x = some .cell) : ∃ c, (cellsFrom n sc.names []).lookup x = some c := by
  have q := PySem.W.cellsFrom_some sc.names n [] (.inl h)
  exact Option.isSome_iff_exists.mp q

theorem inv_start {CX : CXT} {P : Program} {w : World} {K : PySem.W.Frag} {mg : Str → Option Value} {base : Heap} {N ps : List Str} {qual : Str} {scope : Scope} {f : Addr} {cd : Value} {A : Around} {outer : List Env} {s s1 : Shared} {H : Hp} {E : XK} {us : List Value} {vs : List V}
    (S : FnScope N ps scope) (hd : A.handled = none) (e0 : Env0 P w K mg base A outer s H) (hl : vs.length = ps.length) (r : Vals vs us)
    (x : InCallC s s.heap.objs.size (bindL (envOfC qual scope s.heap.objs.size f cd).kindOf (ps.zip us) fun _ => none) (cellsFrom (s.heap.objs.size + 1) scope.names []) (bindC (envOfC qual scope s.heap.objs.size f cd).kindOf (ps.zip us) fun _ => none) s1) :
    Inv (cxOf CX P w K mg base N qual scope f cd A outer s H E) [] (start N vs) H s1 := by
  have hpl : ps.length ≤ N.length := by have := congrArg List.length S.pre; rw [List.length_take] at this; omega
  obtain ⟨h1, tk, rfl, hk⟩ := x.done
  have noA : ∀ b : Addr, b ∉ (cxOf CX P w K mg base N qual scope f cd A outer s H E).ex := fun b z => absurd (show b ∈ ([] : List Addr) from z) (by simp)
  refine ⟨⟨e0.mod, S.kind, rfl, rfl, Nat.le_refl _, fun y z c h1 h2 => ?_, fun y hy => ?_, fun y c _ h => ?_, fun _ => hd, Around.frames_deeper e0.frames, .inr ⟨rfl, rfl⟩, fun b z => absurd z (noA b), e0.bs, e0.bsz, fun b _ _ => noA b, fun b z => absurd z (noA b), e0.funs, e0.frf⟩,
    rfl, e0.bare, Un.kept hk, ⟨_, x.toInCall.ns, fun i y v h1 h2 h3 => ?_⟩, fun y c h => ⟨_, x.cell y c h⟩, e0.hok.fresh (Nat.le_refl _), fun y c h => ?_, fun p hp => absurd (show p ∈ ([] : List (Addr × Obj)) from hp) (by simp), e0.hok.kept hk, ?_⟩
  · exact name_of_addr x.apart (PySem.mem_of_lookup h1) (PySem.mem_of_lookup h2)
  · have hy : scope.names.lookup y = some .cell ∨ scope.names.lookup y = some .free := hy
    rcases hy with hy | hy
    · exact cell_has hy
    · exact absurd rfl (S.nofree _ (PySem.mem_of_lookup hy))
  · exact Nat.le_of_lt (x.above y c (PySem.mem_of_lookup h))
  · have hi : i < vs.length := by
      unfold start at h2
      by_cases hi : i < vs.length
      · exact hi
      · rw [List.getElem?_append_right (by simpa using hi)] at h2
        rw [List.getElem?_replicate] at h2
        split at h2 <;> cases h2
    have ha : vs[i]? = some v := by
      unfold start at h2
      rw [List.getElem?_append_left (by simpa using hi), List.getElem?_map] at h2
      cases e : vs[i]? with
      | none => rw [e] at h2; cases h2
      | some a => rw [e] at h2; cases h2; rfl
    obtain ⟨u, hu, rv⟩ := r.get ha
    have hp : ps[i]? = some y := by
      rw [← S.pre, List.getElem?_take_of_lt (by omega)]; exact h1
    have ndP : ps.Nodup := by rw [← S.pre]; exact S.nd.sublist (List.take_sublist _ _)
    refine ⟨u, rv, ?_⟩
    rcases S.par y (List.mem_of_getElem? hp) with k | k
    · exact .inl ⟨k, bindL_get ndP hp hu k⟩
    · obtain ⟨c, e⟩ := cell_has (n := s.heap.objs.size + 1) k
      refine .inr ⟨.inl k, c, e, ?_⟩
      have q := x.cell y c e
      rw [bindC_get ndP hp hu (by show scope.names.lookup y ≠ _; rw [k]; decide)] at q
      exact q
  · exact e0.hok.fresh (Nat.le_of_lt (x.above y c (PySem.mem_of_lookup h)))
  · unfold start
    show _ = N.length
    rw [List.length_append, List.length_map, List.length_replicate]
    omega

/-- THE RULE: a def (or a method) of the text, by its body. The body's reading t is chosen for each entry; it is run at the parameters' values -/
theorem fn_of {CX : CXT} {P : Program} {w : World} {K : PySem.W.Frag} {mg : Str → Option Value} {base : Heap} {k : Nat} {f : Addr} {name qual : Str} {params : Arguments} {body : List Stmt} {scope : Scope} {dV kV doc pm cdv ct oc : Value} {an od : Option Addr}
    {osl : Array (Option Value)} {N ps : List Str} {sp : Sp} (lk : K.lookup f = some ⟨oc, od, .func (PySem.W.fnOf name qual params body scope dV kV doc pm an cdv ct), osl⟩) (hcd : PySem.W.codeIn K cdv qual = true) (S : FnScope N ps scope)
    (len : ∀ vs H Q E, sp vs H Q E → vs.length = ps.length)
    (hbody : ∀ (A : Around) (outer : List Env) (s : Shared) (H : Hp) (vs : List V) (Q : VK) (E : XK), Room k (A.deeper (envOfC qual scope s.heap.objs.size f cdv)) → sp vs H Q E →
      ∃ t, PSs (cxOf CX P w K mg base N qual scope f cdv A outer s H E) body t ∧ t { nx := fun _ H' => Q .non H', rt := Q } (start N vs) H) :
    FnOk P w K mg base CX (k + 1) f (PySem.W.fnOf name qual params body scope dV kV doc pm an cdv ct) ps sp := by
  refine ⟨len, fun A outer s H args us vs Q E hr e0 hb r hsp => ?_⟩
  have hl := len _ _ _ _ hsp
  have KX : K.In s.heap := e0.mod.kin.keeps fun b o e => (e0.bs b o e).1
  have lim : s.heap.NoLimit := e0.mod.nolimit.keeps fun b o e => (e0.bs b o e).1
  have hkind : ∀ y ∈ ps.zip us, scope.names.lookup y.1 = some .local ∨ (scope.names.lookup y.1 = some .cell ∧ ((cellsFrom (s.heap.objs.size + 1) scope.names []).lookup y.1).isSome = true) := fun ⟨n, v⟩ hy => by
    rcases S.par n (List.of_mem_zip hy).1 with q | q
    · exact .inl q
    · exact .inr ⟨q, PySem.W.cellsFrom_some _ _ _ (.inl q)⟩
  refine codeAny_call_function hr.depth (KX _ _ lk) rfl S.co S.gen rfl (PySem.W.codeRec_of KX hcd) (hb _ _ _ _ ?_)
  refine wpAny_newFunctionEnv_cells S.kind hkind fun env he s1 x => ?_
  subst he
  refine ⟨lim.keeps x.toInCall.keep, codeAny_func ?_⟩
  obtain ⟨t, ht, hq⟩ := hbody A outer s H vs Q E (hr.deeper _) hsp
  have I : Inv (cxOf CX P w K mg base N qual scope f cdv A outer s H E) [] (start N vs) H s1 := inv_start S hr.hd e0 hl r x
  refine wpAny_mono (ht [] s1 (start N vs) H _ I hq) (fun fl s' hs => ?_) fun e s' hs => hs
  have fin : ∀ {σ' : St} {H' : Hp} {v : V} {u : Value}, Inv (cxOf CX P w K mg base N qual scope f cdv A outer s H E) [] σ' H' s' → RelV v u → Q v H' → CE outer P w H s Q u s' :=
    fun {σ' H' v u} J rv q => ⟨v, H', J.os, J.bare, J.base, J.hok, rv, q⟩
  cases fl with
  | ret u =>
    obtain ⟨v, σ', H', J, rv, q⟩ := hs
    exact fin J rv q
  | next =>
    obtain ⟨σ', H', J, q⟩ := hs
    exact fin (v := V.non) (u := Value.none) J rfl q
  | brk =>
    obtain ⟨_, _, _, q⟩ := hs
    exact False.elim q
  | cont =>
    obtain ⟨_, _, _, q⟩ := hs
    exact False.elim q
end L2

namespace L2
open PySem PySem.Spec PyProof.Rows
section
variable {X : Cx} {x : Str} {p pos : Pos} {e : Expr} {es : List Expr} {t : TA} {id T : String} {r : List V → Hp → VK → Prop}

def tCB (r : List V → Hp → VK → Prop) (t : TA) : TE := fun σ H Q => t σ H fun vs H1 => r vs H1 Q
/-- f(e, ..), f a built-in function -/
theorem pe_callB (hc : CallR X (.builtin id) r) (hg : Gl X x) (hm : X.mg x = none) (hv : bootBuiltins x = some (.builtin id)) (ha : PA X (e :: es) t) (hn : x ≠ "__name__" := by decide) (hdb : (x == ("__debug__" : Str)) = false := by decide)
    (he : starEach (e :: es) X.env = (false, eval e X.env) :: starEach es X.env := by rfl) (hpl : (backTo pos (starEach es X.env)).any (·.1) = false := by rfl) : PE X (.Call (.Name x p) (e :: es) [] pos) (tCB r t) := by
  intro pins s σ H Q I h
  refine wpAny_Call_Name_kw (ld_blt I hg hm hv ?_ hn hdb)
  exact PyProof.Rows.callWith_builtin1 (thn (ha pos pins s σ H _ I h) fun us s1 ⟨vs, H1, I1, r1, q1⟩ => hc pins s1 σ H1 vs us Q I1 r1 q1) he hpl
/-- T(e, ..), T a built-in type -/
theorem pe_callTy (hc : CallR X (.type T) r) (hg : Gl X x) (hm : X.mg x = none) (hv : bootBuiltins x = some (.type T)) (ha : PA X (e :: es) t) (hn : x ≠ "__name__" := by decide) (hdb : (x == ("__debug__" : Str)) = false := by decide)
    (he : starEach (e :: es) X.env = (false, eval e X.env) :: starEach es X.env := by rfl) (hpl : (backTo pos (starEach es X.env)).any (·.1) = false := by rfl) : PE X (.Call (.Name x p) (e :: es) [] pos) (tCB r t) := by
  intro pins s σ H Q I h
  refine wpAny_Call_Name_kw (ld_blt I hg hm hv ?_ hn hdb)
  exact PyProof.Rows.callWith_type1 (thn (ha pos pins s σ H _ I h) fun us s1 ⟨vs, H1, I1, r1, q1⟩ => hc pins s1 σ H1 vs us Q I1 r1 q1) he hpl
end
end L2

namespace HT
open PySem PyProof.Rows

section
open PySem.SeqAt
open PySem.AutoSeq1 (wpAny_loadPart')
open PySem.MeetsSeq PySem.MeetsSeq2 PySem.MeetsSeq3

end

section
variable {prog : Program} {w : World} {A : Around} {E : Value → Shared → Prop} {s : Shared}

/-! ### t[a:b], not the whole -/
/-- a slice's bound as a place among n (d where it is left out) -/
def sIx (n d : Nat) : Option Int → Nat
  | none => d
  | some v => if v < 0 then (v + (n : Int)).toNat else min v.toNat n
theorem sIx_none (n d : Nat) : sIx n d none = d := rfl
theorem sIx_nat (n d k : Nat) : sIx n d (some (k : Int)) = min k n := by
  show (if (k : Int) < 0 then ((k : Int) + (n : Int)).toNat else min (k : Int).toNat n) = min k n
  rw [if_neg (by omega), Int.toNat_natCast]
theorem sIx_le (n d : Nat) (hd : d ≤ n) (o : Option Int) : sIx n d o ≤ n := by
  cases o with
  | none => exact hd
  | some v =>
    show (if v < 0 then (v + (n : Int)).toNat else min v.toNat n) ≤ n
    by_cases hv : v < 0
    · rw [if_pos hv]; omega
    · rw [if_neg hv]; exact Nat.min_le_right _ _
theorem clip_eq (v : Int) (n d : Nat) : (if v < 0 then max (v + (n : Int)) 0 else min v (n : Int)) = ((sIx n d (some v) : Nat) : Int) := by
  show (if v < 0 then max (v + (n : Int)) 0 else min v (n : Int)) = (((if v < 0 then (v + (n : Int)).toNat else min v.toNat n) : Nat) : Int)
  by_cases hv : v < 0
  · simp only [if_pos hv]; omega
  · simp only [if_neg hv]; omega
theorem adjust_gen (lo hi : Option Int) (n : Nat) : Builtin.Slice.sliceAdjust lo hi 1 (n : Int) = (((sIx n 0 lo : Nat) : Int), ((sIx n n hi : Nat) : Int)) := by
  have h1 : ¬ ((1 : Int) < 0) := by omega
  unfold Builtin.Slice.sliceAdjust
  simp only [h1, if_false]
  refine Prod.ext ?_ ?_
  · cases lo with
    | none => rfl
    | some v => exact clip_eq v n 0
  · cases hi with
    | none => rfl
    | some v => exact clip_eq v n n
theorem places_gen (i j : Nat) : Builtin.Slice.slicePlaces (i : Int) (j : Int) 1 = j - i := by
  unfold Builtin.Slice.slicePlaces
  have h1 : (1 : Int) > 0 := by omega
  simp only [h1, if_true, Int.ediv_one]
  split <;> omega
theorem slicePart_ {v : Value} {o : Option Int} {Q : Option Int → Shared → Prop} (p : IsPart v o) (h : Q o s) : wpAny (model prog w) A (Builtin.Slice.slicePartIndex v) Q E s := by
  cases p with
  | none => exact slicePart_none h
  | int i t => exact slicePart_int h
theorem sliceApplied_gen {sl : Addr} {vl vu : Value} {lo hi : Option Int} {n : Nat} {Q : Int × Int × Nat → Shared → Prop} (hs : s.heap.IsSliceOf sl vl vu .none) (pl : IsPart vl lo) (pu : IsPart vu hi)
    (h : Q (((sIx n 0 lo : Nat) : Int), 1, sIx n n hi - sIx n 0 lo) s) : wpAny (model prog w) A (Builtin.Slice.sliceApplied (.ref sl) (pure (n : Int))) Q E s := by
  obtain ⟨os, hos, hcs, hds⟩ := id hs
  unfold Builtin.Slice.sliceApplied Builtin.Slice.sliceFields
  refine wpAny_bind (wpAny_bind (wpAny_field hos hds (x := vl) rfl (wpAny_bind (wpAny_field hos hds (x := vu) rfl (wpAny_bind (wpAny_field hos hds (x := .none) rfl (wpAny_pure ?_)))))))
  refine wpAny_bind (slicePart_none ?_)
  show wpAny _ _ (if ((1 : Int) == 0) = true then _ else _) _ _ s
  rw [if_neg (by decide)]
  refine wpAny_bind (slicePart_ pl (wpAny_bind (slicePart_ pu (wpAny_bind (wpAny_pure ?_)))))
  show wpAny _ _ (match Builtin.Slice.sliceAdjust lo hi 1 (n : Int) with | (lo, hi) => pure (lo, (1 : Int), Builtin.Slice.slicePlaces lo hi 1)) _ _ s
  rw [adjust_gen lo hi n]
  show wpAny _ _ (pure (((sIx n 0 lo : Nat) : Int), (1 : Int), Builtin.Slice.slicePlaces ((sIx n 0 lo : Nat) : Int) ((sIx n n hi : Nat) : Int) 1)) _ _ s
  rw [places_gen]
  exact wpAny_pure h
theorem pick_gen (xs : Array Value) (i k : Nat) : ((List.range k).filterMap fun (m : Nat) => xs[((i : Int) + (m : Int) * 1).toNat]?).toArray = ((xs.toList.drop i).take k).toArray := by
  have e : (fun (m : Nat) => xs[((i : Int) + (m : Int) * 1).toNat]?) = fun m => xs[i + m]? := by
    funext m
    have : ((i : Int) + (m : Int) * 1).toNat = i + m := by omega
    rw [this]
  rw [e]
  have := pick_run xs i k
  rw [List.filterMap_map] at this
  have e2 : ((fun x => xs[x]?) ∘ fun x => i + x) = fun m => xs[i + m]? := rfl
  rw [e2] at this
  rw [this]

theorem getItem_tuple_cut {t sl : Addr} {items : Array Value} {vl vu : Value} {lo hi : Option Int} {Q : Value → Shared → Prop} (ht : IsTup s.heap t items) (hs : s.heap.IsSliceOf sl vl vu .none) (pl : IsPart vl lo) (pu : IsPart vu hi)
    (hw : ¬ (sIx items.size 0 lo = 0 ∧ sIx items.size items.size hi = items.size))
    (h : Q (.ref s.heap.objs.size) { s with heap := s.heap.push { cls := .type "tuple", data := .seq ((items.toList.drop (sIx items.size 0 lo)).take (sIx items.size items.size hi - sIx items.size 0 lo)).toArray } })
    (hsz : items.size ≤ sizeLine) : wpAny (model prog w) A (getItem (.ref t) (.ref sl)) Q E s := by
  have htake : sizeOk (.seq ((items.toList.drop (sIx items.size 0 lo)).take (sIx items.size items.size hi - sIx items.size 0 lo)).toArray) := by
    show ((items.toList.drop (sIx items.size 0 lo)).take (sIx items.size items.size hi - sIx items.size 0 lo)).toArray.size ≤ sizeLine
    rw [List.size_toArray, List.length_take, List.length_drop, Array.length_toList]
    omega
  have hj : sIx items.size items.size hi ≤ items.size := sIx_le _ _ (Nat.le_refl _) hi
  obtain ⟨os, hos, hcs, hds⟩ := id hs
  have hTs : s.TypeIs (.ref sl) "slice" := ⟨os, hos, hcs⟩
  unfold getItem
  try with_reducible refine wpAny_holding ?_
  first | refine wpAny_bind (wpAny_pure ?_) | skip
  refine wpAny_bind (wpAny_sequenceKey ht.typeIs (by decide) ?_)
  refine wpAny_bind (wpAny_callSpecial?_slot (name := Str.ofString "__getitem__") ht.typeIs PyProof.Rows.slot_tuple_getitem
    (wpAny_call_entry PyProof.Rows.slot_tuple_getitem ht.typeIs entry_tuple_getitem ?_ (args_tuple_getitem _ _)))
  show wpAny _ _ (Builtin.Tuple.tupleItemsOf (.ref t) >>= _) _ _ s
  refine wpAny_bind (tupleItemsOf_ ht ?_)
  refine wpAny_bind (wpAny_typeOf hTs ?_)
  rw [if_pos (by decide)]
  refine wpAny_bind (sliceApplied_gen hs pl pu ?_)
  have hno : ¬ ((((sIx items.size 0 lo : Nat) : Int) == 0 && (1 : Int) == 1 && (sIx items.size items.size hi - sIx items.size 0 lo) == items.size) = true) := by
    intro q
    rw [Bool.and_eq_true, Bool.and_eq_true] at q
    have q1 : ((sIx items.size 0 lo : Nat) : Int) = 0 := eq_of_beq q.1.1
    have q2 : sIx items.size items.size hi - sIx items.size 0 lo = items.size := eq_of_beq q.2
    exact hw ⟨by omega, by omega⟩
  show wpAny _ _ (if (((sIx items.size 0 lo : Nat) : Int) == 0 && (1 : Int) == 1 && (sIx items.size items.size hi - sIx items.size 0 lo) == items.size) = true then _ else _) _ _ s
  rw [if_neg hno, pick_gen]
  first
    | exact wpAny_bind (m := Builtin.Tuple.tupleExact _) (wpAny_newObj_type (wpAny_pure ⟨_, rfl, wpAny_pure h⟩) htake)
    | exact wpAny_bind (m := Builtin.Tuple.tupleExact _) (wpAny_newObj_type (wpAny_bind (wpAny_pure (wpAny_pure ⟨_, rfl, wpAny_pure h⟩))) htake)
    | exact wpAny_bind (wpAny_bind (m := Builtin.Tuple.tupleExact _) (wpAny_newObj_type (wpAny_pure (wpAny_pure ⟨_, rfl, wpAny_pure h⟩)) htake))
    | exact wpAny_bind (wpAny_bind (m := Builtin.Tuple.tupleExact _) (wpAny_newObj_type (wpAny_pure ⟨_, rfl, wpAny_pure h⟩) htake))
end
end HT

namespace L2
open PySem PySem.Spec PyProof.Rows

/-! ### the parts of a slice -/
abbrev TO := St → Hp → (Option Int → Hp → Prop) → Prop
/-- a slice's part (left out, or an int) -/
def PO (X : Cx) (e : Option Expr) (t : TO) : Prop :=
  ∀ (pins : List (Addr × Obj)) (s : Shared) (σ : St) (H : Hp) (Q : Option Int → Hp → Prop), Inv X pins σ H s → t σ H Q →
    wpAny (model X.prog X.w) X.A (evalPart e X.env) (fun u s' => ∃ o H', Inv X pins σ H' s' ∧ IsPart u o ∧ Q o H') X.xe s
def tNoPart : TO := fun _ H Q => Q none H
def tPart (t : TE) : TO := fun σ H Q => t σ H fun x H1 => ∃ i, x = .int i ∧ Q (some i) H1

section
variable {X : Cx} {e : Expr} {te : TE} {lo hi : Option Expr} {tl th : TO} {pos p2 : Pos}

theorem po_none : PO X none tNoPart := by
  intro pins s σ H Q I h
  rw [evalPart_none]
  exact wpAny_pure ⟨none, H, I, .none, h⟩
theorem po_some (h : PE X e te) : PO X (some e) (tPart te) := by
  intro pins s σ H Q I hw
  rw [evalPart_some]
  refine thn (h pins s σ H _ I hw) fun u s1 ⟨x, H1, I1, r1, q1⟩ => ?_
  obtain ⟨i, rfl, q⟩ := q1
  obtain ⟨t, rfl⟩ := r1
  exact ⟨some i, H1, I1, .int i t, q⟩

/-- what a slice of a value is, by values: the slice object stands at sl -/
def SlR (X : Cx) (r : V → Option Int → Option Int → Hp → VK → Prop) : Prop :=
  ∀ (pins : List (Addr × Obj)) (s : Shared) (σ : St) (H : Hp) (x : V) (v vl vu : Value) (lo hi : Option Int) (sl : Addr) (Q : VK), Inv X pins σ H s → RelV x v → s.heap.IsSliceOf sl vl vu .none → IsPart vl lo → IsPart vu hi → r x lo hi H Q →
    ∃ T id, typeLookup (.type T) "__getitem__" = pure (some (.builtin id)) ∧ s.TypeIs v T ∧ wpAny (model X.prog X.w) X.A (getItem v (.ref sl)) (EP X pins σ Q) X.xe s
theorem SlR.or {r r' : V → Option Int → Option Int → Hp → VK → Prop} (h : SlR X r) (h' : SlR X r') : SlR X (fun x lo hi H Q => r x lo hi H Q ∨ r' x lo hi H Q) := by
  intro pins s σ H x v vl vu lo hi sl Q I rx hs pl pu q
  rcases q with q | q
  · exact h pins s σ H x v vl vu lo hi sl Q I rx hs pl pu q
  · exact h' pins s σ H x v vl vu lo hi sl Q I rx hs pl pu q
def tSl (r : V → Option Int → Option Int → Hp → VK → Prop) (te : TE) (tl th : TO) : TE := fun σ H Q => te σ H fun x H1 => tl σ H1 fun l H2 => th σ H2 fun u H3 => r x l u H3 Q
/-- a[lo:hi], any a -/
theorem pe_slice {r : V → Option Int → Option Int → Hp → VK → Prop} (hr : SlR X r) (he : PE X e te) (hl : PO X lo tl) (hu : PO X hi th) : PE X (.Subscript e (.Slice lo hi none p2) pos) (tSl r te tl th) := by
  intro pins s σ H Q I h
  refine Subscript_ (thn (he pins s σ H _ I h) fun v s1 ⟨x, H1, I1, r1, q1⟩ => ?_)
  refine wpAny_Slice (thn (hl pins s1 σ H1 _ I1 q1) fun vl s2 ⟨l, H2, I2, pl, q2⟩ => thn (hu pins s2 σ H2 _ I2 q2) fun vu s3 ⟨u, H3, I3, pu, q3⟩ => ?_)
  rw [evalPart_none]
  refine wpAny_pure ?_
  have I4 : Inv X pins σ H3 { s3 with heap := s3.heap.push { cls := .type "slice", data := .fields #[vl, vu, .none] } } := I3.kept (t' := s3.toks) fun b ob q => Heap.get?_push_of_some _ q
  obtain ⟨T, id, hT, ht, hg⟩ := hr pins { s3 with heap := s3.heap.push { cls := .type "slice", data := .fields #[vl, vu, .none] } } σ H3 x v vl vu l u s3.heap.objs.size Q I4 r1 (Heap.IsSliceOf.new ..) pl pu q3
  show wpAny (model X.prog X.w) X.A (subscriptTail e (.Slice lo hi none p2) v (.ref s3.heap.objs.size)) (EP X pins σ Q) X.xe { s3 with heap := s3.heap.push { cls := .type "slice", data := .fields #[vl, vu, .none] } }
  exact tail_any (ops := [.ref s3.heap.objs.size, v]) ht hT hg (by with_unfolding_all rfl)

/-- the items of xs[lo:hi] -/
def cutV (xs : List V) (lo hi : Option Int) : List V := (xs.drop (HT.sIx xs.length 0 lo)).take (HT.sIx xs.length xs.length hi - HT.sIx xs.length 0 lo)
theorem cutV_length (xs : List V) (lo hi : Option Int) : (cutV xs lo hi).length ≤ xs.length := by
  unfold cutV
  rw [List.length_take, List.length_drop]
  omega
/-- t[lo:hi], not the whole of it (the whole would be t itself) -/
def rSlT (K : PySem.W.Frag) : V → Option Int → Option Int → Hp → VK → Prop := fun x lo hi H Q => ∃ a xs, x = .ref a ∧ SqT K H a xs ∧
  ¬ (HT.sIx xs.length 0 lo = 0 ∧ HT.sIx xs.length xs.length hi = xs.length) ∧ ∀ p, H p = none → Q (.ref p) (upd H p (.tup (cutV xs lo hi)))
theorem sl_tup : SlR X (rSlT X.K) := by
  intro pins s σ H x v vl vu lo hi sl Q I rx hs pl pu h
  obtain ⟨a, xs, rfl, hx, hw, q⟩ := h
  cases rx
  obtain ⟨its, r, ht, hz⟩ := I.tuple hx
  have hlen : its.toArray.size = xs.length := by rw [List.size_toArray]; exact r.length.symm
  refine ⟨"tuple", _, PyProof.Rows.slot_tuple_getitem.lookup, ht.typeIs, ?_⟩
  refine HT.getItem_tuple_cut ht hs pl pu (by rw [hlen]; exact hw) ?_ (by rw [hlen]; exact hz)
  rw [hlen]
  refine ⟨.ref s.heap.objs.size, _, I.laid (t' := s.toks) (o := .tup (cutV xs lo hi)) (fun b ob q => Heap.get?_push_of_some _ q) (Nat.le_refl _) ?_, rfl, q _ (I.hok.fresh (Nat.le_refl _))⟩
  exact ⟨Nat.le_trans (cutV_length xs lo hi) hz, _, (r.drop (HT.sIx xs.length 0 lo)).take (HT.sIx xs.length xs.length hi - HT.sIx xs.length 0 lo), IsTup.new _ _⟩

/-! ### t < u, t + u -/
end
end L2

namespace L2
open PySem PySem.Spec PyProof.Rows

/-! ### places -/
/-- the place that an index of any sign means -/
def ixN (n : Nat) (i : Int) : Option Nat := if 0 ≤ i then (if i < n then some i.toNat else none) else if -(n : Int) ≤ i then some (i + n).toNat else none
def atI {α : Type} (xs : List α) (i : Int) : Option α := (ixN xs.length i).bind fun j => xs[j]?
theorem ixN_seq {n : Nat} {i : Int} {j : Nat} (h : ixN n i = some j) : seqIndex? i n = some j ∧ j < n ∧ -(n : Int) ≤ i ∧ i < n := by
  unfold ixN at h
  by_cases h0 : 0 ≤ i
  · rw [if_pos h0] at h
    by_cases h1 : i < n
    · rw [if_pos h1] at h
      have e : i.toNat = j := Option.some.inj h
      exact ⟨by rw [seqIndex_of h0 h1, e], by omega, by omega, h1⟩
    · rw [if_neg h1] at h; cases h
  · rw [if_neg h0] at h
    by_cases h1 : -(n : Int) ≤ i
    · rw [if_pos h1] at h
      have e : (i + n).toNat = j := Option.some.inj h
      exact ⟨by rw [seqIndex_neg (by omega) h1, e], by omega, h1, by omega⟩
    · rw [if_neg h1] at h; cases h
theorem atI_get {α : Type} {xs : List α} {i : Int} {v : α} (h : atI xs i = some v) : ∃ j, seqIndex? i xs.length = some j ∧ xs[j]? = some v ∧ j < xs.length ∧ -(xs.length : Int) ≤ i ∧ i < xs.length := by
  unfold atI at h
  cases e : ixN xs.length i with
  | none => rw [e] at h; cases h
  | some j =>
    rw [e] at h
    obtain ⟨h1, h2, h3, h4⟩ := ixN_seq e
    exact ⟨j, h1, h, h2, h3, h4⟩
theorem atI_nat {α : Type} {xs : List α} {j : Nat} {v : α} (h : xs[j]? = some v) : atI xs (j : Int) = some v := by
  have hj : j < xs.length := (List.getElem?_eq_some_iff.mp h).1
  have e : ixN xs.length (j : Int) = some j := by
    unfold ixN
    rw [if_pos (by omega), if_pos (by omega)]; simp
  unfold atI; rw [e]; exact h
/-! ### what may be subscripted -/
/-- what stands as an index of a plain subscript -/
def PlainIx (b : Expr) : Prop := ∀ o i, subscripted b false o i = operate [o, i] (getItem o i)
/-- a subscript by values -/
def IxR (X : Cx) (r : R2) : Prop :=
  ∀ (value slice : Expr) (pins : List (Addr × Obj)) (s : Shared) (σ : St) (H : Hp) (x y : V) (v u : Value) (Q : VK), Inv X pins σ H s → RelV x v → RelV y u → r x y H Q →
    subscripted slice false v u = operate [v, u] (getItem v u) → wpAny (model X.prog X.w) X.A (subscriptTail value slice v u) (EP X pins σ Q) X.xe s
/-- a call of a builtin's method by values: the receiver, the arguments -/
def MtR (X : Cx) (id : String) (r : V → List V → Hp → VK → Prop) : Prop :=
  ∀ (pins : List (Addr × Obj)) (s : Shared) (σ : St) (H : Hp) (x : V) (xs : List V) (v : Value) (us : List Value) (Q : VK), Inv X pins σ H s → RelV x v → Vals xs us → r x xs H Q →
    wpAny (model X.prog X.w) X.A (call (.builtin id) (v :: us)) (EP X pins σ Q) X.xe s
section
variable {X : Cx} {a b : Expr} {ta tb : TE} {pos : Pos}
theorem IxR.or {r r' : R2} (h : IxR X r) (h' : IxR X r') : IxR X (fun x y H Q => r x y H Q ∨ r' x y H Q) := by
  intro value slice pins s σ H x y v u Q I rx ry q hs
  rcases q with q | q
  · exact h value slice pins s σ H x y v u Q I rx ry q hs
  · exact h' value slice pins s σ H x y v u Q I rx ry q hs
theorem MtR.or {id : String} {r r' : V → List V → Hp → VK → Prop} (h : MtR X id r) (h' : MtR X id r') : MtR X id (fun x xs H Q => r x xs H Q ∨ r' x xs H Q) := by
  intro pins s σ H x xs v us Q I rx rs q
  rcases q with q | q
  · exact h pins s σ H x xs v us Q I rx rs q
  · exact h' pins s σ H x xs v us Q I rx rs q
/-- a[b] -/
theorem pe_ix {r : R2} (hr : IxR X r) (ha : PE X a ta) (hb : PE X b tb) (hs : PlainIx b) : PE X (.Subscript a b pos) (tOp r ta tb) := by
  intro pins s σ H Q I h
  exact Subscript_ (binT ha hb I h fun v u s2 x y H2 I2 rx ry q => hr a b pins s2 σ H2 x y v u Q I2 rx ry q (hs _ _))

def rIxL (K : PySem.W.Frag) : R2 := fun x y H Q => ∃ p xs i v, x = .ref p ∧ y = .int i ∧ SqL K H p xs ∧ atI xs i = some v ∧ Q v H
def rIxT (K : PySem.W.Frag) : R2 := fun x y H Q => ∃ p xs i v, x = .ref p ∧ y = .int i ∧ SqT K H p xs ∧ atI xs i = some v ∧ Q v H
def rIxS : R2 := fun x y H Q => ∃ z i c, x = .str z ∧ y = .int i ∧ z.length ≤ sizeLine ∧ atI z.cps.toList i = some c ∧ Q (.str ⟨#[c]⟩) H
theorem ix_list : IxR X (rIxL X.K) := by
  intro value slice pins s σ H x y v u Q I rx ry h hs
  obtain ⟨p, xs, i, z, rfl, rfl, hq, he, q⟩ := h
  cases rx
  obtain ⟨t, rfl⟩ := ry
  obtain ⟨its, r, pl, hz⟩ := I.list hq
  obtain ⟨j, h1, h2, h3, h4, h5⟩ := atI_get he
  obtain ⟨w, ew, rw'⟩ := r.get h2
  have hl := r.length
  have hn := line63
  have fin : EP X pins σ Q w s := ⟨z, H, I, rw', q⟩
  by_cases h0 : 0 ≤ i
  · have hj : i.toNat = j := by
      rw [seqIndex_of h0 h5] at h1
      exact Option.some.inj h1
    exact item_listR pl.isList h0 (by omega) (by rw [hj]; simpa using ew) fin hs
  · have hj : (i + (its.toArray.size : Int)).toNat = j := by
      rw [seqIndex_neg (by omega) h4] at h1
      rw [List.size_toArray, ← hl]
      exact Option.some.inj h1
    exact subscriptTail_builtinR (x := w) pl.isList.typeIs slot_list_getitem.lookup
      (wpAny_getItem_list_neg (Q := fun r s' => r = w ∧ EP X pins σ Q r s') pl.isList (by omega) (by rw [List.size_toArray] <;> omega) (by omega) (by rw [hj]; simpa using ew) ⟨rfl, fin⟩) hs
theorem ix_tup : IxR X (rIxT X.K) := by
  intro value slice pins s σ H x y v u Q I rx ry h hs
  obtain ⟨p, xs, i, z, rfl, rfl, hq, he, q⟩ := h
  cases rx
  obtain ⟨t, rfl⟩ := ry
  obtain ⟨its, r, pl, hz⟩ := I.tuple hq
  obtain ⟨j, h1, h2, h3, h4, h5⟩ := atI_get he
  obtain ⟨w, ew, rw'⟩ := r.get h2
  have hl := r.length
  have hn := line63
  have fin : EP X pins σ Q w s := ⟨z, H, I, rw', q⟩
  exact subscriptTail_builtinR (x := w) pl.typeIs slot_tuple_getitem.lookup
    (getItem_tuple (j := j) (Q := fun r s' => r = w ∧ EP X pins σ Q r s') pl (by omega) (by omega) (by rw [List.size_toArray, ← hl]; exact h1) (by simpa using ew) ⟨rfl, fin⟩) hs
theorem ix_str : IxR X rIxS := by
  intro value slice pins s σ H x y v u Q I rx ry h hs
  obtain ⟨z, i, c, rfl, rfl, hz, he, q⟩ := h
  obtain ⟨t, rfl⟩ := rx
  obtain ⟨t', rfl⟩ := ry
  obtain ⟨j, h1, h2, h3, h4, h5⟩ := atI_get he
  have hl : z.cps.toList.length = z.length := by simp [Str.length]
  rw [hl] at h1 h4 h5
  have hn := line63
  exact tail_any (typeIs_str s z t) slot_str_getitem.lookup (getItem_str (c := c) (by
    have e1 : decide (i < -(2 ^ 63 : Int)) = false := decide_eq_false (by omega)
    have e2 : decide (i ≥ 2 ^ 63) = false := decide_eq_false (by omega)
    rw [e1, e2, Bool.or_false]) (by rw [h1]; simpa using h2) ⟨.str ⟨#[c]⟩, H, I.tok _, ⟨_, rfl⟩, q⟩) hs
/-! ### xs[i] = v, any sign -/
theorem Inv.lst {pins : List (Addr × Obj)} {σ : St} {H : Hp} {s : Shared} {p : Addr} {xs : List V} (I : Inv X pins σ H s) (h : H p = some (.lst xs)) :
    ∃ (its : List Value) (n : Nat), Vals xs its ∧ s.heap.get? p = some { cls := .type "list", data := .seq its.toArray n } ∧ xs.length ≤ sizeLine := by
  obtain ⟨z, its, n, r, e⟩ := I.hok p _ h
  exact ⟨its, n, r, e, z⟩
/-! ### slices -/
theorem slice_bounds (lo hi : Option Int) (n : Nat) : (sliceBounds lo hi none n).1 = ((HT.sIx n 0 lo : Nat) : Int) ∧ (sliceBounds lo hi none n).2.1 = ((HT.sIx n n hi : Nat) : Int) ∧ (sliceBounds lo hi none n).2.2 = 1 := by
  refine ⟨?_, ?_, rfl⟩
  · cases lo with
    | none => simp [sliceBounds, HT.sIx]
    | some i =>
      simp only [sliceBounds, HT.sIx, Option.getD_none, show (1 : Int) > 0 by decide, if_true]
      by_cases h : i < 0
      · simp only [h, if_true] <;> omega
      · simp only [h, if_false] <;> omega
  · cases hi with
    | none => simp [sliceBounds, HT.sIx]
    | some i =>
      simp only [sliceBounds, HT.sIx, Option.getD_none, show (1 : Int) > 0 by decide, if_true]
      by_cases h : i < 0
      · simp only [h, if_true] <;> omega
      · simp only [h, if_false] <;> omega
theorem slicePick_cut (its : List Value) (lo hi : Option Int) : slicePick its.toArray lo hi none = ((its.drop (HT.sIx its.length 0 lo)).take (HT.sIx its.length its.length hi - HT.sIx its.length 0 lo)).toArray := by
  obtain ⟨h1, h2, h3⟩ := slice_bounds lo hi its.toArray.size
  unfold slicePick
  rw [h1, h2, h3]
  simp only [sliceRange_one, pick_run, List.size_toArray] <;> rfl
/-- xs[lo:hi] of a list: a new list -/
def rSlL (K : PySem.W.Frag) : V → Option Int → Option Int → Hp → VK → Prop := fun x lo hi H Q => ∃ a xs, x = .ref a ∧ SqL K H a xs ∧ ∀ p, H p = none → Q (.ref p) (upd H p (.lst (cutV xs lo hi)))
theorem sl_list : SlR X (rSlL X.K) := by
  intro pins s σ H x v vl vu lo hi sl Q I rx hs pl pu h
  obtain ⟨a, xs, rfl, hx, q⟩ := h
  cases rx
  obtain ⟨its, r, ht, hz⟩ := I.list hx
  have hlen := r.length
  refine ⟨"list", _, slot_list_getitem.lookup, ht.isList.typeIs, ?_⟩
  refine wpAny_getItem_list_slice ht.isList hs pl pu .none (by simp) ?_ (by rw [List.size_toArray] <;> omega)
  rw [slicePick_cut, ← hlen]
  refine ⟨.ref s.heap.objs.size, _, I.laid (t' := s.toks) (o := .lst (cutV xs lo hi)) (fun b ob q => Heap.get?_push_of_some _ q) (Nat.le_refl _) ?_, rfl, q _ (I.hok.fresh (Nat.le_refl _))⟩
  exact ⟨Nat.le_trans (cutV_length xs lo hi) hz, _, 0, (r.drop (HT.sIx xs.length 0 lo)).take (HT.sIx xs.length xs.length hi - HT.sIx xs.length 0 lo), Heap.get?_push_size _ rfl⟩

/-! ### in, not in: flat items -/
def flatV : V → Bool
  | .non => true
  | .bl _ => true
  | .int _ => true
  | .str _ => true
  | _ => false
/-- == of flat values -/
def eqV : V → V → Bool
  | .non, .non => true
  | .bl a, .bl b => a == b
  | .bl a, .int b => (if a then 1 else 0) == b
  | .int a, .bl b => a == (if b then 1 else 0)
  | .int a, .int b => a == b
  | .str a, .str b => a == b
  | _, _ => false
theorem eqAt_V {A : Around} {s : Shared} {y x : V} {u v : Value} (ry : RelV y u) (rx : RelV x v) (fy : flatV y = true) (fx : flatV x = true) : SeqAt.EqAt A s u v (eqV y x) := by
  cases y with
  | non =>
    cases ry
    cases x with
    | non => cases rx; exact SeqAt.EqAt.same _
    | bl b => cases rx; exact SeqAt.EqAt.none_bool b
    | int b => obtain ⟨t, rfl⟩ := rx; exact SeqAt.EqAt.none_int b t
    | str b => obtain ⟨t, rfl⟩ := rx; exact SeqAt.EqAt.none_str b t
    | _ => exact absurd (show false = true from fx) Bool.false_ne_true
  | bl a =>
    cases ry
    cases x with
    | non => cases rx; exact SeqAt.EqAt.bool_none a
    | bl b => cases rx; exact SeqAt.EqAt.bool_bool a b
    | int b => obtain ⟨t, rfl⟩ := rx; exact SeqAt.EqAt.bool_int a b t
    | str b => obtain ⟨t, rfl⟩ := rx; exact SeqAt.EqAt.bool_str a b t
    | _ => exact absurd (show false = true from fx) Bool.false_ne_true
  | int a =>
    obtain ⟨t', rfl⟩ := ry
    cases x with
    | non => cases rx; exact SeqAt.EqAt.int_none a t'
    | bl b => cases rx; exact SeqAt.EqAt.int_bool a t' b
    | int b => obtain ⟨t, rfl⟩ := rx; exact SeqAt.EqAt.int_int a t' b t
    | str b => obtain ⟨t, rfl⟩ := rx; exact SeqAt.EqAt.int_str a t' b t
    | _ => exact absurd (show false = true from fx) Bool.false_ne_true
  | str a =>
    obtain ⟨t', rfl⟩ := ry
    cases x with
    | non => cases rx; exact SeqAt.EqAt.str_none a t'
    | bl b => cases rx; exact SeqAt.EqAt.str_bool a t' b
    | int b => obtain ⟨t, rfl⟩ := rx; exact SeqAt.EqAt.str_int a t' b t
    | str b => obtain ⟨t, rfl⟩ := rx; exact SeqAt.EqAt.str_str a t' b t
    | _ => exact absurd (show false = true from fx) Bool.false_ne_true
  | _ => exact absurd (show false = true from fy) Bool.false_ne_true
/-- the items' answers, read off the values (a value's own answer does not lean on its token) -/
def eqU (x : V) (u : Value) : Bool := match u with
  | .none => eqV .non x
  | .bool b => eqV (.bl b) x
  | .int i _ => eqV (.int i) x
  | .str z _ => eqV (.str z) x
  | _ => false
theorem eqU_of {x y : V} {u : Value} (r : RelV y u) (f : flatV y = true) : eqU x u = eqV y x := by
  cases y with
  | non => cases r; rfl
  | bl b => cases r; rfl
  | int i => obtain ⟨t, rfl⟩ := r; rfl
  | str z => obtain ⟨t, rfl⟩ := r; rfl
  | _ => exact absurd (show false = true from f) Bool.false_ne_true
theorem any_eqU {x : V} : ∀ {xs : List V} {us : List Value}, Vals xs us → xs.all flatV = true → us.any (eqU x) = xs.any fun y => eqV y x
  | _, _, .nil, _ => rfl
  | y :: xs, u :: us, .cons r t, f => by
    rw [List.all_cons, Bool.and_eq_true] at f
    rw [List.any_cons, List.any_cons, eqU_of r f.1, any_eqU t f.2]
theorem mem_eqAt {A : Around} {s : Shared} {x : V} {v : Value} (rx : RelV x v) (fx : flatV x = true) : ∀ {xs : List V} {us : List Value}, Vals xs us → xs.all flatV = true → ∀ u ∈ us, SeqAt.EqAt A s u v (eqU x u)
  | _, _, .nil, _ => fun u hu => by cases hu
  | y :: xs, u :: us, .cons r t, f => fun u' hu => by
    rw [List.all_cons, Bool.and_eq_true] at f
    rcases List.mem_cons.mp hu with rfl | hu
    · rw [eqU_of r f.1]; exact eqAt_V r rx f.1 fx
    · exact mem_eqAt rx fx t f.2 u' hu
def inV (x : V) (xs : List V) : Bool := xs.any fun y => eqV y x
/-- x in a list or tuple of flat items -/
def rIn (K : PySem.W.Frag) (neg : Bool) : R2 := fun x y H Q => ∃ p xs, y = .ref p ∧ (SqL K H p xs ∨ SqT K H p xs) ∧ flatV x = true ∧ xs.all flatV = true ∧ Q (.bl (if neg then !inV x xs else inV x xs)) H
theorem op_in_seq : OpR X (compareOp .In) (rIn X.K false) := by
  intro pins s σ H x y v u Q I rx ry h
  obtain ⟨p, xs, rfl, hq, fx, fs, q⟩ := h
  cases ry
  rcases hq with hq | hq
  · obtain ⟨its, r, pl, hz⟩ := I.list hq
    refine SeqAt.in_listAt (eqU x) pl.isList (fun w hw => mem_eqAt rx fx r fs w (by simpa using hw)) ⟨.bl _, H, I, rfl, ?_⟩
    rw [show its.toArray.any (eqU x) = its.any (eqU x) by simp, any_eqU r fs]
    exact q
  · obtain ⟨its, r, pl, hz⟩ := I.tuple hq
    refine SeqAt.in_tupleAt (eqU x) pl (fun w hw => mem_eqAt rx fx r fs w (by simpa using hw)) ⟨.bl _, H, I, rfl, ?_⟩
    rw [show its.toArray.any (eqU x) = its.any (eqU x) by simp, any_eqU r fs]
    exact q
theorem op_notIn_seq : OpR X (compareOp .NotIn) (rIn X.K true) := by
  intro pins s σ H x y v u Q I rx ry h
  obtain ⟨p, xs, rfl, hq, fx, fs, q⟩ := h
  cases ry
  rcases hq with hq | hq
  · obtain ⟨its, r, pl, hz⟩ := I.list hq
    refine SeqAt.notIn_listAt (eqU x) pl.isList (fun w hw => mem_eqAt rx fx r fs w (by simpa using hw)) ⟨.bl _, H, I, rfl, ?_⟩
    rw [show its.toArray.any (eqU x) = its.any (eqU x) by simp, any_eqU r fs]
    exact q
  · obtain ⟨its, r, pl, hz⟩ := I.tuple hq
    refine SeqAt.notIn_tupleAt (eqU x) pl (fun w hw => mem_eqAt rx fx r fs w (by simpa using hw)) ⟨.bl _, H, I, rfl, ?_⟩
    rw [show its.toArray.any (eqU x) = its.any (eqU x) by simp, any_eqU r fs]
    exact q
/-! ### len, list(x), tuple(x) of any list or tuple that is read -/
theorem call_len_seq : CallR X (.builtin "len") (fun xs H Q => ∃ p ys, xs = [.ref p] ∧ (SqL X.K H p ys ∨ SqT X.K H p ys) ∧ Q (.int ys.length) H) := by
  intro pins s σ H xs us Q I r h
  obtain ⟨p, ys, rfl, hq, q⟩ := h
  obtain ⟨u, rfl, rx⟩ := vals1 r
  cases rx
  have hn := line63
  rcases hq with hq | hq
  · obtain ⟨its, r', pl, hz⟩ := I.list hq
    have hlen := r'.length
    exact Calls.call_len_list pl.isList (by simp only [List.size_toArray] <;> omega) ⟨.int ys.length, H, I.tok _, ⟨s.toks + 1, by rw [List.size_toArray, hlen]⟩, q⟩
  · obtain ⟨its, r', pl, hz⟩ := I.tuple hq
    have hlen := r'.length
    exact len_tuple pl (by simp only [List.size_toArray] <;> omega) ⟨.int ys.length, H, I.tok _, ⟨s.toks + 1, by rw [List.size_toArray, hlen]⟩, q⟩
theorem CallR.or {f : Value} {r r' : List V → Hp → VK → Prop} (h : CallR X f r) (h' : CallR X f r') : CallR X f (fun xs H Q => r xs H Q ∨ r' xs H Q) := by
  intro pins s σ H xs us Q I rs q
  rcases q with q | q
  · exact h pins s σ H xs us Q I rs q
  · exact h' pins s σ H xs us Q I rs q
theorem call_list_of : CallR X (.type "list") (fun xs H Q => ∃ p ys, xs = [.ref p] ∧ (SqL X.K H p ys ∨ SqT X.K H p ys) ∧ ∀ l, H l = none → Q (.ref l) (upd H l (.lst ys))) := by
  intro pins s σ H xs us Q I r h
  obtain ⟨p, ys, rfl, hq, q⟩ := h
  obtain ⟨u, rfl, rx⟩ := vals1 r
  cases rx
  have fin : ∀ (its : List Value), Vals ys its → ys.length ≤ sizeLine → ∀ (h' : Heap) (c' : Nat), (∀ b o', s.heap.get? b = some o' → h'.get? b = some o') →
      h'.get? s.heap.objs.size = some { cls := .type "list", dict := none, data := .seq its.toArray c', slots := #[] } → EP X pins σ Q (.ref s.heap.objs.size) { s with heap := h' } := fun its r' hz h' c' kp e =>
    ⟨.ref s.heap.objs.size, _, I.laid (t' := s.toks) kp (Nat.le_refl _) (show ObjOk X.prog X.w _ h' _ (.lst ys) from ⟨hz, its, c', r', e⟩), rfl, q _ (I.hok.fresh (Nat.le_refl _))⟩
  rcases hq with hq | hq
  · obtain ⟨its, r', pl, hz⟩ := I.list hq
    have hlen := r'.length
    obtain ⟨o, ho, hc, n, hd⟩ := pl.isList
    exact call_list_seq p (.inl rfl) ho hc hd (fun h' c' kp e => fin its r' hz h' c' kp e) (by simp only [List.size_toArray] <;> omega)
  · obtain ⟨its, r', pl, hz⟩ := I.tuple hq
    have hlen := r'.length
    obtain ⟨o, ho, hc, n, hd⟩ := pl
    exact call_list_seq p (.inr rfl) ho hc hd (fun h' c' kp e => fin its r' hz h' c' kp e) (by simp only [List.size_toArray] <;> omega)
/-! ### the call of a builtin's method: o.m(..) -/
/-- the value is of that builtin type -/
def tyV (K : PySem.W.Frag) (T : String) (x : V) (H : Hp) : Prop := match x with
  | .str _ => T = "str"
  | .int _ => T = "int"
  | .ref p => (T = "list" ∧ ∃ xs, SqL K H p xs) ∨ (T = "tuple" ∧ ∃ o, K.lookup p = some o ∧ o.cls = .type "tuple" ∧ o.dict = none) ∨
      (T = "dict" ∧ ((∃ kvs, H p = some (.dK kvs)) ∨ ∃ kvs, H p = some (.dT kvs))) ∨ (T = "set" ∧ ∃ S n, H p = some (.set S n))
  | _ => False
theorem tyV_is {pins : List (Addr × Obj)} {σ : St} {H : Hp} {s : Shared} {T : String} {x : V} {v : Value} (I : Inv X pins σ H s) (r : RelV x v) (ty : tyV X.K T x H) :
    s.TypeIs v T ∧ ∀ a, v = .ref a → ∃ ob, s.heap.get? a = some ob ∧ ob.dict = none := by
  cases x with
  | str z =>
    obtain ⟨t, rfl⟩ := r
    cases (show T = "str" from ty)
    exact ⟨typeIs_str s z t, fun _ e => nomatch e⟩
  | int i =>
    obtain ⟨t, rfl⟩ := r
    cases (show T = "int" from ty)
    exact ⟨typeIs_int s i t, fun _ e => nomatch e⟩
  | ref p =>
    cases r
    rcases ty with ⟨rfl, xs, hq⟩ | ⟨rfl, o, hk, hc, hd⟩ | ⟨rfl, hk⟩ | ⟨rfl, S, n, hk⟩
    · obtain ⟨its, _, pl, _⟩ := I.list hq
      refine ⟨pl.isList.typeIs, fun a e => ?_⟩
      cases e
      obtain ⟨o, n, e, c, hd, _⟩ := pl
      exact ⟨o, e, hd⟩
    · refine ⟨⟨o, I.kIn p o hk, hc⟩, fun a e => ?_⟩
      cases e
      exact ⟨o, I.kIn _ o hk, hd⟩
    · have z : ∃ o, s.heap.get? p = some o ∧ o.ExactDict := by
        rcases hk with ⟨kvs, hk⟩ | ⟨kvs, hk⟩
        · obtain ⟨_, _, _, _, o, _, _, e, ex, _⟩ := I.hok p _ hk
          exact ⟨o, e, ex⟩
        · obtain ⟨_, _, _, _, o, _, _, e, ex, _⟩ := I.hok p _ hk
          exact ⟨o, e, ex⟩
      obtain ⟨o, e, ex⟩ := z
      refine ⟨⟨o, e, ex.1⟩, fun a e2 => ?_⟩
      cases e2
      exact ⟨o, e, ex.2.1⟩
    · obtain ⟨o, _, _, _, e, ex, _⟩ := I.hok p _ hk
      refine ⟨⟨o, e, ex.1⟩, fun a e2 => ?_⟩
      cases e2
      exact ⟨o, e, ex.2.1⟩
  | _ => exact False.elim ty
def tBM (K : PySem.W.Frag) (T : String) (r : V → List V → Hp → VK → Prop) (to : TE) (t : TA) : TE := fun σ H Q => to σ H fun x H1 => tyV K T x H1 ∧ t σ H1 fun xs H2 => r x xs H2 Q
variable {o e : Expr} {es : List Expr} {to : TE} {t : TA} {name : Str} {apos cpos : Pos} {T id : String} {r : V → List V → Hp → VK → Prop}
theorem pe_bm (pa : PlainAttrs T) (slot : Slot T name id) (hty : typeOf (.builtin id) = pure (.type "method_descriptor")) (hm : MtR X id r) (ho : PE X o to) (ha : PA X (e :: es) t)
    (hbase : attributeBase o name X.env (eval o X.env) = eval o X.env := by rfl)
    (hfew : ((backTo cpos (starEach (e :: es) X.env)).all (fun x => !x.1) && (backToKw cpos (keywordEach [] X.env)).all (fun x => x.1.isSome)
      && decide ((e :: es).length + ([] : List Keyword).length + (if ([] : List Keyword).isEmpty then 0 else 1) < 30)) = true := by rfl)
    (hline : (apos.endLine == cpos.line) = true := by rfl) (hs : starEach (e :: es) X.env = (false, eval e X.env) :: starEach es X.env := by rfl) (hplain : (backTo cpos (starEach es X.env)).any (·.1) = false := by rfl) :
    PE X (.Call (.Attribute o name apos) (e :: es) [] cpos) (tBM X.K T r to t) := by
  intro pins s σ H Q I h
  refine wpAny_Call_method_late hbase hfew hline rfl (thn (ho pins s σ H _ I h) fun v s1 ⟨x, H1, I1, r1, ty, q1⟩ => ?_)
  obtain ⟨h1, h2⟩ := tyV_is I1 r1 ty
  refine ⟨T, id, pa, slot, hty, h1, h2, ?_⟩
  have hA := ha cpos pins s1 σ H1 _ I1 q1
  rw [hs] at hA ⊢
  refine Calls.callWith_builtin (by show (false || (backTo cpos (starEach es X.env)).any (·.1)) = false; rw [hplain] <;> rfl) (Calls.evalArgs_plain ?_)
  exact thn hA fun us s2 ⟨vs, H2, I2, r2, q2⟩ => hm pins s2 σ H2 x vs v us Q I2 r1 r2 q2
/- xs.append(e), list.index on a module's tuple .. are MtR facts of 06m -/
end
end L2

namespace L2
open PySem PySem.Spec PyProof.Rows

def MtM (X : Cx) (id : String) (r : V → List V → Hp → VK → Prop) : Prop :=
  ∀ (pins : List (Addr × Obj)) (s : Shared) (σ : St) (H : Hp) (x : V) (xs : List V) (v : Value) (us : List Value) (Q : VK), Inv X pins σ H s → RelV x v → Vals xs us → r x xs H Q →
    wpAny (model X.prog X.w) X.A (call (.builtin id) (v :: us)) (EP X pins σ Q) X.xe s

/-! ### lists of values -/
theorem Vals.one : ∀ {x : V} {us : List Value}, Vals [x] us → ∃ u, us = [u] ∧ RelV x u
  | _, _, .cons r .nil => ⟨_, rfl, r⟩
theorem Vals.eraseIdx : ∀ {xs : List V} {us : List Value} (i : Nat), Vals xs us → Vals (xs.eraseIdx i) (us.eraseIdx i)
  | _, _, _, .nil => .nil
  | _, _, 0, .cons _ t => t
  | _, _, i + 1, .cons r t => .cons r (Vals.eraseIdx i t)
section
variable {X : Cx} {pins : List (Addr × Obj)} {σ : St} {H : Hp} {s : Shared} {l b : Addr} {xs ys zs : List V}

/-! ### the two steps: a tracked list is rewritten, a new list is laid -/
theorem Inv.lset {its its' : List Value} {n : Nat} {f : Array Value → Array Value} {t' : Nat} (I : Inv X pins σ H s) (hH : H l = some (.lst xs))
    (e : s.heap.get? l = some { cls := .type "list", data := .seq its.toArray n }) (hf : f its.toArray = its'.toArray) (hv : Vals ys its') (hz : ys.length ≤ sizeLine) :
    Inv X pins σ (upd H l (.lst ys)) { s with heap := s.heap.update l (Obj.mapSeq f), toks := t' } := by
  have q := PySem.IsL.update e f
  rw [hf] at q
  refine I.write (x := l) (e := l) (by rw [hH]; exact trivial) (.inl rfl) (fun b' u hb hu => (Heap.get?_update_other s.heap (Obj.mapSeq f) (Ne.symm hb)).trans hu) ⟨_, q⟩ ?_
  exact ⟨hz, its', _, hv, q⟩
theorem Inv.lnew {its : List Value} {t' : Nat} (I : Inv X pins σ H s) (hv : Vals ys its) (hz : ys.length ≤ sizeLine) :
    Inv X pins σ (upd H s.heap.objs.size (.lst ys)) { s with heap := s.heap.push { cls := .type "list", data := .seq its.toArray }, toks := t' } :=
  I.laid (fun _ _ q => Heap.get?_push_of_some _ q) (Nat.le_refl _) ⟨hz, its, 0, hv, Heap.get?_push_size _ rfl⟩
theorem Inv.fresh (I : Inv X pins σ H s) : H s.heap.objs.size = none := I.hok.fresh (Nat.le_refl _)
theorem Inv.lstM (I : Inv X pins σ H s) (hH : H l = some (.lst xs)) : xs.length ≤ sizeLine ∧ ∃ (its : List Value) (n : Nat), Vals xs its ∧ xs.length = its.length ∧ s.heap.get? l = some { cls := .type "list", data := .seq its.toArray n } := by
  obtain ⟨z, its, n, r, e⟩ := I.hok l _ hH
  exact ⟨z, its, n, r, r.length, e⟩

theorem notLongL {n : Nat} (h : n ≤ sizeLine) : Builtin.List.listTooLong n = false := by
  unfold Builtin.List.listTooLong
  exact decide_eq_false (by omega)
end

section
variable {X : Cx}

/-! ### methods -/
def rAppend : V → List V → Hp → VK → Prop := fun x vs H Q => ∃ l xs y, x = .ref l ∧ vs = [y] ∧ H l = some (.lst xs) ∧ xs.length < sizeLine ∧ Q .non (upd H l (.lst (xs ++ [y])))
theorem mt_append : MtM X "list.append" rAppend := by
  intro pins s σ H x vs v us Q I rx rv h
  obtain ⟨l, xs, y, rfl, rfl, hH, hz, q⟩ := h
  cases rx
  obtain ⟨u, rfl, ru⟩ := rv.one
  obtain ⟨z, its, n, r, hl, e⟩ := I.lstM hH
  refine call_meets F.slot_list_append ⟨_, e, rfl⟩ F.entry_list_append (F.args_list_append_2 _ _) (PySem.list_append l its.toArray n u (by rw [List.size_toArray]; omega)) ⟨e, ?_⟩
  refine ⟨.non, _, I.lset (its' := its ++ [u]) hH e (by simp) (r.append (.cons ru .nil)) ?_, rfl, q⟩
  rw [List.length_append, List.length_singleton]
  omega

/-! ### list + list, list += list, list * int -/
def rCat : R2 := fun x y H Q => ∃ l b xs zs, x = .ref l ∧ y = .ref b ∧ H l = some (.lst xs) ∧ H b = some (.lst zs) ∧ xs.length + zs.length ≤ sizeLine ∧ ∀ p, H p = none → Q (.ref p) (upd H p (.lst (xs ++ zs)))
theorem op_cat : OpR X (binaryOp .Add) rCat := by
  intro pins s σ H x y v u Q I rx ry h
  obtain ⟨l, b, xs, zs, rfl, rfl, hH, hB, hz, q⟩ := h
  cases rx
  cases ry
  obtain ⟨z, its, n, r, hl, e⟩ := I.lstM hH
  obtain ⟨z2, its2, n2, r2, hl2, e2⟩ := I.lstM hB
  refine PySem.P.add_list e e2 ?_ (by rw [List.size_toArray, List.size_toArray]; omega)
  have ea : its.toArray ++ its2.toArray = (its ++ its2).toArray := by simp
  rw [ea]
  exact ⟨.ref _, _, I.lnew (t' := s.toks) (r.append r2) (by rw [List.length_append]; omega), rfl, q _ I.fresh⟩
/-! ### del xs[i] -/
end

/-! ### xs[a:b] = ys -/
section
variable {prog : Program} {w : World} {A : Around} {E : Value → Shared → Prop} {s : Shared}
theorem bounds_run {a c n : Nat} (hac : a ≤ c) (hc : c ≤ n) : sliceBounds (some (a : Int)) (some (c : Int)) none n = ((a : Int), (c : Int), 1) := by
  simp only [sliceBounds, Option.getD_none]
  have h1 : ¬ ((a : Int) < 0) := by omega
  have h2 : ¬ ((c : Int) < 0) := by omega
  simp only [h1, h2, if_false, show (1 : Int) > 0 by decide, if_true]
  congr 1
  · omega
  · congr 1; omega
set_option maxRecDepth 100000 in
/-- list.__setitem__ with a slice of step one and another list -/
theorem setItem_slice {l b sl : Addr} {items new : Array Value} {n n2 : Nat} {vl vu : Value} {a c : Nat} {Q : Unit → Shared → Prop}
    (e : s.heap.get? l = some { cls := .type "list", data := .seq items n }) (e2 : s.heap.get? b = some { cls := .type "list", data := .seq new n2 }) (hne : l ≠ b)
    (hs : s.heap.IsSliceOf sl vl vu .none) (pl : IsPart vl (some (a : Int))) (pu : IsPart vu (some (c : Int))) (hac : a ≤ c) (hc : c ≤ items.size)
    (hsz : items.size + new.size ≤ sizeLine) (h : Q () { s with heap := s.heap.update l (Obj.mapSeq fun xs => xs.extract 0 a ++ new ++ xs.extract c xs.size) }) :
    wpAny (model prog w) A (setItem (.ref l) (.ref sl) (.ref b)) Q E s := by
  have hl : s.heap.IsList l items := PySem.IsL.isList e
  have hb : s.heap.IsList b new := PySem.IsL.isList e2
  obtain ⟨os, hos, hcs, hds⟩ := id hs
  have hTs : s.TypeIs (.ref sl) "slice" := ⟨os, hos, hcs⟩
  have hstep : ¬ ((rawPart none == rawInt 0) = true) := Bool.false_ne_true
  have hsame : Builtin.List.listSameRef (.ref l) (.ref b) = false := by
    unfold Builtin.List.listSameRef
    exact beq_eq_false_iff_ne.mpr hne
  have hmax : (max (a : Int) (c : Int)).toNat = c := by omega
  have hz' : ((fun xs : Array Value => xs.extract 0 a ++ new ++ xs.extract c xs.size) items).size ≤ sizeLine + 1 := by
    simp only [Array.size_append, Array.size_extract]
    omega
  unfold setItem
  try with_reducible refine wpAny_holding ?_
  first | refine wpAny_bind (wpAny_pure ?_) | skip
  refine wpAny_bind (wpAny_sequenceKey hl.typeIs (by decide) ?_)
  refine wpAny_bind (wpAny_callSpecial?_slot (name := Str.ofString "__setitem__") hl.typeIs slot_list_setitem
    (wpAny_call_entry slot_list_setitem hl.typeIs entry_list_setitem ?_ (args_list_setitem _ _ _)))
  show wpAny _ _ (Builtin.List.listSubscript? (.ref sl) >>= _) _ _ s
  refine wpAny_bind ?_
  unfold Builtin.List.listSubscript?
  refine wpAny_bind (wpAny_specialOf hTs slice_no_index ?_)
  simp only [Option.isNone_none, if_true]
  refine wpAny_pure ?_
  show wpAny _ _ (typeOf (.ref sl) >>= _) _ _ s
  refine wpAny_bind (wpAny_typeOf hTs ?_)
  first
    | rw [if_neg (by decide)]
    | refine PySem.W.KFB.if_not (by decide) ?_
  rw [listSliceParts_eq]
  refine wpAny_bind (wpAny_bind (wpAny_field hos hds (x := .none) rfl (wpAny_bind (wpAny_listPart .none ?_))))
  rw [if_neg hstep]
  refine wpAny_bind (wpAny_field hos hds (x := vl) rfl (wpAny_bind (wpAny_listPart pl ?_)))
  refine wpAny_bind (wpAny_field hos hds (x := vu) rfl (wpAny_bind (wpAny_listPart pu (wpAny_pure ?_))))
  first
    | simp only [hsame, Bool.false_eq_true, if_false]
    | refine PySem.W.KFB.if_not hsame ?_
    | (dsimp only
       rw [if_neg (by rw [hsame]; exact Bool.false_ne_true)])
  refine wpAny_bind (m := Builtin.List.listAllItems (.ref b) "must assign iterable to extended slice") ?_
  unfold Builtin.List.listAllItems
  refine wpAny_bind (wpAny_typeOf hb.typeIs ?_)
  first
    | refine PySem.W.KFB.if_so (by decide) ?_
    | rw [if_pos (by decide)]
    | simp only [beq_self_eq_true, Bool.true_or, if_true]
  unfold Builtin.List.listItems
  refine wpAny_bind (wpAny_seqItems e2 rfl (wpAny_pure ?_))
  refine wpAny_bind (wpAny_bind (wpAny_seqItems e rfl (wpAny_pure ?_)))
  refine wpAny_bind (wpAny_of_eq ((sliceIndices_raw (some (a : Int)) (some (c : Int)) none items.size (by simp)).trans (congrArg (pure : Int × Int × Int → Sem (Int × Int × Int)) (bounds_run hac hc))) ?_)
  show wpAny _ _ (if ((1 : Int) == 1) = true then _ else _) _ _ s
  rw [if_pos (by decide)]
  refine wpAny_bind (wpAny_rule ?_)
  first
    | simp only [notLongL hsz, Bool.false_eq_true, if_false]
    | refine PySem.W.KFB.if_not (notLongL hsz) ?_
  first | refine wpAny_bind (wpAny_pure ?_) | skip
  show wpAny _ _ (updateSeq l (fun xs => xs.extract 0 ((a : Int)).toNat ++ new ++ xs.extract (max (a : Int) (c : Int)).toNat xs.size) >>= _) _ _ s
  rw [hmax, Int.toNat_natCast]
  refine wpAny_bind (wpAny_updateSeq (hz := Nat.le_trans (Nat.le_add_right _ _) hsz) (_hz' := hz') e rfl ?_)
  refine wpAny_bind (wpAny_letGo ?_)
  first
    | exact wpAny_bind (wpAny_pure (wpAny_pure ⟨.none, rfl, wpAny_pure h⟩))
    | exact wpAny_pure ⟨.none, rfl, wpAny_pure h⟩
end

section
variable {X : Cx}
end
end L2

namespace Att
open PySem PySem.W PySem.Calls PyProof.Rows

/-! ### the script -/
theorem ints_of_wellAll {P : Params} {h : Heap} : ∀ (ns : List Int) (vs : List Value), WellAll P h vs (ns.map WData.int) → IntsAre vs ns := by
  intro ns
  induction ns with
  | nil =>
    intro vs w
    rw [List.map_nil] at w
    cases w
    exact .nil
  | cons n ns ih =>
    intro vs w
    rw [List.map_cons] at w
    cases w with
    | cons a b =>
      cases a
      exact .cons _ _ (ih _ b)

theorem script_of {l : OpenLaw} {n : Nat} (hn : l.most = some n) {P : Params} {h : Heap} {args : List WData} {vals : List Value}
    (hpre : l.row.toRowW.claim.pre args = true) (hwl : WellAll P h vals args) :
    ∃ a vs ns, vals = [Value.ref a] ∧ args = [WData.list (ns.map WData.int)] ∧ h.get? a = some { cls := .type "list", data := .seq vs.toArray } ∧ IntsAre vs ns ∧ ns.length ≤ n := by
  have hsh : WShape.hasAll [] args [.list .int] = true := (pre_splitW hpre).1
  have hc : l.pre.holds [] { args := args } = true := (pre_splitW hpre).2
  obtain ⟨d, r, rfl, h1, h2⟩ := hasAllW_cons hsh
  obtain rfl := hasAllW_nil h2
  obtain ⟨xs, rfl, h3⟩ := hasW_list h1
  obtain ⟨ns, rfl⟩ := items_int h3
  have hlen : ns.length ≤ n := by
    unfold OpenLaw.pre at hc
    have h4 : (WTm.not (.lt (.lit (.int (n : Int))) (.len (.arg 0)))).holds [] { args := [.list (ns.map .int)] } = true := by
      have h4 := (holds_andW hc).1
      rw [hn] at h4
      exact h4
    have h5 := condW_of h4 (w_not (w_lt w_lit (w_len_list (w_arg rfl))))
    rw [List.length_map] at h5
    refine Nat.le_of_not_lt fun q => ?_
    have q' : (n : Int) < ((ns.length : Nat) : Int) := by omega
    first
      | (rw [decide_eq_true q'] at h5; exact absurd h5 (by decide))
      | (simp at h5; omega)
  cases hwl with
  | cons w1 w2 =>
    cases w2
    cases w1 with
    | list ho hall => exact ⟨_, _, ns, rfl, rfl, ho, ints_of_wellAll ns _ hall, hlen⟩

theorem post_true (l : OpenLaw) (args : List WData) : l.row.toRowW.claim.post args (.bool true) args = true :=
  postW_of (r := l.row.toRowW) (X := (true == true))
    (show WShape.has [] (.bool true) .bool = true by first | rfl | decide | simp [WShape.has, WShape.arms, WShape.armsAll])
    (show (WTm.eq .res (.lit (.bool true))).value [] { args := args, res := some (.bool true), after := args } = some (.bool (true == true)) from w_eq_bool (w_res rfl) w_lit) rfl

/-! ### the attachment: holds_open's last premise (the goal 'hc' behind k_head) from a wpAny of the law's body -/
/-- the same from a codeAny of the CALL (for a layer whose function contracts speak of calls) -/
theorem attach_call {l : OpenLaw} {n : Nat} {q : Program} {loose : List Str} {XP : (Str → Option Value) → Heap → Prop} {YP : World → Heap → Prop} {d : DefRec}
    (hn : l.most = some n) (hdf : d.params.defaults = [])
    (call : ∀ (w : World) (s₀ s₁ : Shared) (mg mb : Str → Option Value) (fa : Addr) (o : Obj) (pm cd doc : Value) (a : Addr) (vs : List Value) (ns : List Int),
      Ground q loose [] XP w s₀ mg mb s₁.heap → YP w s₁.heap →
      s₁.heap.get? fa = some o → o.data = .func (docDef d.name d.params d.body d.scope pm cd doc) → s₁.heap.CodeRec cd d.name → mg d.name = some (.ref fa) →
      s₁.heap.get? a = some { cls := .type "list", data := .seq vs.toArray } → IntsAre vs ns → ns.length ≤ n → s₁.gens = #[] →
      codeAny (model l.prog w) callerA (.call (.ref fa) ⟨[.ref a], []⟩) (fun r s' => r = .ok (.ret (.bool true)) ∧ OldK s₁.heap s'.heap ∧ s'.os = s₁.os ∧ AllBare s'.gens) s₁) :
    WalkO q loose XP YP l.row.toRowW d [] (fun f vs => PySem.call f vs) := by
  intro w s₀ s₁ mg mb G Y fa o pm cd doc dV kV ho hd hcd hD hmg hg args vals as hpre hlay hrd hwl hlo
  obtain rfl : dV = .none := Dflts.none hD hdf
  obtain rfl : kV = .none := Dflts.noKw hD
  obtain ⟨a, vs, ns, rfl, rfl, hobj, hints, hlen⟩ := script_of hn hpre hwl
  refine enter_call (codeAny_mono (call w s₀ s₁ mg mb fa o pm cd doc a vs ns G Y ho (fd_plain hd) hcd hmg hobj hints hlen hg) fun r s' hq => ?_)
  obtain ⟨rfl, h2, h3, h4⟩ := hq
  exact ⟨.inl ⟨.bool true, .bool true, [], rfl, fun _ => rfl, .bool true, post_true l _, fun _ => ⟨List.Pairwise.nil, fun _ hm => (nomatch hm)⟩⟩, h2, h3, h4⟩

/-! ### rules over ANY heap (no ledger) from facts about the written part K: the library's own take a ledger (News) for what they write -/
section
variable {prog : Program} {w : World} {A : Around} {E : Value → Shared → Prop} {s : Shared} {K : Frag}

/-! the whole heap as the ledger: makes every rule that writes through a ledger a rule over any heap -/
def ledger (h : Heap) (L d : Addr) : List (Addr × Obj) := (List.range h.objs.size).filterMap fun a => if a = L ∨ a = d then none else (h.get? a).map fun o => (a, o)
end
end Att

namespace L2
open PySem PySem.Spec PyProof.Rows

theorem vals_ints : ∀ {vs : List Value} {ns : List Int}, IntsAre vs ns → Vals (ns.map V.int) vs
  | _, _, .nil => .nil
  | _, _, .cons n t h => .cons ⟨t, rfl⟩ (vals_ints h)

/-- nothing is tracked but the script, known to the object (or it is an object of the module) -/
def Only (H : Hp) : Prop := ∀ b, H b = none ∨ ∃ o xs, H b = some (.frz o (.lst xs))

/-- THE HEAD: the law's promise, at the heap behind the top. F, the promise of the law's def, may use that base is part of the heap (so K.In base, base.Ns mainGlobals mg stand in Mod) -/
theorem law_call {P : Program} {w : World} {K : PySem.W.Frag} {mg mb : Str → Option Value} {CX : CXT} {k : Nat} {fa a : Addr} {fd : FuncData} {x : Str} {sp : Sp} {s₁ : Shared} {vs : List Value} {ns : List Int}
    (KX : K.In s₁.heap) (hns : s₁.heap.Ns mainGlobals mg) (hb : s₁.heap.Ns builtinsNs mb) (hbb : ∀ x : Str, x ≠ "__name__" → mb x = bootBuiltins x) (hlim : s₁.heap.NoLimit) (hg : s₁.gens = #[])
    (ha : s₁.heap.get? a = some { cls := .type "list", data := .seq vs.toArray }) (hi : IntsAre vs ns) (hl : ns.length ≤ sizeLine) (hr : Room k callerA)
    (F : ∀ base : Heap, K.In base → base.Ns mainGlobals mg → FnOk P w K mg base CX k fa fd [x] sp) (hbind : ∀ (s : Shared) (u : Value), BindsTo s fd ⟨[u], []⟩ [(x, u)])
    (hsp : ∀ H : Hp, Only H → SqL K H a (ns.map V.int) → sp [.ref a] H (fun v _ => v = .bl true) fun _ _ _ => False)
    (hCX : ∀ H e s', CX [] H s₁ (fun _ _ _ => False) e s' → False) :
    codeAny (model P w) callerA (.call (.ref fa) ⟨[.ref a], []⟩) (fun r s' => r = .ok (.ret (.bool true)) ∧ OldK s₁.heap s'.heap ∧ s'.os = s₁.os ∧ AllBare s'.gens) s₁ := by
  have rv := vals_ints hi
  have lenV := hi.length
  -- from an abstract heap in which nothing but the script may be tracked
  have core : ∀ H : Hp, Only H → SqL K H a (ns.map V.int) → HOk P w H s₁.heap → (∀ b, H b ≠ none → b = a) → (H a ≠ none → K.lookup a = none) →
      codeAny (model P w) callerA (.call (.ref fa) ⟨[.ref a], []⟩) (fun r s' => r = .ok (.ret (.bool true)) ∧ OldK s₁.heap s'.heap ∧ s'.os = s₁.os ∧ AllBare s'.gens) s₁ := by
    intro H hO hS hok hA hK
    have base_of : ∀ {b : Addr} {o : Obj}, s₁.heap.get? b = some o → H b = none → (hidT s₁.heap H).get? b = some o := fun e n => hidT_get e n
    have noA : ∀ {b : Addr} {o : Obj} {es : Array DictEntry} {ep : Nat}, s₁.heap.get? b = some o → o.data = .dict es ep → H b = none := fun {b o es ep} e d => by
      cases q : H b with
      | none => rfl
      | some u =>
        have e' : b = a := hA b (by rw [q]; simp)
        subst e'
        rw [ha] at e; cases e
        have d' : Data.seq vs.toArray _ = Data.dict es ep := d
        cases d'
    have nsK : ∀ {b : Addr} {m : Str → Option Value}, s₁.heap.Ns b m → (hidT s₁.heap H).Ns b m := fun {b m} ⟨o, es, ep, e, d, r⟩ => ⟨o, es, ep, base_of e (noA e d), d, r⟩
    have hKb : K.In (hidT s₁.heap H) := fun b o e => base_of (KX b o e) (by
      cases q : H b with
      | none => rfl
      | some u =>
        have e' : b = a := hA b (by rw [q]; simp)
        subst e'
        rw [hK (by rw [q]; simp)] at e; cases e)
    have hM : Mod K mg (hidT s₁.heap H) := ⟨hKb, nsK hns, ⟨mb, nsK hb, hbb⟩, let ⟨mc, h1, h2⟩ := hlim; ⟨mc, nsK h1, h2⟩⟩
    have e0 : Env0 P w K mg (hidT s₁.heap H) callerA [] s₁ H := ⟨rfl, hM, fun b o e => of_hidT e, Nat.le_of_eq (hidT_size _ _), trivial, fun b hb => absurd (show b ∈ ([] : List Addr) from hb) (by simp), hok, .of_eq hg⟩
    refine codeAny_mono ((F _ hKb (nsK hns)).run callerA [] s₁ H ⟨[.ref a], []⟩ [.ref a] [.ref a] _ _ hr e0 (hbind s₁ (.ref a)) (.cons rfl .nil) (hsp H hO hS)) fun r s' h => ?_
    cases r with
    | error e => exact (hCX H e s' h).elim
    | ok fl =>
      cases fl with
      | next => exact False.elim h
      | brk => exact False.elim h
      | cont => exact False.elim h
      | ret u =>
        obtain ⟨v, H', os, bare, un, hok', r', q⟩ := h
        have q' : v = .bl true := q
        subst q'
        obtain rfl : u = Value.bool true := r'
        refine ⟨rfl, OldK.of_keep fun b o e => ?_, os, bare⟩
        cases q : H b with
        | none => exact un.keep b o e q (by intro z; exact absurd (show b ∈ ([] : List Addr) from z) (by simp)) (by simp)
        | some u =>
          rcases hO b with z | ⟨ob, xs, z⟩
          · rw [q] at z; cases z
          · have z2 := un.frzs b ob _ z
            obtain ⟨e1, _⟩ := hok b _ z
            obtain ⟨e2, _⟩ := hok' b _ z2
            rw [e] at e1; cases e1
            exact e2
  cases hk : K.lookup a with
  | some o =>
    -- the script is one of the module's own objects
    have e := KX a o hk
    rw [ha] at e
    cases e
    refine core (fun _ => none) (fun _ => .inl rfl) (.inr ⟨_, vs.toArray, _, hk, rfl, rfl, rfl, by rw [List.size_toArray, lenV]; exact hl, by simpa using rv⟩) (fun b u z => by have z' : (none : Option HO) = some u := z; cases z') (fun b z => absurd rfl z) fun z => absurd rfl z
  | none =>
    refine core (fun b => if b = a then some (.frz { cls := .type "list", data := .seq vs.toArray } (.lst (ns.map V.int))) else none) (fun b => ?_) (.inl (.inr ⟨{ cls := .type "list", data := .seq vs.toArray }, if_pos rfl⟩)) (fun b u z => ?_) (fun b z => ?_) fun _ => hk
    · by_cases hb : b = a
      · exact .inr ⟨_, _, if_pos hb⟩
      · exact .inl (if_neg hb)
    · by_cases hb : b = a
      · have z' := (if_pos hb).symm.trans z
        cases z'
        subst hb
        exact ⟨ha, by rw [List.length_map]; exact hl, vs, _, rv, ha⟩
      · have z' := (if_neg hb).symm.trans z
        cases z'
    · by_cases hb : b = a
      · exact hb
      · exact absurd (if_neg hb) z
end L2

namespace L2
open PySem PySem.Spec PyProof.Rows

abbrev KOf {K : PySem.W.Frag} {h : Heap} (_ : K.In h) : PySem.W.Frag := K

/-- the goal that k_head leaves (case hc), from the law's promise. F gives the function object fd (K's own) once, then the promise over every base -/
theorem walk_of {l : PySem.W.OpenLaw} {n k : Nat} {q : Program} {loose : List Str} {XP : (Str → Option Value) → Heap → Prop} {YP : World → Heap → Prop} {d : DefRec} {K : Params → PySem.W.Frag} {CX : World → CXT} {sp : World → Sp} {x : Str}
    (hn : l.most = some n) (hn2 : n ≤ sizeLine) (hdf : d.params.defaults = []) (hr : Room k callerA)
    (hY : ∀ (w : World) (h : Heap), YP w h → (K w.params).In h)
    (F : ∀ (w : World) (mg : Str → Option Value) (fa : Addr) (h : Heap), (K w.params).In h → h.Ns mainGlobals mg → mg d.name = some (.ref fa) →
      ∃ fd : FuncData, (∀ (s : Shared) (u : Value), BindsTo s fd ⟨[u], []⟩ [(x, u)]) ∧
        ∀ base : Heap, (K w.params).In base → base.Ns mainGlobals mg → FnOk l.prog w (K w.params) mg base (CX w) k fa fd [x] (sp w))
    (hsp : ∀ (w : World) (H : Hp) (a : Addr) (ns : List Int), ns.length ≤ n → Only H → SqL (K w.params) H a (ns.map V.int) → sp w [.ref a] H (fun v _ => v = .bl true) fun _ _ _ => False)
    (hCX : ∀ (w : World) (H : Hp) (s : Shared) (e : Value) (s' : Shared), CX w [] H s (fun _ _ _ => False) e s' → False) :
    PySem.W.WalkO q loose XP YP l.row.toRowW d [] (fun f vs => PySem.call f vs) := by
  refine Att.attach_call hn hdf fun w s₀ s₁ mg mb fa o pm cd doc a vs ns G Y ho hd hcd hmg hobj hints hlen hg => ?_
  have KX := hY w _ Y
  obtain ⟨fd, hb, hF⟩ := F w mg fa _ KX G.T.g hmg
  exact law_call KX G.T.g G.T.b G.T.builtins G.T.nolimit hg hobj hints (Nat.le_trans hlen hn2) hr hF hb (fun H hO hS => hsp w H a ns hlen hO hS) fun H e s' => hCX w H s₁ e s'
end L2

/- THE LAST THEOREM (shape; LID, My.* are yours):
   My.Adr: a structure of the addresses that your layer names (classes, functions); My.Txt K t: a structure (Prop) of the equations over K;
   My.txt_mk : {K} {implicit addresses ..} (e1 : nsIn K mainGlobals "law" = some (some (.ref f))) (e2 : K.lookup f = some ⟨oc, od, .func (fnOf "law" "law" params body scope dV kV doc pm an cdv ct), sl⟩) (e3 : codeIn K cdv "law" = true) .. : ∃ t, My.Txt K t

set_option maxRecDepth 100000 in
set_option maxHeartbeats 0 in
theorem PySem.Challenge.cw_LID_holds : PySem.Challenge.rw_LID.Holds := by
  w_on; o_law; k_head; (case hw => w_witness2)
  k_fill
  refine L2.walk_of (l := PySem.Challenge.rw_LID) (n := 63) (k := 40) (x := "script") (CX := fun w => ..) (sp := fun _ => My.sp_law) rfl (by decide) rfl ⟨rfl, by decide, by decide⟩ (fun w h Y => PySem.W.kIn_of Y) ?F ?S ?C
  case F =>
    intro w mg fa h KX G hmg
    have T : ∃ t, My.Txt (L2.KOf KX) t := by
      dsimp only [L2.KOf]                          -- K must stand as «<heap const> w.params» for k_is
      refine' My.txt_mk ?e1 ?e2 ?e3 ..
      (case e1 => PySem.W.k_is)                    -- in the order: a name -> its address -> its object -> its parts
      (case e2 => PySem.W.k_is)
      ..
    obtain ⟨t, T⟩ := T
    have e0 := hmg.symm.trans (PySem.W.mg_of KX G T.law)
    cases e0                                       -- fa is the law's own address
    exact ⟨_, fun s u => .of_eq rfl, fun base kb nb => My.law_fn T kb nb⟩     -- if «.of_eq rfl» comes too early: refine' ⟨_, ?b, fun base kb nb => My.law_fn T kb nb⟩; exact fun s u => .of_eq rfl
  case S => exact fun w H a ns hl hO hS => ..
  case C => exact ..
(the tactic k_is has no namespace: write k_is) -/

/-! SHORT WORDS over the layer: a def of the text, its body, what a loop and a test want. -/
namespace L2
open PySem PySem.Spec PyProof.Rows

/-! ### the text by places -/
def defArgs (s : Stmt) : Arguments := match s with
  | .FunctionDef _ a _ _ _ _ _ _ _ _ => a
  | _ => { posonlyargs := [], args := [], vararg := none, kwonlyargs := [], kw_defaults := [], kwarg := none, defaults := [] }
def defBody (s : Stmt) : List Stmt := match s with
  | .FunctionDef _ _ b _ _ _ _ _ _ _ => b
  | _ => []
def defScope (s : Stmt) : Scope := match s with
  | .FunctionDef _ _ _ _ _ _ sc _ _ _ => sc
  | _ => { kind := .function, names := [], isGenerator := false, isCoroutine := false }

/-! ### no exception leaves a def -/
abbrev CX0 : CXT := fun _ _ _ _ _ _ => False
abbrev E0 : XK := fun _ _ _ => False
/-! ### a def (or method) of the text as it stands behind the top -/
structure Fun (K : PySem.W.Frag) (x qual : Str) (st : Stmt) (f : Addr) (fd : FuncData) : Prop where
  ex : ∃ (oc : Value) (od : Option Addr) (kV doc pm : Value) (an : Option Addr) (cdv ct : Value) (osl : Array (Option Value)),
    fd = PySem.W.fnOf x qual (defArgs st) (defBody st) (defScope st) .none kV doc pm an cdv ct ∧ K.lookup f = some ⟨oc, od, .func fd, osl⟩ ∧ PySem.W.codeIn K cdv qual = true
  kp : PySem.W.keepIn K (.ref f) = true
section
variable {P : Program} {w : World} {K : PySem.W.Frag} {mg : Str → Option Value} {base : Heap}
/-- THE RULE for a def: its body as a term of rules, and the reading of that term -/
theorem Fun.ok {x qual : Str} {st : Stmt} {f : Addr} {fd : FuncData} {N ps : List Str} {k : Nat} {sp : Sp} (F : Fun K x qual st f fd) (S : FnScope N ps (defScope st)) (len : ∀ vs H Q E, sp vs H Q E → vs.length = ps.length)
    (hbody : ∀ (cdv : Value) (A : Around) (outer : List Env) (s : Shared) (H : Hp) (vs : List V) (Q : VK) (E : XK), Room k (A.deeper (envOfC qual (defScope st) s.heap.objs.size f cdv)) → sp vs H Q E →
      ∃ t, PSs (cxOf CX0 P w K mg base N qual (defScope st) f cdv A outer s H E).nox (defBody st) t ∧ t { nx := fun _ H' => Q .non H', rt := Q } (start N vs) H) : FnOk P w K mg base CX0 (k + 1) f fd ps sp := by
  obtain ⟨oc, od, kV, doc, pm, an, cdv, ct, osl, rfl, lk, hcd⟩ := F.ex
  refine fn_of lk hcd S len fun A outer s H vs Q E hr hsp => ?_
  obtain ⟨t, h, q⟩ := hbody cdv A outer s H vs Q E hr hsp
  exact ⟨t, h.nox, q⟩
/-- how its arguments bind (no defaults): h is «fun _ _ _ _ _ _ us hl => match us, hl with | [_, _], _ => rfl», one _ a parameter -/
theorem Fun.binds {x qual : Str} {st : Stmt} {f : Addr} {fd : FuncData} {ps : List Str} (F : Fun K x qual st f fd)
    (h : ∀ (kV doc pm : Value) (an : Option Addr) (cdv ct : Value) (us : List Value), us.length = ps.length → bindArgs (PySem.W.fnOf x qual (defArgs st) (defBody st) (defScope st) .none kV doc pm an cdv ct) ⟨us, []⟩ = pure (ps.zip us)) : Binds K fd ps [] := by
  obtain ⟨oc, od, kV, doc, pm, an, cdv, ct, osl, rfl, lk, hcd⟩ := F.ex
  exact .all (h kV doc pm an cdv ct)
theorem fun_mk {x qual : Str} {st : Stmt} {f : Addr} {oc : Value} {od an : Option Addr} {osl : Array (Option Value)} {kV doc pm cdv ct : Value} (l : K.lookup f = some ⟨oc, od, .func (PySem.W.fnOf x qual (defArgs st) (defBody st) (defScope st) .none kV doc pm an cdv ct), osl⟩)
    (c : PySem.W.codeIn K cdv qual = true) (k : PySem.W.keepIn K (.ref f) = true) : Fun K x qual st f (PySem.W.fnOf x qual (defArgs st) (defBody st) (defScope st) .none kV doc pm an cdv ct) := ⟨⟨oc, od, kV, doc, pm, an, cdv, ct, osl, rfl, l, c⟩, k⟩
end
theorem hu_of {A : Around} {k : Nat} (hr : Room k A) : A.units + 1 < cLine := Nat.lt_of_le_of_lt (Nat.add_le_add_left (by decide : 1 ≤ 64) _) hr.units
theorem small1000 {n : Nat} (h : n ≤ 1000) : n < sizeLine := Nat.lt_of_le_of_lt h (by decide)

/-! ### expressions in short: the name that stands in the i-th slot -/
section
variable {X : Cx}
theorem pv (i : Nat) {x : Str} {pos : Pos} (hN : X.N[i]? = some x := by rfl) (hv : Vis X.env.scope x := by first | exact Or.inl rfl | exact Or.inr (Or.inl rfl) | exact Or.inr (Or.inr rfl)) (hd : (x == ("__debug__" : Str)) = false := by decide)
    (hcd : (x == ("__classdict__" : Str)) = false := by decide) : PE X (.Name x pos) (tVar i) := pe_var hN hv hd hcd
end

/-! ### tests -/
/-! ### heaps -/
/-- all that was tracked is as it was -/
def Same (H H' : Hp) : Prop := ∀ b o, H b = some o → H' b = some o
theorem Same.refl (H : Hp) : Same H H := fun _ _ h => h
theorem Same.trans {H H1 H2 : Hp} (a : Same H H1) (b : Same H1 H2) : Same H H2 := fun c o h => b c o (a c o h)
theorem Same.free {H H' : Hp} (e : Same H H') {l : Addr} (h : H' l = Option.none) : H l = Option.none := by
  cases q : H l with
  | none => rfl
  | some o =>
    rw [e l o q] at h
    cases h
theorem Same.seq {K : PySem.W.Frag} {H H' : Hp} {a : Addr} {xs : List V} (e : Same H H') (h : SqL K H a xs) : SqL K H' a xs := by
  rcases h with (h | ⟨o, h⟩) | h
  · exact .inl (.inl (e _ _ h))
  · exact .inl (.inr ⟨o, e _ _ h⟩)
  · exact .inr h

end L2

set_option maxHeartbeats 4000000

/-! ## EXCEPTIONS over the layer: raised, passed on through frames, caught. -/
namespace L2
open PySem PySem.Spec PyProof.Rows
theorem ObjOk.is {P : Program} {w : World} {H : Hp} {h : Heap} {a : Addr} {o : HO} (x : ObjOk P w H h a o) : ∃ ob, h.get? a = some ob := by
  cases o with
  | lst xs => obtain ⟨_, _, _, _, e⟩ := x; exact ⟨_, e⟩
  | tup xs => obtain ⟨_, _, _, ob, e, _⟩ := x; exact ⟨_, e⟩
  | dK kvs => obtain ⟨_, _, _, _, o, _, _, e, _⟩ := x; exact ⟨_, e⟩
  | dT kvs => obtain ⟨_, _, _, _, o, _, _, e, _⟩ := x; exact ⟨_, e⟩
  | set S n => obtain ⟨o, _, _, _, e, _⟩ := x; exact ⟨_, e⟩
  | ins C dx fs => obtain ⟨_, _, _, e, _⟩ := x; exact ⟨_, e⟩
  | own y => obtain ⟨_, e⟩ := x; exact ⟨_, e⟩
  | xd fs => obtain ⟨_, ⟨_, _, _, e, _⟩, _⟩ := x; exact ⟨_, e⟩
  | rng lo hi => obtain ⟨_, _, _, e⟩ := x; exact ⟨_, e⟩
  | frz ob u => obtain ⟨e, _⟩ := x; exact ⟨_, e⟩
  | tbl ps => exact ⟨_, (show h.get? a = some _ from x)⟩
  | met f y => exact ⟨_, (show h.get? a = some _ from x)⟩
  | ext φ => obtain ⟨_, ⟨_, e⟩, _⟩ := x; exact ⟨_, e⟩

/-- an exception in flight at ea, of the class cls: the frames of l are still to be left; B: all that stays as it is (all but those frames, the exception and its traces) -/
structure Fly (P : Program) (w : World) (l : List Env) (H : Hp) (s : Shared) (ea : Addr) (cls : Value) (H' : Hp) (s' : Shared) : Prop where
  os : s'.os = s.os
  bare : AllBare s'.gens
  un : Un (frs l) [] H H' s.heap s'.heap
  ex : ∃ B a0, Heap.FlyingW B l ea cls a0 s'.heap ∧ HOk P w H' B ∧ (∀ b o, s.heap.get? b = some o → H b = none → b ∉ frs l → B.get? b = some o) ∧
    ∀ b o, s.heap.get? b = some o → b ∉ frs l → ∃ o', B.get? b = some o'
/-- a def's own frame -/
structure Cx.Own (X : Cx) : Prop where
  stk : X.stack = X.env :: X.outer
  fr : X.env.frame = some X.env.locals
  ex : X.ex = []
section
variable {X : Cx} {pins : List (Addr × Obj)} {σ : St} {H H' : Hp} {s s' : Shared} {ea : Addr} {cls a0 : Value} {B h1 h2 h' : Heap} {M : Model} {E : Value → Shared → Prop} {Q : Unit → Shared → Prop}
/-- out of the frame -/
theorem Inv.fly_out (W : X.Own) (I : Inv X pins σ H s) (u : Un (frs X.stack) [] H H' s.heap h1) (up : h1.UpToSlots s'.heap) (ff : h1.FunFrames B X.stack) (fl : Heap.FlyingW B X.outer ea cls a0 s'.heap) (hok : HOk X.prog X.w H' B)
    (kp : ∀ b o, s.heap.get? b = some o → H b = none → b ∉ frs X.stack → B.get? b = some o) (th : ∀ b o, s.heap.get? b = some o → b ∉ frs X.stack → ∃ o', B.get? b = some o') (os : s'.os = s.os) (bare : AllBare s'.gens) :
    Fly X.prog X.w X.outer X.H₀ X.s₀ ea cls H' s' := by
  have nst : ∀ b o, X.s₀.heap.get? b = some o → b ∉ frs X.outer → b ∉ frs X.stack := fun b o e hb z => by
    rcases List.mem_cons.mp (I.stkSub b z) with q | q
    · exact absurd q (Nat.ne_of_lt (Nat.lt_of_lt_of_le (Heap.lt_size e) I.ok.above))
    · exact hb q
  have nx : ∀ b, b ∉ X.ex := fun b => by rw [W.ex]; simp
  have nn : ∀ b : Addr, b ∉ ([] : List Addr) := fun b => by simp
  have inS : ∀ b, b ∈ frs X.outer → b ∈ frs X.stack := fun b hb => by
    rw [W.stk]
    obtain ⟨env, he, hf⟩ := List.mem_filterMap.mp hb
    exact List.mem_filterMap.mpr ⟨env, List.mem_cons_of_mem _ he, hf⟩
  have kpo : ∀ b o, X.s₀.heap.get? b = some o → X.H₀ b = none → b ∉ frs X.outer → B.get? b = some o := fun b o e n hb =>
    kp b o (I.base.keep b o e n hb (nx b)) (I.base.free b o e n (nx b)) (nst b o e hb)
  refine ⟨os.trans I.os, bare, ⟨fun b o e n hb _ => fl.1 b o (kpo b o e n hb), fun b o e n hb _ => ?_, fun b o e n _ => ?_, fun b o e _ => ?_, fun b xs e => u.tups b xs (I.base.tups b xs e), fun b o xs e => u.frzs b o xs (I.base.frzs b o xs e), fun b ps e => ?_⟩,
    B, a0, fl, hok, kpo, fun b o e hb => ?_⟩
  · obtain ⟨sl, e1⟩ := I.base.slot b o e n hb (nx b)
    obtain ⟨sl2, e2⟩ := u.any e1 (I.base.free b o e n (nx b)) (nn b)
    obtain ⟨_, o', ho', hnf⟩ := ff.mem (inS b hb)
    rw [e2] at ho'
    cases ho'
    obtain ⟨sl3, e3⟩ := up b _ e2 hnf
    exact ⟨sl3, e3⟩
  · obtain ⟨o', e1⟩ := I.base.there b o e (nx b)
    exact u.free b o' e1 (I.base.free b o e n (nx b)) (nn b)
  · obtain ⟨o1, e1⟩ := I.base.there b o e (nx b)
    by_cases hb : b ∈ frs X.stack
    · obtain ⟨_, o', ho', hnf⟩ := ff.mem hb
      obtain ⟨sl3, e3⟩ := up b _ ho' hnf
      exact ⟨_, e3⟩
    · obtain ⟨o2, e2⟩ := th b o1 e1 hb
      exact ⟨o2, fl.1 b o2 e2⟩
  · obtain ⟨m1, e1⟩ := I.base.tbls b ps e
    obtain ⟨m2, e2⟩ := u.tbls b _ e1
    exact ⟨m1 ++ m2, by rw [e2, Array.append_assoc]⟩
  · obtain ⟨o1, e1⟩ := I.base.there b o e (nx b)
    exact th b o1 e1 (nst b o e hb)

theorem fly_on (W : X.Own) (I : Inv X pins σ H s) (F : Fly X.prog X.w X.stack H s ea cls H' s')
    (hQ : ∀ h', Fly X.prog X.w X.outer X.H₀ X.s₀ ea cls H' { s' with heap := h' } → Q () { s' with heap := h' }) : wpAny M X.A (leaving X.env (.ref ea)) Q E s' := by
  obtain ⟨B, a0, fl, hok, kp, th⟩ := F.ex
  have fl2 := fl
  rw [W.stk] at fl2
  refine wpAny_leaves_onW (by rw [I.ok.frames, W.stk]) W.fr fl2 fun h' fl' up => hQ h' ?_
  exact I.fly_out W F.un up fl.2.2.1 fl' hok kp th F.os F.bare

/-- what is kept of the heap while an exception made here flies -/
theorem Inv.hide (I : Inv X pins σ H s) : HOk X.prog X.w H (PySem.W.hideAll s.heap (frs X.stack)) ∧
    s.heap.FunFrames (PySem.W.hideAll s.heap (frs X.stack)) X.stack := by
  refine ⟨fun a u e => (I.hok a u e).stay (fun b v hc q => PySem.W.hideAll_get _ q fun z => ?_) (fun _ q => q) fun _ _ q => q, PySem.W.funFrames_hide I.stack fun env he a ha => List.mem_filterMap.mpr ⟨env, he, ha⟩⟩
  have n := I.stkFree b z
  rcases hc with rfl | hc
  · rw [n] at e; cases e
  · rw [n] at hc; cases hc

theorem fly_new (W : X.Own) (I : Inv X pins σ H s) {args : List Value} (hx : Heap.MadeExcOf s.heap h2 ea cls args)
    (hQ : ∀ h', Fly X.prog X.w X.outer X.H₀ X.s₀ ea cls H { s with heap := h' } → Q () { s with heap := h' }) : wpAny M X.A (leaving X.env (.ref ea)) Q E { s with heap := h2 } := by
  obtain ⟨hok, ff⟩ := I.hide
  have ff2 := ff
  rw [W.stk] at ff2
  refine wpAny_leaves_madeW (s := { s with heap := h2 }) (base := PySem.W.hideAll s.heap (frs X.stack)) (h := s.heap) (by rw [I.ok.frames, W.stk]) W.fr (fun b o q => PySem.W.of_hideAll _ q) (by rw [← W.stk]; exact ff) hx fun h' t fl tup bt up => hQ h' ?_
  exact I.fly_out (s' := { s with heap := h' }) W (Un.kept hx.keeps) up (ff.of_keeps fun b o e _ => ⟨o, hx.keeps b o e, rfl⟩) fl hok (fun b o e _ hb => PySem.W.hideAll_get _ e hb) (fun b o e hb => ⟨o, PySem.W.hideAll_get _ e hb⟩) rfl I.bare
end

/-- how an exception lies behind a call -/
def CXE (P : Program) (w : World) : CXT := fun l H s E e s' => ∃ ea cls H', e = .ref ea ∧ Fly P w l H s ea cls H' s' ∧ E cls none H'
/-- what is wanted of exceptions in X: Ek, of the names' values, the class, the heap -/
structure Lv (X : Cx) (Ek : St → XK) : Prop where
  call : ∀ pins σ ea cls H H' s s', Inv X pins σ H s → Fly X.prog X.w X.stack H s ea cls H' s' → Ek σ cls none H' → X.xe (.ref ea) s'
structure LvR (X : Cx) (Ek : St → XK) : Prop extends Lv X Ek where
  new : ∀ pins σ ea cls args H s h2, Inv X pins σ H s → Heap.MadeExcOf s.heap h2 ea cls args → Ek σ cls none H → X.xe (.ref ea) { s with heap := h2 }
theorem lv_def {P : Program} {w : World} {K : PySem.W.Frag} {mg : Str → Option Value} {base : Heap} {N : List Str} {qual : Str} {scope : Scope} {f : Addr} {cd : Value} {A : Around} {outer : List Env} {s : Shared} {H : Hp} {E : XK} :
    LvR (cxOf (CXE P w) P w K mg base N qual scope f cd A outer s H E) (fun _ => E) := by
  have W : (cxOf (CXE P w) P w K mg base N qual scope f cd A outer s H E).Own := ⟨rfl, rfl, rfl⟩
  refine ⟨⟨fun pins σ ea cls H1 H' s1 s' I F q => ?_⟩, fun pins σ ea cls args H1 s1 h2 I hx q => ?_⟩
  · exact fly_on W I F fun h' F => ⟨ea, cls, H', rfl, F, q⟩
  · exact fly_new W I hx fun h' F => ⟨ea, cls, H1, rfl, F, q⟩
section
variable {X : Cx} {Ek : St → XK} {k : Nat} {f C : Addr} {fd : FuncData} {ps : List Str} {sp : Sp} {dvs : List V} {ds : List Value} {x : Str} {p pos : Pos} {e : Expr} {es : List Expr} {t : TA}
theorem run_fnX {pins : List (Addr × Obj)} {σ : St} {H : Hp} {s : Shared} {Q : VK} {us : List Value} {vs : List V} (L : Lv X Ek) (F : FnOk X.prog X.w X.K X.mg X.base (CXE X.prog X.w) k f fd ps sp) (hr : Room k X.A) (hb : Binds X.K fd ps ds) (hd : Vals dvs ds)
    (I : Inv X pins σ H s) (r : Vals vs us) (h : sp (vs ++ dvs) H Q (Ek σ)) : wpAny (model X.prog X.w) X.A (call (.ref f) us) (EP X pins σ Q) X.xe s := by
  have r2 : Vals (vs ++ dvs) (us ++ ds) := r.append hd
  have hl : (us ++ ds).length = ps.length := by rw [← r2.length]; exact F.len _ _ _ _ h
  refine wpAny_call (codeAny_mono (F.run X.A X.stack s H ⟨us, []⟩ (us ++ ds) (vs ++ dvs) Q (Ek σ) hr I.env0 (hb s us I.kIn hl) r2 h) fun r s' hq => ?_)
  cases r with
  | error e =>
    obtain ⟨ea, cls, H', rfl, fl, q⟩ := hq
    exact L.call pins σ ea cls H H' s s' I fl q
  | ok fl =>
    cases fl with
    | ret u => exact I.after hq
    | next => exact False.elim hq
    | brk => exact False.elim hq
    | cont => exact False.elim hq
/-- f(e, ..); exceptions go to Ek -/
def tCallX (sp : Sp) (dvs : List V) (Ek : St → XK) (t : TA) : TE := fun σ H Q => t σ H fun vs H1 => sp (vs ++ dvs) H1 Q (Ek σ)
theorem pe_callX (L : Lv X Ek) (F : FnOk X.prog X.w X.K X.mg X.base (CXE X.prog X.w) k f fd ps sp) (hr : Room k X.A) (hg : Gl X x) (hm : X.mg x = some (.ref f)) (hk : PySem.W.keepIn X.K (.ref f) = true) (hb : Binds X.K fd ps ds) (hd : Vals dvs ds)
    (ha : PA X (e :: es) t) (hdb : (x == ("__debug__" : Str)) = false := by decide) (he : starEach (e :: es) X.env = (false, eval e X.env) :: starEach es X.env := by rfl) (hpl : (backTo pos (starEach es X.env)).any (·.1) = false := by rfl) :
    PE X (.Call (.Name x p) (e :: es) [] pos) (tCallX sp dvs Ek t) := by
  intro pins s σ H Q I h
  refine wpAny_Call_Name_kw (ld_glob I hg hm ?_ hdb)
  refine PySem.W.callWith_K (h₀ := X.base) I.ok.mod.kin hk (thn (ha pos pins s σ H _ I h) fun us s1 ⟨vs, H1, I1, r, q⟩ => ⟨I1.kIn, ?_⟩) he hpl
  exact run_fnX L F hr hb hd I1 r q
/-! ### raise C(e, ..), C a class of the text under ValueError without an __init__ of its own -/
/-- the class of an exception: where it stands, that it is made plainly -/
structure Exc (K : PySem.W.Frag) (C : Addr) : Prop where
  ok : ∃ bmB newId initId, ExcBaseFacts "ValueError" newId initId bmB ∧ PySem.W.excIn K C bmB newId = true
theorem exc_obj {K : PySem.W.Frag} {h : Heap} {C : Addr} {bmB : List Value} {newId : String} (X : K.In h) (q : PySem.W.excIn K C bmB newId = true) :
    ∃ bm N nm q bs hdct sn sub ab col dd k0 k1 k2 k3 k5 mN, h.get? C = some (excClassObj nm q C N bs bm hdct sn sub ab col dd k0 k1 k2 k3 k5 newId) ∧ h.Ns N mN ∧ mN "__init__" = none ∧ OwnTail h bmB bm := by
  unfold PySem.W.excIn at q
  split at q
  case h_2 => cases q
  case h_1 dd cd sl ho =>
    split at q
    case h_2 => cases q
    case h_1 C1 bm1 a0 a1 a2 a3 nw a5 hm hs =>
      simp only [Bool.and_eq_true, beq_iff_eq, Bool.not_eq_true'] at q
      obtain ⟨⟨⟨⟨⟨e1, e2⟩, e3⟩, e4⟩, e5⟩, e6⟩ := q
      subst e1
      subst e2
      cases cd with
      | mk nm bs mro ns qn hd sn sub ab col del =>
        have m1 : mro = .ref C1 :: bm1 := hm
        have m2 : del = false := e3
        subst m1
        subst m2
        have z : sl = #[a0, a1, a2, a3, some (.builtin nw), a5] := Array.toList_inj.mp hs
        subst z
        exact ⟨bm1, ns, nm, qn, bs, hd, sn, sub, ab, col, dd, a0, a1, a2, a3, a5, _, X _ _ ho, Heap.Ns.of_isNs (PySem.W.isNs_of_in X e5), PySem.W.nsMap_none_of_in X e5 e6, PySem.W.tail_of_in X e4⟩
def sRaise (C : Addr) (Ek : St → XK) (t : TA) : TS := fun _ σ H => t σ H fun vs H1 => vs.length ≤ sizeLine ∧ Ek σ (.ref C) none H1
theorem ps_raise (L : LvR X Ek) (O : Exc X.K C) (hc : X.calm = true) (hg : Gl X x) (hm : X.mg x = some (.ref C)) (ha : PA X (e :: es) t) (hdb : (x == ("__debug__" : Str)) = false := by decide)
    (he : starEach (e :: es) X.env = (false, eval e X.env) :: starEach es X.env := by rfl) (hpl : (backTo pos (starEach es X.env)).any (·.1) = false := by rfl) {rpos : Pos} :
    PS X (.Raise (some (.Call (.Name x p) (e :: es) [] pos)) none rpos) (sRaise C Ek t) := by
  intro pins s σ H D I h
  obtain ⟨bmB, newId, initId, FB, q⟩ := O.ok
  obtain ⟨tl, N, nm, qn, bs, hdct, sn, sub, ab, col, dd, k0, k1, k2, k3, k5, mN, hC, hN, hni, T⟩ := exc_obj I.ok.mod.kin q
  refine wpAny_Raise_call_subT (C := C) (nm := nm) (q := qn) (N := N) (bs := bs) (bm := tl) (hdct := hdct) (sn := sn) (sub := sub) (ab := ab) (col := col) (dd := dd) (k0 := k0) (k1 := k1) (k2 := k2) (k3 := k3) (k5 := k5)
    FB (mN := mN) (T.hasType FB.hasBase) (I.ok.hd hc) (by rw [he]; show (false || (backTo pos (starEach es X.env)).any (·.1)) = false; rw [hpl]; rfl) hni (ld_glob I hg hm ⟨rfl, ?_⟩ hdb)
  have ha' := ha pos pins s σ H _ I h
  rw [he] at ha' ⊢
  refine Calls.evalArgs_plain (wpAny_mono ha' (fun us s2 hq => ?_) fun _ _ y => y)
  obtain ⟨vs, H1, I1, r, hl, q1⟩ := hq
  refine ⟨rfl, by rw [← r.length]; exact hl, I1.bk _ _ hC, hN.keeps I1.bk, T.keeps I1.bk, fun h' ea hm => ?_⟩
  exact L.new pins σ ea _ us H1 s2 h' I1 hm q1
end

/-! ### caught -/
/-- an exception that lies there, of the class cls -/
def excAt (ea : Addr) (cls : Value) : HO := .ext fun h => ∃ o vs, h.get? ea = some o ∧ o.cls = cls ∧ o.data = .fields vs
section
variable {X : Cx} {pins : List (Addr × Obj)} {σ : St} {H H' : Hp} {s s' : Shared}
/-- another wish, other pins, other code around -/
abbrev Cx.other (X : Cx) (pn : List (Addr × Obj)) (xe : Value → Shared → Prop) : Cx := { X with pn := pn, xe := xe }
abbrev Cx.suite (X : Cx) (ea : Addr) : Cx := { X with A := X.A.mark (some (.ref ea)), calm := false, xe := fun _ _ => False }
theorem Cx.Ok.other (ok : X.Ok) (pn : List (Addr × Obj)) (xe : Value → Shared → Prop) : (X.other pn xe).Ok :=
  ⟨ok.mod, ok.kind, ok.glob, ok.blt, ok.above, ok.inj, ok.has, ok.cab, ok.hd, ok.frames, ok.stk, ok.exf, ok.bs, ok.bsz, ok.noex, ok.exfs, ok.funs, ok.frf⟩
theorem Cx.Ok.unother {pn : List (Addr × Obj)} {xe : Value → Shared → Prop} (ok : (X.other pn xe).Ok) : X.Ok :=
  ⟨ok.mod, ok.kind, ok.glob, ok.blt, ok.above, ok.inj, ok.has, ok.cab, ok.hd, ok.frames, ok.stk, ok.exf, ok.bs, ok.bsz, ok.noex, ok.exfs, ok.funs, ok.frf⟩
theorem Cx.Ok.suite (ok : X.Ok) (ea : Addr) : (X.suite ea).Ok :=
  ⟨ok.mod, ok.kind, ok.glob, ok.blt, ok.above, ok.inj, ok.has, ok.cab, fun h => (by cases h), ok.frames, ok.stk, ok.exf, ok.bs, ok.bsz, ok.noex, ok.exfs, ok.funs, ok.frf⟩
theorem Inv.other (I : Inv X pins σ H s) (xe : Value → Shared → Prop) : Inv (X.other (X.pn ++ pins) xe) [] σ H s :=
  ⟨I.ok.other _ _, I.os, I.bare, I.base, I.loc, I.cell, I.free, I.freeC, fun p hp => I.pin p (by simpa using hp), I.hok, I.len⟩
theorem Inv.unother {xe : Value → Shared → Prop} {pins' : List (Addr × Obj)} (I : Inv (X.other (X.pn ++ pins) xe) pins' σ H s) : Inv X pins σ H s :=
  ⟨I.ok.unother, I.os, I.bare, I.base, I.loc, I.cell, I.free, I.freeC, fun p hp => I.pin p (List.mem_append_left _ hp), I.hok, I.len⟩
theorem Inv.suite (I : Inv X pins σ H s) (ea : Addr) : Inv (X.suite ea) pins σ H s :=
  ⟨I.ok.suite ea, I.os, I.bare, I.base, I.loc, I.cell, I.free, I.freeC, I.pin, I.hok, I.len⟩
end

section
variable {X : Cx} {body suite : List Stmt} {b₀ : Stmt} {n xn : Str} {i : Nat} {C : Addr} {tb : (St → XK) → TS} {ts : TS} {np hpos pos : Pos}
end
end L2
namespace L2
open PySem PySem.Spec PyProof.Rows
/-- THE RULE for a def that may raise: its body as a term of rules, and the reading of that term -/
theorem Fun.okX {P : Program} {w : World} {K : PySem.W.Frag} {mg : Str → Option Value} {base : Heap} {x qual : Str} {st : Stmt} {f : Addr} {fd : FuncData} {N ps : List Str} {k : Nat} {sp : Sp} (F : Fun K x qual st f fd) (S : FnScope N ps (defScope st)) (len : ∀ vs H Q E, sp vs H Q E → vs.length = ps.length)
    (hbody : ∀ (cdv : Value) (A : Around) (outer : List Env) (s : Shared) (H : Hp) (vs : List V) (Q : VK) (E : XK), LvR (cxOf (CXE P w) P w K mg base N qual (defScope st) f cdv A outer s H E) (fun _ => E) → Room k (A.deeper (envOfC qual (defScope st) s.heap.objs.size f cdv)) → sp vs H Q E →
      ∃ t, PSs (cxOf (CXE P w) P w K mg base N qual (defScope st) f cdv A outer s H E) (defBody st) t ∧ t { nx := fun _ H' => Q .non H', rt := Q } (start N vs) H) : FnOk P w K mg base (CXE P w) (k + 1) f fd ps sp := by
  obtain ⟨oc, od, kV, doc, pm, an, cdv, ct, osl, rfl, lk, hcd⟩ := F.ex
  exact fn_of lk hcd S len fun A outer s H vs Q E hr hsp => hbody cdv A outer s H vs Q E lv_def hr hsp
end L2

/-! ## MORE RULES over the layer: isinstance, any, ... -/
namespace L2
open PySem PySem.Spec PyProof.Rows
theorem bb_len : bootBuiltins "len" = some (.builtin "len") := by decide +kernel
theorem bb_min : bootBuiltins "min" = some (.builtin "min") := by decide +kernel
theorem bb_divmod : bootBuiltins "divmod" = some (.builtin "divmod") := by decide +kernel
theorem bb_isinstance : bootBuiltins "isinstance" = some (.builtin "isinstance") := by decide +kernel
theorem bb_int : bootBuiltins "int" = some (.type "int") := by decide +kernel
theorem bb_bool : bootBuiltins "bool" = some (.type "bool") := by decide +kernel
theorem bb_tuple : bootBuiltins "tuple" = some (.type "tuple") := by decide +kernel
theorem bb_list : bootBuiltins "list" = some (.type "list") := by decide +kernel
/-! ### the class of an exception that lies there -/
open PySem.Builtin PySem.Builtin.ObjectAttr PySem.Builtin.Getset_descriptor
structure ExcCls (K : PySem.W.Frag) (D : Addr) : Prop where
  cls : (PySem.W.clsIn K D).isSome = true
  ga : PySem.W.findIn K (.ref D) "__getattribute__" = some (some (.builtin "BaseException.__getattribute__"))
  gt : PySem.W.findIn K (.ref D) "__getattr__" = some none
  cl : PySem.W.findIn K (.ref D) "__class__" = some (some (.builtin "object.__class__"))
  mo : PySem.W.mroIn K D (.type "object") = some true
  mb : PySem.W.mroIn K D (.type "BaseException") = some true
section
variable {prog : Program} {w : World} {A : Around} {E : Value → Shared → Prop} {h : Heap} {g : Array GenState} {d : Drawn} {t : Nat} {os : OsState} {K : PySem.W.Frag} {a D : Addr} {o : Obj}
theorem exc_ty {M : Model} (hx : h.get? a = some o) (hc : o.cls = .ref D) : PySem.W.Looks M h (typeOf (.ref a)) (.ref D) := hc ▸ (PySem.W.Looks.ld hx).andThen .now
theorem exc_class_get {R : Result → Shared → Prop} (X : K.In h) (C : ExcCls K D) (hx : h.get? a = some o) (hc : o.cls = .ref D) (hq : R (.ok (.ret (.ref D))) ⟨h, g, d, t, os⟩) :
    codeAny (model prog w) A (.call (.builtin "getset_descriptor.__get__") ⟨[.builtin "object.__class__", .ref a, .ref D], []⟩) R ⟨h, g, d, t, os⟩ := by
  have L0 := exc_ty (M := model prog w) hx hc
  have L1 := PySem.W.looks_mroIn (M := model prog w) X C.mo
  have T5 : (⟨h, g, d, t, os⟩ : Shared).TypeIs (.builtin "object.__class__") "getset_descriptor" := F.typeOf_object_class
  refine codeAny_call_builtin F.slot_gs_get.plain F.entry_gs_get (F.slot_gs_get.check _ _ _ _ _ _ _ _ T5 (F.args_gs_get _ _ _) ?_)
  unfold Builtin.«getset_descriptor.__get__» descrGet
  rw [PySem.W.dga_obj]
  refine wpAny_bind (wpAny_pure ?_)
  unfold descrGetter descrCheckInstance descrNameAndClass
  unfold isInstance
  simp only [PySem.W.KF.owner_class]
  repeat lk
  refine ⟨Code.quiet_builtin _ (by decide +kernel), codeAny_builtin F.entry_object_class ?_⟩
  unfold Builtin.«object.__class__»
  unfold shownTypeOf
  repeat lk
  exact hq
theorem exc_class_entry {tk : Tok} {Q : Fin → Shared → Prop} (X : K.In h) (C : ExcCls K D) (hx : h.get? a = some o) (hc : o.cls = .ref D) (hq : Q (.done (.ret (.ref D))) ⟨h, g, d, t, os⟩) :
    wpAny (model prog w) A (Builtin.«object.__getattribute__» ⟨[.ref a, .str "__class__" tk], []⟩) Q E ⟨h, g, d, t, os⟩ := by
  have L0 := exc_ty (M := model prog w) hx hc
  have L1 := PySem.W.looks_findIn (M := model prog w) X C.cl
  have T5 : (⟨h, g, d, t, os⟩ : Shared).TypeIs (.builtin "object.__class__") "getset_descriptor" := F.typeOf_object_class
  have f5 := F.typeOf_object_class
  have f6 := F.slot_gs_get.lookup
  have f7 := F.slot_gs_set.lookup
  repeat (any_goals (first | assumption | (with_reducible refine wpAny_loadPart_at hx ?_; rw [hc]) | with_reducible refine PySem.W.Looks.at L1 ?_ | wp_step))
  refine exc_class_get X C hx hc ?_
  repeat (any_goals (first | assumption | wp_step))
theorem exc_class_call {tk : Tok} {R : Result → Shared → Prop} (X : K.In h) (C : ExcCls K D) (hx : h.get? a = some o) (hc : o.cls = .ref D) (hq : R (.ok (.ret (.ref D))) ⟨h, g, d, t, os⟩)
    (hk : ∀ (Q : Unit → Shared → Prop) (E : Value → Shared → Prop) (A : Around) (nameV : Value), Q () ⟨h, g, d, t, os⟩ → wpAny (model prog w) A (checkBuiltinCall "BaseException.__getattribute__" ⟨[.ref a, nameV], []⟩) Q E ⟨h, g, d, t, os⟩) :
    codeAny (model prog w) A (.call (.builtin "BaseException.__getattribute__") ⟨[.ref a, .str "__class__" tk], []⟩) R ⟨h, g, d, t, os⟩ :=
  codeAny_call_builtin F.excAttr_ValueError.ga.plain F.entry_bexc_ga (hk _ _ _ _ (exc_class_entry X C hx hc hq))
theorem exc_check {M : Model} {nameV : Value} {Q : Unit → Shared → Prop} (X : K.In h) (C : ExcCls K D) (hx : h.get? a = some o) (hc : o.cls = .ref D) (hq : Q () ⟨h, g, d, t, os⟩) :
    wpAny M A (checkBuiltinCall "BaseException.__getattribute__" ⟨[.ref a, nameV], []⟩) Q E ⟨h, g, d, t, os⟩ := by
  have k1 : builtinKind "BaseException.__getattribute__" = some .slot := by decide +kernel
  have k2 : splitId "BaseException.__getattribute__" = some ("BaseException", "__getattribute__") := by decide +kernel
  have L0 := exc_ty (M := M) hx hc
  have L1 := PySem.W.looks_mroIn (M := M) X C.mb
  have k3 := F.args_bexc_ga (.ref a) nameV
  simp only [checkBuiltinCall, k1, k2]
  refine wpAny_bind ?_
  unfold isInstance
  repeat (any_goals (first | assumption | (with_reducible refine wpAny_loadPart_at hx ?_; rw [hc]) | with_reducible refine PySem.W.Looks.at L1 ?_ | wp_step))
theorem exc_class_attr {Q : Option Value → Shared → Prop} (X : K.In h) (C : ExcCls K D) (hx : h.get? a = some o) (hc : o.cls = .ref D) (hq : Q (some (.ref D)) ⟨h, g, d, t + 1, os⟩) :
    wpAny (model prog w) A (getAttr? (.ref a) "__class__") Q E ⟨h, g, d, t, os⟩ := by
  have L0 := exc_ty (M := model prog w) hx hc
  have L1 := PySem.W.looks_findIn (M := model prog w) X C.ga
  have L2 := PySem.W.looks_findIn (M := model prog w) X C.gt
  have f3 := F.excAttr_ValueError.ga.bind (.ref a)
  have x2 : (Value.builtin "BaseException.__getattribute__" == Value.builtin "object.__getattribute__") = false := by decide +kernel
  have x1 : (onTheHeap (Value.ref D) && Value.builtin "BaseException.__getattribute__" == Value.builtin "object.__getattribute__") = false := by rw [x2]; rfl
  have x0 : (false && onTheHeap (Value.builtin "BaseException.__getattribute__")) = false := rfl
  unfold getAttr? getAttrBy?
  repeat (any_goals (first | assumption | (with_reducible refine wpAny_loadPart_at hx ?_; rw [hc]) | with_reducible refine PySem.W.Looks.at L1 ?_ | with_reducible refine PySem.W.Looks.at L2 ?_ | wp_step))
  refine exc_class_call X C hx hc ?_ (fun Q E A n q => exc_check X C hx hc q)
  repeat (any_goals (first | assumption | wp_step))
end

/-- isinstance of an exception that lies there -/
theorem kitx_exc {K : PySem.W.Frag} {a D : Addr} (C : ExcCls K D) : PySem.W.KitX K (.ref a) (.ref D) (fun h => ∃ o vs, h.get? a = some o ∧ o.cls = .ref D ∧ o.data = .fields vs) where
  ty := fun _ _ _ ⟨_, _, h1, h2, _⟩ => exc_ty h1 h2
  it := fun _ _ X _ => by
    obtain ⟨cd, hc⟩ := Option.isSome_iff_exists.mp C.cls
    unfold PySem.W.clsIn at hc
    split at hc
    case h_2 => cases hc
    case h_1 ho =>
      intro A' Q' E' s' k q
      unfold isType loadHead
      exact wpAny_bind (wpAny_loadPart (k _ _ (X _ _ ho)) (wpAny_pure q))
  ne := fun h tp dd its n sl X htp => by
    obtain ⟨cd, hc⟩ := Option.isSome_iff_exists.mp C.cls
    unfold PySem.W.clsIn at hc
    refine Bool.eq_false_iff.mpr fun q => ?_
    obtain rfl : D = tp := Value.ref.inj (beq_iff_eq.mp q)
    split at hc
    case h_2 => cases hc
    case h_1 ho => cases (X _ _ ho).symm.trans htp
  ca := fun {_ _ _ _ _ s} X ⟨_, _, h1, h2, _⟩ k => by
    obtain ⟨h, g, d, t, os⟩ := s
    exact exc_class_attr X C h1 h2 k
/-- what a value's class is -/
inductive TyX (K : PySem.W.Frag) (H : Hp) : V → Value → Prop where
  | old {x : V} {t : Value} (h : TyOf K H x t) : TyX K H x t
  | exc {a D : Addr} (e : H a = some (excAt a (.ref D))) (C : ExcCls K D) : TyX K H (.ref a) (.ref D)
theorem call_isinst {X : Cx} : CallR X (.builtin "isinstance") (fun xs H Q => ∃ x c t cv b, xs = [x, c] ∧ TyX X.K H x t ∧ RelV c cv ∧ PySem.W.kitOne X.K t cv = some b ∧ Q (.bl b) H) := by
  intro pins s σ H xs us Q I r h
  obtain ⟨x, c, t, cv, b, rfl, ty, rc, e, q⟩ := h
  obtain ⟨u, u2, rfl, r1, r2⟩ := vals2 r
  have e2 : u2 = cv := by
    cases c <;> first
      | exact r2.trans rc.symm
      | (exfalso
         obtain ⟨t2, z⟩ := rc
         subst z
         revert e
         unfold PySem.W.kitOne PySem.W.kitCls
         cases ty with
         | exc e C => simp
         | old h => cases h <;> simp)
  subst e2
  cases ty with
  | old h => exact isinst_ok I r1 h e fun tk => ⟨.bl b, H, I.tok tk, rfl, q⟩
  | @exc a D ea C =>
    cases (show u = Value.ref a from r1)
    obtain ⟨p, _⟩ := (show ObjOk X.prog X.w H s.heap a (excAt a (.ref D)) from I.hok a _ ea)
    exact PySem.W.kia_one (kitx_exc C) I.kIn p e (fun z => nomatch z) fun tk => ⟨.bl b, H, I.tok tk, rfl, q⟩
/-- a class of the text -/
structure ClsOk (K : PySem.W.Frag) (C : Addr) : Prop where
  cls : (PySem.W.clsIn K C).isSome = true
  ty : PySem.W.typeIn K (.ref C) = some (.type "type")
  me : PySem.W.mroIn K C (.ref C) = some true
theorem kit_int_int {K : PySem.W.Frag} : PySem.W.kitOne K (.type "int") (.type "int") = some true := by
  unfold PySem.W.kitOne
  rw [if_pos (by decide)]
theorem kit_int_bool {K : PySem.W.Frag} : PySem.W.kitOne K (.type "int") (.type "bool") = some false := by
  unfold PySem.W.kitOne
  rw [if_neg (by decide)]
  kernel_rfl
section
variable {X : Cx}
end
section
variable {X : Cx}
theorem pe_ty {x : Str} {n : String} {pos : Pos} (hg : Gl X x) (hm : X.mg x = none) (hv : bootBuiltins x = some (.type n)) (hn : x ≠ "__name__" := by decide) (hd : (x == ("__debug__" : Str)) = false := by decide) : PE X (.Name x pos) (tC (.ty n)) :=
  pe_bltn (v := .ty n) hg hm hv rfl hn hd
end
theorem cx_K {CX : CXT} {P : Program} {w : World} {K : PySem.W.Frag} {mg : Str → Option Value} {base : Heap} {N : List Str} {qual : Str} {scope : Scope} {f : Addr} {cd : Value} {A : Around} {outer : List Env} {s : Shared} {H : Hp} {E : XK} :
    (cxOf CX P w K mg base N qual scope f cd A outer s H E).K = K := rfl
theorem slT {n : Nat} (h : n ≤ 1000) : (n ≤ sizeLine) = True := eq_true (Nat.le_trans h (by decide))
theorem ixL {K : PySem.W.Frag} {H : Hp} {p : Addr} {xs : List V} {i : Int} {v : V} {Q : VK} (h : SqL K H p xs) (e : atI xs i = some v) (q : Q v H) : rIxL K (.ref p) (.int i) H Q := ⟨p, xs, i, v, rfl, rfl, h, e, q⟩
theorem ixT {K : PySem.W.Frag} {H : Hp} {p : Addr} {xs : List V} {i : Int} {v : V} {Q : VK} (h : SqT K H p xs) (e : atI xs i = some v) (q : Q v H) : rIxT K (.ref p) (.int i) H Q := ⟨p, xs, i, v, rfl, rfl, h, e, q⟩
theorem at_ints {xs : List Int} {i : Int} (h0 : 0 ≤ i) (h1 : i < xs.length) : atI (xs.map V.int) i = some (.int (xs.getD i.toNat 0)) := by
  obtain ⟨k, rfl⟩ := Int.eq_ofNat_of_zero_le h0
  have hk : k < xs.length := by omega
  refine atI_nat ?_
  rw [List.getElem?_map, List.getElem?_eq_getElem hk, Int.toNat_natCast, List.getD_eq_getElem?_getD, List.getElem?_eq_getElem hk]
  rfl
theorem same_new {H : Hp} {p : Addr} (h : H p = none) (o : HO) : Same H (upd H p o) := fun b u q => by rw [upd_ne (ne_of_none q h)]; exact q
theorem scal_ii (a b : Int) : (scal (.int a) (.int b) = true) = True := eq_true rfl
theorem scal_bb (a b : Bool) : (scal (.bl a) (.bl b) = true) = True := eq_true rfl
theorem scal_ss (a b : Str) : (scal (.str a) (.str b) = true) = True := eq_true rfl
theorem scal_ni (b : Int) : (scal .non (.int b) = true) = True := eq_true rfl
theorem scal_in (a : Int) : (scal (.int a) .non = true) = True := eq_true rfl
end L2

/-! ## tuples of ints compared; small rules -/
namespace L2
open PySem PySem.Spec PyProof.Rows
section
variable {X : Cx}
end
theorem same_upd {H H' : Hp} {p : Addr} {o : HO} (s : Same H H') (h : H p = none) : Same H (upd H' p o) := fun b u q => by
  rw [upd_ne (ne_of_none q h)]
  exact s b u q
theorem Same.sqT {K : PySem.W.Frag} {H H' : Hp} {a : Addr} {xs : List V} (e : Same H H') (h : SqT K H a xs) : SqT K H' a xs := by
  rcases h with (h | ⟨o, h⟩) | h
  · exact .inl (.inl (e _ _ h))
  · exact .inl (.inr ⟨o, e _ _ h⟩)
  · exact .inr h
theorem kit_tup_tup {K : PySem.W.Frag} : PySem.W.kitOne K (.type "tuple") (.type "tuple") = some true := by
  unfold PySem.W.kitOne
  rw [if_pos (by decide)]
end L2

/-! ## a cut between statements; a call of a local; rules inside a try -/
namespace L2
open PySem PySem.Spec PyProof.Rows
/-- the statement's end is named once: what follows is read once -/
def tCut (t : TS) : TS := fun D σ H => ∃ R : St → Hp → Prop, t { D with nx := R } σ H ∧ ∀ σ' H', R σ' H' → D.nx σ' H'
theorem ps_cut {X : Cx} {st : Stmt} {t : TS} (h : PS X st t) : PS X st (tCut t) := by
  intro pins s σ H D I q
  obtain ⟨R, q1, q2⟩ := q
  refine thn (h pins s σ H { D with nx := R } I q1) fun f s1 z => ?_
  cases f with
  | next =>
    obtain ⟨σ', H', I', z⟩ := z
    exact ⟨σ', H', I', q2 _ _ z⟩
  | ret v => exact z
  | brk => exact z
  | cont => exact z
section
variable {X : Cx} {Ek : St → XK} {k : Nat} {f : Addr} {fd : FuncData} {ps : List Str} {sp : Sp} {x : Str} {p pos : Pos} {e : Expr} {es : List Expr} {t : TA}
/-- g(e, ..), g a local that holds the def at f -/
def tCallL (i : Nat) (f : Addr) (sp : Sp) (Ek : St → XK) (t : TA) : TE := fun σ H Q => σ[i]? = some (some (.ref f)) ∧ t σ H fun vs H1 => sp vs H1 Q (Ek σ)
end
section
variable {X : Cx} {K : PySem.W.Frag}
theorem ix_tupK (e : X.K = K) : IxR X (rIxT K) := e ▸ ix_tup
end
end L2

/-! ## texts, as lists of their signs' numbers -/
namespace L2
open PySem PySem.Spec PyProof.Rows
/-- the text of these signs -/
def SL (cs : List Nat) : Str := ⟨cs.toArray⟩
theorem SL_len (cs : List Nat) : (SL cs).length = cs.length := by show cs.toArray.size = _; simp
theorem SL_app (a b : List Nat) : SL a ++ SL b = SL (a ++ b) := by
  show (⟨a.toArray ++ b.toArray⟩ : Str) = ⟨(a ++ b).toArray⟩
  simp
theorem SL_inj (a b : List Nat) : (SL a = SL b) = (a = b) := by
  refine propext ⟨fun h => ?_, fun h => by rw [h]⟩
  have := congrArg (fun z : Str => z.cps.toList) h
  exact this
/-- the walk over a text -/
def Its (x : Str) : It := ⟨fun i _ => i < x.cps.size, fun i H v H' => H' = H ∧ ∃ c, x.cps[i]? = some c ∧ v = .str ⟨#[c]⟩, fun i _ => i = x.cps.size⟩
section
variable {X : Cx} {tg : Expr}
def iStr (tl : TE) : TI := fun σ H R => tl σ H fun x H1 => ∃ z, x = .str z ∧ R (Its z) H1
end
/-- the figures of a number -/
def dg (n : Nat) : List Nat := (Nat.toDigits 10 n).map Char.toNat
section
variable {X : Cx}
theorem pe_strL {x : Str} {cs : List Nat} {j pos} (e : x = SL cs) : PE X (.Constant (.str x) j pos) (tC (.str (SL cs))) := e ▸ pe_str
theorem op_add_s : OpR X (binaryOp .Add) (fun x y H Q => ∃ a b, x = .str (SL a) ∧ y = .str (SL b) ∧ a.length + b.length ≤ sizeLine ∧ Q (.str (SL (a ++ b))) H) := by
  intro pins s σ H x y v u Q I rx ry h
  obtain ⟨a, b, rfl, rfl, hz, q⟩ := h
  exact op_add_str pins s σ H _ _ v u Q I rx ry ⟨_, _, rfl, rfl, by rw [SL_len, SL_len]; exact hz, by rw [SL_app]; exact q⟩
theorem ix_s : IxR X (fun x y H Q => ∃ cs i c, x = .str (SL cs) ∧ y = .int i ∧ cs.length ≤ sizeLine ∧ atI cs i = some c ∧ Q (.str (SL [c])) H) := by
  intro value slice pins s σ H x y v u Q I rx ry h hs
  obtain ⟨cs, i, c, rfl, rfl, hz, he, q⟩ := h
  exact ix_str value slice pins s σ H _ _ v u Q I rx ry ⟨_, i, c, rfl, rfl, by rw [SL_len]; exact hz, he, q⟩ hs
end
def zf (cs : List Nat) (n : Nat) : List Nat := List.replicate (n - cs.length) 48 ++ cs
section
variable {X : Cx}
end
end L2

namespace L2
open PySem PySem.NumText
/-- the last k figures of a number, by the signs' numbers -/
def fig : Nat → Int → List Nat
  | 0, _ => []
  | k + 1, n => (48 + (n / 10 ^ k % 10).toNat) :: fig k n
theorem fig_snoc : ∀ (k : Nat) (n : Int), fig (k + 1) n = fig k (n / 10) ++ [48 + (n % 10).toNat]
  | 0, n => by
    show [48 + (n / 10 ^ 0 % 10).toNat] = [48 + (n % 10).toNat]
    rw [Int.pow_zero, Int.ediv_one]
  | k + 1, n => by
    have e : n / 10 / 10 ^ k = n / 10 ^ (k + 1) := by
      rw [Int.pow_succ, Int.mul_comm, Int.ediv_ediv_of_nonneg (by decide)]
    show (48 + (n / 10 ^ (k + 1) % 10).toNat) :: fig (k + 1) n = ((48 + (n / 10 / 10 ^ k % 10).toNat) :: fig k (n / 10)) ++ _
    rw [fig_snoc k n, e]
    rfl
theorem fig_digits : ∀ (k : Nat) (n : Int), AllDigits (fig k n)
  | 0, _ => fun c h => by cases h
  | k + 1, n => fun c h => by
    rcases List.mem_cons.mp h with rfl | h
    · have := Int.emod_lt_of_pos (n / 10 ^ k) (show (0 : Int) < 10 by decide)
      omega
    · exact fig_digits k n c h
theorem digit_char : ∀ d : Nat, d < 10 → (Nat.digitChar d).toNat = 48 + d := by decide
theorem dg_lt {n : Nat} (h : n < 10) : dg n = [48 + n] := by
  unfold dg
  rw [Nat.toDigits_of_lt_base h, List.map_cons, List.map_nil, digit_char n h]
theorem dg_ge {n : Nat} (h : 10 ≤ n) : dg n = dg (n / 10) ++ [48 + n % 10] := by
  have hm : n % 10 < 10 := Nat.mod_lt n (by decide)
  have t : Nat.toDigits 10 (n / 10) ++ Nat.toDigits 10 (n % 10) = Nat.toDigits 10 (10 * (n / 10) + n % 10) := Nat.toDigits_append_toDigits (by decide) (by omega) hm
  rw [Nat.div_add_mod] at t
  unfold dg
  rw [← t, List.map_append, Nat.toDigits_of_lt_base hm, List.map_cons, List.map_nil, digit_char _ hm]
theorem dg_digits (n : Nat) : AllDigits (dg n) := by
  induction n using Nat.strongRecOn with
  | _ n ih =>
    by_cases h : n < 10
    · rw [dg_lt h]
      intro c hc
      rw [List.mem_singleton] at hc
      omega
    · rw [dg_ge (by omega)]
      intro c hc
      rcases List.mem_append.mp hc with hc | hc
      · exact ih (n / 10) (by omega) c hc
      · rw [List.mem_singleton] at hc
        omega
theorem dg_pos (n : Nat) : 0 < (dg n).length := by
  by_cases h : n < 10
  · rw [dg_lt h]; exact Nat.one_pos
  · rw [dg_ge (by omega), List.length_append]; exact Nat.succ_pos _
theorem getD_in {xs : List Int} {lo hi : Int} (h : ∀ x ∈ xs, lo ≤ x ∧ x ≤ hi) {i : Int} (h0 : 0 ≤ i) (h1 : i < xs.length) : lo ≤ xs.getD i.toNat 0 ∧ xs.getD i.toNat 0 ≤ hi := by
  have hl : i.toNat < xs.length := by omega
  rw [List.getD_eq_getElem?_getD, List.getElem?_eq_getElem hl]
  exact h _ (List.getElem_mem hl)
end L2

/-! ## a list unpacked; str.replace (its arguments' tokens must not be 0) -/
namespace L2
open PySem PySem.Spec PyProof.Rows
section
variable {prog : Program} {w : World} {A : Around} {E : Value → Shared → Prop}
end
section
variable {X : Cx} {pos : Pos}
end
/-! ### where a token has been made -/
def PEt (X : Cx) (e : Expr) (t : TE) : Prop :=
  ∀ (pins : List (Addr × Obj)) (s : Shared) (σ : St) (H : Hp) (Q : VK), 0 < s.toks → Inv X pins σ H s → t σ H Q → wpAny (model X.prog X.w) X.A (eval e X.env) (EP X pins σ Q) X.xe s
def PAt (X : Cx) (es : List Expr) (t : TA) : Prop :=
  ∀ (pos : Pos) (pins : List (Addr × Obj)) (s : Shared) (σ : St) (H : Hp) (Q : List V → Hp → Prop), 0 < s.toks → Inv X pins σ H s → t σ H Q → wpAny (model X.prog X.w) X.A (spliced (backTo pos (starEach es X.env))) (AP X pins σ Q) X.xe s
def PSst (X : Cx) (st : List Stmt) (t : TS) : Prop :=
  ∀ (pins : List (Addr × Obj)) (s : Shared) (σ : St) (H : Hp) (D : Ends), 0 < s.toks → Inv X pins σ H s → t D σ H → wpAny (model X.prog X.w) X.A (execs st X.env) (SP X pins D) X.xe s
section
variable {X : Cx} {a b e o : Expr} {es : List Expr} {te ta tb to : TE} {t : TA} {pos apos cpos : Pos}
end
theorem at_strs {ys : List (List Nat)} {i : Int} (h0 : 0 ≤ i) (h1 : i < ys.length) : ∃ y, y ∈ ys ∧ atI (ys.map fun y => V.str (SL y)) i = some (.str (SL y)) := by
  obtain ⟨k, rfl⟩ := Int.eq_ofNat_of_zero_le h0
  have hk : k < ys.length := by omega
  refine ⟨ys[k], List.getElem_mem hk, atI_nat ?_⟩
  rw [List.getElem?_map, List.getElem?_eq_getElem hk]
  rfl
end L2

/-! ## list comprehensions: the block as a context of its own -/
namespace L2
open PySem PySem.Spec PyProof.Rows
section
variable {prog : Program} {w : World} {A : Around} {R : Result → Shared → Prop} {s : Shared}
abbrev NoE : Value → Shared → Prop := fun _ _ => False
theorem compLoop_go {elt target iter : Expr} {ifs : List Expr} {scope : Scope} {pos : Pos} {it acc : Value} {env : Env} (I : Nat → Shared → Prop)
    (turn : ∀ n s, I n s → wpAny (model prog w) A (pyNext it) (fun r s₁ => match r with
      | none => R (.ok .next) s₁
      | some v => wpAny (model prog w) A (letOwnedTupleGo target it v) (fun _ s₁' => wpAny (model prog w) A (assign target env v) (fun _ s₂ =>
          wpAny (model prog w) A (forIn ifs true fun c r => if r = true then do let ok ← isTrue c env (eval c env); pure (ForInStep.yield ok) else pure (ForInStep.yield r)) (fun ok s₃ =>
            if ok = true then wpAny (model prog w) A (eval elt env) (fun x s₄ =>
              wpAny (model prog w) A (call (.builtin "list.append") [acc, x]) (fun _ s₅ => ∃ m, m < n ∧ I m s₅) NoE s₄) NoE s₃
            else ∃ m, m < n ∧ I m s₃) NoE s₂) NoE s₁') NoE s₁) NoE s)
    (n : Nat) (h : I n s) :
    codeAny (model prog w) A (.compLoop (.ListComp elt [⟨target, iter, ifs, 0⟩] scope pos) 0 it acc env) R s := by
  refine codeAny_loop rfl I (fun n s hI => ?_) n h
  show wpAny _ A ((compTurn (.ListComp elt [⟨target, iter, ifs, 0⟩] scope pos) 0 it acc env).onRaise (fun x => do noteFrame x env; theTreesLotGoes x)) _ _ s
  refine wpAny_noted ?_
  rw [compTurn_list]
  refine wpAny_bind (wpAny_standAt (wpAny_bind (wpAny_mono (turn n s hI) (fun r s₁ h₁ => ?_) fun _ _ h' => h'.elim)))
  cases r with
  | none => exact wpAny_pure h₁
  | some v =>
    refine wpAny_bind (wpAny_mono h₁ (fun _ s₁' h₁' => ?_) fun _ _ h' => h'.elim)
    refine wpAny_bind (wpAny_mono h₁' (fun _ s₂ h₂ => wpAny_bind (wpAny_mono h₂ (fun ok s₃ h₃ => ?_) fun _ _ h' => h'.elim)) fun _ _ h' => h'.elim)
    cases ok with
    | false => exact wpAny_pure ⟨rfl, h₃⟩
    | true =>
      exact wpAny_bind (wpAny_bind (wpAny_mono h₃ (fun x s₄ h₄ => wpAny_bind (wpAny_mono h₄ (fun _ s₅ h₅ => wpAny_pure (wpAny_pure ⟨rfl, h₅⟩)) fun _ _ h' => h'.elim)) fun _ _ h' => h'.elim))
end
/-- what a comprehension's block stands on -/
structure CA where
  cl : List (Str × Addr)
  C : Addr
  s : Shared
  H : Hp
  fp : List Addr
def Cx.comp (X : Cx) (scope : Scope) (N : List Str) (a : CA) : Cx :=
  { X with N := N, s₀ := a.s, H₀ := a.H, env := compEnvC scope a.cl a.C X.env, outer := X.stack, ex := a.fp, fn := fun _ => false, pn := [], xe := NoE }
theorem comp_K {X : Cx} {scope : Scope} {N : List Str} {a : CA} : (X.comp scope N a).K = X.K := rfl
/-- the names of a block: n of its own, then those at js of the names around it -/
def capOk (outer : List (Str × NameKind)) (oN : List Str) (inner : List (Str × NameKind)) (N : List Str) (n : Nat) (js : List Nat) : Bool :=
  N.length == n + js.length &&
  (inner.all fun p => p.2 != .cell && (p.2 != .local || inner.lookup p.1 == some .local) && (p.2 != .free || (inner.lookup p.1 == some .free && (outer.lookup p.1 == some .cell || outer.lookup p.1 == some .free)))) &&
  (List.range js.length).all fun k => match js[k]?, N[n + k]? with
    | some j, some x => oN[j]? == some x && (outer.lookup x == some .cell || outer.lookup x == some .free) && inner.lookup x == some .free
    | _, _ => false
/-- the values of a block's names at its beginning -/
def capσ (σ : St) (n : Nat) (js : List Nat) : St := List.replicate n none ++ js.map fun j => (σ[j]?).join
def Sub (σ τ : St) : Prop := σ.length = τ.length ∧ ∀ (i : Nat) v, σ[i]? = some (some v) → τ[i]? = some (some v)
theorem sub_nil : Sub [] [] = True := eq_true ⟨rfl, fun i v h => by simp at h⟩
theorem sub_none {σ τ : St} {x : Option V} : Sub (none :: σ) (x :: τ) = Sub σ τ := by
  refine propext ⟨fun h => ⟨by simpa using h.1, fun i v e => by simpa using h.2 (i + 1) v (by simpa using e)⟩, fun h => ⟨by simpa using h.1, fun i v e => ?_⟩⟩
  cases i with
  | zero => simp at e
  | succ i => simpa using h.2 i v (by simpa using e)
theorem sub_some {σ τ : St} {x : V} : Sub (some x :: σ) (some x :: τ) = Sub σ τ := by
  refine propext ⟨fun h => ⟨by simpa using h.1, fun i v e => by simpa using h.2 (i + 1) v (by simpa using e)⟩, fun h => ⟨by simpa using h.1, fun i v e => ?_⟩⟩
  cases i with
  | zero => simpa using e
  | succ i => simpa using h.2 i v (by simpa using e)
/-! ### the cells that a block closes over -/
theorem closure_of {scope : Scope} {env : Env} (h : ∀ p ∈ scope.names, p.2 = NameKind.free → ∃ c, env.cells.lookup p.1 = some c) :
    ∃ cl, closureFor scope env = pure cl ∧ (∀ x c, cl.lookup x = some c → env.cells.lookup x = some c) ∧ ∀ p ∈ scope.names, p.2 = NameKind.free → ∃ c, cl.lookup p.1 = some c := by
  have go : ∀ (names : List (Str × NameKind)) (acc : List (Str × Addr)), (∀ p ∈ names, p.2 = NameKind.free → ∃ c, env.cells.lookup p.1 = some c) → (∀ x c, acc.lookup x = some c → env.cells.lookup x = some c) →
      ∃ cl, (forIn names acc (fun x r => match x with | (name, kind) => if (kind == NameKind.free) = true then do let c ← cellOf env name; pure (ForInStep.yield ((name, c) :: r)) else pure (ForInStep.yield r)) : Sem (List (Str × Addr))) = pure cl ∧
        (∀ x c, cl.lookup x = some c → env.cells.lookup x = some c) ∧ (∀ p ∈ names, p.2 = NameKind.free → ∃ c, cl.lookup p.1 = some c) ∧ ∀ x, (∃ c, acc.lookup x = some c) → ∃ c, cl.lookup x = some c := by
    intro names
    induction names with
    | nil => intro acc _ ha; exact ⟨acc, rfl, ha, fun p hp => absurd hp (by simp), fun _ q => q⟩
    | cons p r ih =>
      intro acc hp ha
      obtain ⟨nm, k⟩ := p
      by_cases hk : k = NameKind.free
      · subst hk
        obtain ⟨c, hc⟩ := hp (nm, .free) List.mem_cons_self rfl
        have ec : cellOf env nm = pure c := by unfold cellOf; rw [hc]
        have ha' : ∀ x c', ((nm, c) :: acc).lookup x = some c' → env.cells.lookup x = some c' := fun x c' e => by
          rw [List.lookup_cons] at e
          cases z : x == nm with
          | true => rw [z] at e; cases e; rw [eq_of_beq z]; exact hc
          | false => rw [z] at e; exact ha x c' e
        obtain ⟨cl, e, q1, q2, q3⟩ := ih ((nm, c) :: acc) (fun p hp' => hp p (List.mem_cons_of_mem _ hp')) ha'
        refine ⟨cl, ?_, q1, fun p hp' hf => ?_, fun x hx => q3 x ?_⟩
        · rw [List.forIn_cons]
          simp only [beq_self_eq_true, if_true, ec]
          exact e
        · rcases List.mem_cons.mp hp' with rfl | hp'
          · exact q3 nm ⟨c, by rw [List.lookup_cons, beq_self_eq_true]⟩
          · exact q2 p hp' hf
        · rw [List.lookup_cons]
          cases z : x == nm with
          | true => exact ⟨c, rfl⟩
          | false => exact hx
      · obtain ⟨cl, e, q1, q2, q3⟩ := ih acc (fun p hp' => hp p (List.mem_cons_of_mem _ hp')) ha
        refine ⟨cl, ?_, q1, fun p hp' hf => ?_, q3⟩
        · rw [List.forIn_cons]
          have z : (k == NameKind.free) = false := by simpa using hk
          simp only [z, Bool.false_eq_true, if_false]
          exact e
        · rcases List.mem_cons.mp hp' with rfl | hp'
          · exact absurd hf hk
          · exact q2 p hp' hf
  obtain ⟨cl, e, q1, q2, _⟩ := go scope.names [] h (fun x c e => by simp at e)
  refine ⟨cl, ?_, q1, q2⟩
  unfold closureFor
  simp only [pure_bind, bind_pure]
  exact e
theorem cap_facts {outer : List (Str × NameKind)} {oN : List Str} {inner : List (Str × NameKind)} {N : List Str} {n : Nat} {js : List Nat} (h : capOk outer oN inner N n js = true) :
    N.length = n + js.length ∧ (∀ p ∈ inner, p.2 ≠ NameKind.cell) ∧ (∀ p ∈ inner, p.2 = NameKind.local → inner.lookup p.1 = some .local) ∧
    (∀ p ∈ inner, p.2 = NameKind.free → inner.lookup p.1 = some .free ∧ (outer.lookup p.1 = some .cell ∨ outer.lookup p.1 = some .free)) ∧
    ∀ k j x, js[k]? = some j → N[n + k]? = some x → oN[j]? = some x ∧ (outer.lookup x = some .cell ∨ outer.lookup x = some .free) ∧ inner.lookup x = some .free := by
  unfold capOk at h
  simp only [Bool.and_eq_true, beq_iff_eq, List.all_eq_true, List.mem_range] at h
  obtain ⟨⟨h1, h2⟩, h3⟩ := h
  refine ⟨h1, fun p hp => by simpa using (h2 p hp).1.1, fun p hp e => ?_, fun p hp e => ?_, fun k j x e1 e2 => ?_⟩
  · have z := (h2 p hp).1.2
    rw [e] at z
    simpa using z
  · have z := (h2 p hp).2
    rw [e] at z
    simpa using z
  · have z := h3 k (List.getElem?_eq_some_iff.mp e1).1
    rw [e1, e2] at z
    simpa [and_assoc] using z
theorem relabel_lookup {scope : Scope} {env : Env} {x : Str} : (relabel scope env).names.lookup x = (scope.names.lookup x).map (fun k => if (k == NameKind.free && env.scope.kind == .function && env.kindOf x == some .cell) = true then NameKind.cell else k) := by
  show (scope.names.map fun (n, k) => if (k == NameKind.free && env.scope.kind == .function && env.kindOf n == some .cell) = true then (n, NameKind.cell) else (n, k)).lookup x = _
  induction scope.names with
  | nil => rfl
  | cons p r ih =>
    obtain ⟨nm, k⟩ := p
    rw [List.map_cons]
    dsimp only
    cases z : x == nm with
    | true =>
      obtain rfl := eq_of_beq z
      by_cases c : (k == NameKind.free && env.scope.kind == .function && env.kindOf x == some .cell) = true
      · simp only [c, if_true, List.lookup_cons, z, Option.map_some]
      · rw [if_neg c]
        simp only [List.lookup_cons, z, Option.map_some, if_neg c]
    | false =>
      by_cases c : (k == NameKind.free && env.scope.kind == .function && env.kindOf nm == some .cell) = true
      · rw [if_pos c]
        simp only [List.lookup_cons, z]
        exact ih
      · rw [if_neg c]
        simp only [List.lookup_cons, z]
        exact ih
section
variable {X : Cx} {scope : Scope} {N : List Str} {n : Nat} {js : List Nat} {pins : List (Addr × Obj)} {σ : St} {H : Hp} {s₃ : Shared} {cl : List (Str × Addr)} {fp : List Addr}
theorem comp_inv (cap : capOk X.env.scope.names X.N scope.names N n js = true) (hkind : scope.kind = .function) (I : Inv X pins σ H s₃) (hc1 : ∀ x c, cl.lookup x = some c → X.env.cells.lookup x = some c)
    (hc2 : ∀ p ∈ scope.names, p.2 = NameKind.free → ∃ c, cl.lookup p.1 = some c) (hf : ∀ b ∈ fp, FpOk X pins H b) (hlt : ∀ b ∈ fp, b < s₃.heap.objs.size) {h₁ : Heap} {t : Nat} {m : Str → Option Value}
    (hns : h₁.Ns s₃.heap.objs.size m) (hk : ∀ b o, s₃.heap.get? b = some o → h₁.get? b = some o) :
    Inv (X.comp scope N ⟨cl, s₃.heap.objs.size, s₃, H, fp⟩) [] (capσ σ n js) H { s₃ with heap := h₁, toks := t } := by
  obtain ⟨k1, k2, k3, k4, k5⟩ := cap_facts cap
  have kf : ∀ x, ((relabel scope X.env).names.lookup x = some .cell ∨ (relabel scope X.env).names.lookup x = some .free) → scope.names.lookup x = some .free := fun x h => by
    rw [relabel_lookup] at h
    cases e : scope.names.lookup x with
    | none => rw [e] at h; simp at h
    | some k =>
      rw [e, Option.map_some] at h
      cases k with
      | free => rfl
      | cell => exact absurd rfl (k2 (x, .cell) (PySem.mem_of_lookup e))
      | «local» => simp at h
      | _ => simp at h
  have bf : ∀ x, scope.names.lookup x = some .free → (relabel scope X.env).names.lookup x = some .cell ∨ (relabel scope X.env).names.lookup x = some .free := fun x h => by
    rw [relabel_lookup, h, Option.map_some]
    split
    · exact .inl rfl
    · exact .inr rfl
  have isC : ∀ c v, s₃.heap.IsCell c v → h₁.IsCell c v := fun c v ⟨o, ho, r⟩ => ⟨o, hk _ _ ho, r⟩
  refine ⟨⟨I.ok.mod, hkind, I.ok.glob, I.ok.blt, Nat.le_refl _, fun x y c e1 e2 => I.ok.inj x y c (hc1 x c e1) (hc1 y c e2), fun x h => hc2 (x, .free) (PySem.mem_of_lookup (kf x h)) rfl, fun x c h => absurd h Bool.false_ne_true, I.ok.hd, I.ok.frames, .inl rfl,
      fun b hb => ⟨Nat.ne_of_lt (hlt b hb), fun x c e => (hf b hb).2.2.2.2.1 x c (hc1 x c e)⟩, I.bs, Nat.le_trans I.ok.bsz I.sz, fun b o e hb => ?_, fun b hb hz => ?_, I.stack, I.stkFree⟩,
    rfl, I.bare, Un.kept hk, ⟨m, hns, fun i x v e1 e2 e3 => ?_⟩, fun x c e => ?_, I.hok.fresh (Nat.le_refl _), fun x c e => I.freeC x c (hc1 x c e), fun p hp => absurd hp (by simp [Cx.comp]), I.hok.kept hk, ?_⟩
  · rcases (hf b hb).2.2.2.1 with z | z
    · exact I.ok.noex b o e z
    · exact absurd (Nat.lt_of_lt_of_le (Heap.lt_size e) (Nat.le_trans I.ok.bsz z)) (Nat.lt_irrefl _)
  · rcases List.mem_cons.mp (I.stkSub b hz) with z | z
    · exact (hf b hb).2.1 z
    · exact (hf b hb).2.2.1 z
  · have e2' : (capσ σ n js)[i]? = some (some v) := e2
    unfold capσ at e2'
    by_cases hi : i < n
    · rw [List.getElem?_append_left (by simpa using hi), List.getElem?_replicate, if_pos hi] at e2'
      cases e2'
    · rw [List.getElem?_append_right (by simpa using hi), List.length_replicate, List.getElem?_map] at e2'
      cases ej : js[i - n]? with
      | none => rw [ej] at e2'; cases e2'
      | some j =>
        rw [ej, Option.map_some] at e2'
        have e4 : (σ[j]?).join = some v := Option.some.inj e2'
        have e5 : σ[j]? = some (some v) := by
          cases q : σ[j]? with
          | none => rw [q] at e4; cases e4
          | some w => rw [q] at e4; rw [show w = some v from e4]
        have e1' : N[n + (i - n)]? = some x := by rw [show n + (i - n) = i by omega]; exact e1
        obtain ⟨c1, c2, c3⟩ := k5 (i - n) j x ej e1'
        obtain ⟨m', hn', hl'⟩ := I.loc
        obtain ⟨u, ru, lk⟩ := hl' j x v c1 e5 (.inr c2)
        refine ⟨u, ru, ?_⟩
        rcases lk with ⟨hk', _⟩ | ⟨_, c, hc, hcell⟩
        · have hk'' : X.env.scope.names.lookup x = some .local := hk'
          rcases c2 with c2 | c2 <;> (rw [hk''] at c2; cases c2)
        · obtain ⟨c', hc'⟩ := hc2 (x, .free) (PySem.mem_of_lookup c3) rfl
          have := hc1 x c' hc'
          rw [hc] at this
          cases this
          exact .inr ⟨bf x c3, c, hc', isC _ _ hcell⟩
  · obtain ⟨v, z⟩ := I.cell x c (hc1 x c e)
    exact ⟨v, isC _ _ z⟩
  · show (capσ σ n js).length = N.length
    unfold capσ
    rw [List.length_append, List.length_replicate, List.length_map, k1]
end
/-! ### the tests of a block -/
def PIf (X : Cx) (ifs : List Expr) (t : TT) : Prop :=
  ∀ (pins : List (Addr × Obj)) (s : Shared) (σ : St) (H : Hp) (Q : Bool → Hp → Prop), Inv X pins σ H s → t σ H Q →
    wpAny (model X.prog X.w) X.A (forIn ifs true fun c r => if r = true then do let ok ← isTrue c X.env (eval c X.env); pure (ForInStep.yield ok) else pure (ForInStep.yield r)) (TP X pins σ Q) X.xe s
def tYes : TT := fun _ H Q => Q true H
theorem pif_nil {X : Cx} : PIf X [] tYes := fun _ _ _ H _ I h => wpAny_tests_nil ⟨H, I, h⟩
theorem pif_one {X : Cx} {c : Expr} {t : TT} (hc : PT X c t) : PIf X [c] t := fun pins s σ H Q I h => wpAny_tests_one (hc pins s σ H Q I h)
/-- a comprehension's reading: W by the turn, a measure, what is told so far -/
def CompR (J : It) (σ0 : St) (g : TG) (tc : TT) (te : TE) (l : Addr) (Q : VK) (H1 : Hp) : Prop :=
  ∃ W : Nat → Nat → List V → Hp → Prop, (∃ m, W 0 m [] (upd H1 l (.lst []))) ∧ ∀ i m xs H, W i m xs H → H l = some (.lst xs) ∧ xs.length < sizeLine ∧
    ((J.stop i H ∧ Q (.ref l) H) ∨ (J.go i H ∧ ∀ x H', J.yld i H x H' → g x σ0 H' fun σ2 H2 => Sub σ0 σ2 ∧ tc σ2 H2 fun b H3 =>
      if b = true then te σ2 H3 fun v H4 => H4 l = some (.lst xs) ∧ ∃ m', m' < m ∧ W (i + 1) m' (xs ++ [v]) (upd H4 l (.lst (xs ++ [v]))) else ∃ m', m' < m ∧ W (i + 1) m' xs H3))
section
variable {X : Cx} {tg elt iter : Expr} {ifs : List Expr} {scope : Scope} {pos : Pos} {N : List Str} {n : Nat} {js : List Nat} {g : CA → TG} {tc : CA → TT} {te : CA → TE}
theorem comp_core {pins : List (Addr × Obj)} {σ : St} {H₁ : Hp} {s₂ : Shared} {E : Value → Shared → Prop} (cap : capOk X.env.scope.names X.N scope.names N n js = true) (hkind : scope.kind = .function) (hcalm : X.calm = true)
    (hg : ∀ a, PG (X.comp scope N a) tg (g a)) (hc : ∀ a, PIf (X.comp scope N a) ifs (tc a)) (he : ∀ a, PE (X.comp scope N a) elt (te a))
    (I : Inv X pins σ H₁ s₂) {it : Addr} {fp : List Addr} {tn : Nat → Heap → Prop} {J : It} (T : Turn X.prog X.w X.K tg J fp it tn) (h0 : tn 0 s₂.heap) (hf : ∀ b ∈ fp, FpOk X pins H₁ b)
    {cl : List (Str × Addr)} (hc1 : ∀ x c, cl.lookup x = some c → X.env.cells.lookup x = some c) (hc2 : ∀ p ∈ scope.names, p.2 = NameKind.free → ∃ c, cl.lookup p.1 = some c)
    {Q : VK} (hq : ∀ l, H₁ l = none → ∀ a, CompR J (capσ σ n js) (g a) (tc a) (te a) l Q H₁)
    {RR : Value → Addr → Result → Shared → Prop}
    (hRR : ∀ l C H' s' m, Inv X pins σ H' s' → s'.heap.Ns C m → H' C = none → C ≠ X.env.locals → X.s₀.heap.objs.size ≤ C → (∀ x c, X.env.cells.lookup x = some c → c ≠ C) → (∀ p ∈ X.pn ++ pins, p.1 ≠ C) → C ∉ X.fs → Q (.ref l) H' → RR (.ref l) C (.ok .next) s') :
    wpAny (model X.prog X.w) X.A (newList []) (fun acc s₃ => wpAny (model X.prog X.w) X.A (newFunctionEnv scope X.env.globals cl [] X.env.qual none .none (some X.env)) (fun cenv s₄ =>
      codeAny (model X.prog X.w) X.A (.compStart (.ListComp elt [⟨tg, iter, ifs, 0⟩] scope pos) 0 (.ref it) acc { cenv with scope := relabel scope X.env }) (RR acc cenv.locals) s₄) E s₃) E s₂ := by
  obtain ⟨k1, k2, k3, k4, k5⟩ := cap_facts cap
  refine wpAny_newObj_type (wpAny_newFunctionEnv k2 (by intro y hy; simp at hy) (fun h₁ hns₁ hsb₁ => ?_) hkind)
  dsimp only at hns₁ hsb₁ ⊢
  obtain ⟨s3, hs3⟩ : ∃ s3 : Shared, s3 = { s₂ with heap := s₂.heap.push { cls := .type "list", dict := none, data := .seq ([] : List Value).toArray } } := ⟨_, rfl⟩
  have eh : s₂.heap.push { cls := .type "list", dict := none, data := .seq ([] : List Value).toArray } = s3.heap := by rw [hs3]
  rw [eh] at hns₁ hsb₁ ⊢
  have kp3 : ∀ b o, s₂.heap.get? b = some o → s3.heap.get? b = some o := fun b o e => by rw [← eh]; exact Heap.get?_push_of_some _ e
  have hl0 : H₁ s₂.heap.objs.size = none := I.hok.fresh (Nat.le_refl _)
  have I3 : Inv X pins σ (upd H₁ s₂.heap.objs.size (.lst [])) s3 := by
    rw [hs3]
    exact I.laid (t' := s₂.toks) (fun b u e => Heap.get?_push_of_some _ e) (Nat.le_refl _) ⟨Nat.zero_le _, [], 0, .nil, Heap.get?_push_size _ rfl⟩
  have fpo : ∀ b ∈ fp, ∃ o, s₂.heap.get? b = some o := fun b hb => let ⟨o, e, _⟩ := T.obj _ _ h0 b hb; ⟨o, e⟩
  have fpl : ∀ b ∈ fp, b ≠ s₂.heap.objs.size := fun b hb z => let ⟨o, e⟩ := fpo b hb; Nat.lt_irrefl _ (z ▸ Heap.lt_size e)
  have hf3 : ∀ b ∈ fp, FpOk X pins (upd H₁ s₂.heap.objs.size (.lst [])) b := fun b hb => ⟨by rw [upd_ne (fpl b hb)]; exact (hf b hb).1, (hf b hb).2⟩
  have hlt3 : ∀ b ∈ fp, b < s3.heap.objs.size := fun b hb => let ⟨o, e⟩ := fpo b hb; Heap.lt_size (kp3 b o e)
  have kp1 : ∀ b o, s3.heap.get? b = some o → h₁.get? b = some o := fun b o e => hsb₁.extBut b o (Nat.ne_of_lt (Heap.lt_size e)) (Heap.get?_push_of_some _ e)
  have IC := comp_inv (t := s3.toks) cap hkind I3 hc1 hc2 hf3 hlt3 hns₁ kp1
  have hCl : X.env.locals < s3.heap.objs.size := I3.lt
  obtain ⟨a, ha⟩ : ∃ a : CA, a = ⟨cl, s3.heap.objs.size, s3, upd H₁ s₂.heap.objs.size (.lst []), fp⟩ := ⟨_, rfl⟩
  rw [← ha] at IC
  have aC : a.C = s3.heap.objs.size := by rw [ha]
  obtain ⟨W, ⟨m0, w0⟩, turn⟩ := hq _ hl0 a
  have tn1 : tn 0 h₁ := T.keep _ _ _ h0 fun b _ o e => kp1 b o (kp3 b o e)
  -- the iterator's records, seen from the block
  have stat : ∀ {H' : Hp}, (∀ b ∈ fp, H' b = none) → ∀ b ∈ fp, FpOk (X.comp scope N a) [] H' b := fun {H'} hn b hb =>
    ⟨hn b hb, by show b ≠ a.C; rw [aC]; exact Nat.ne_of_lt (hlt3 b hb), fun hz => by
        rcases List.mem_cons.mp (I3.stkSub b hz) with z | z
        · exact (hf b hb).2.1 z
        · exact (hf b hb).2.2.1 z, .inl (by show b ∈ a.fp; rw [ha]; exact hb), fun x c e => (hf b hb).2.2.2.2.1 x c (hc1 x c (by rw [ha] at e; exact e)), fun p hp => absurd hp (by simp [Cx.comp])⟩
  have loop : ∀ s4 : Shared, s4 = { s3 with heap := h₁, toks := s3.toks } →
      codeAny (model X.prog X.w) X.A (.compLoop (.ListComp elt [⟨tg, iter, ifs, 0⟩] scope pos) 0 (.ref it) (.ref s₂.heap.objs.size) (X.comp scope N a).env) (RR (.ref s₂.heap.objs.size) s3.heap.objs.size) s4 := by
    rintro s4 rfl
    refine compLoop_go (fun k s' => ∃ i xs H', Inv (X.comp scope N a) [] (capσ σ n js) H' s' ∧ tn i s'.heap ∧ (∀ b ∈ fp, H' b = none) ∧ W i k xs H') ?_ m0 ⟨0, [], _, IC, tn1, fun b hb => (hf3 b hb).1, w0⟩
    rintro k s5 ⟨i, xs, H5, I5, t5, f5, w5⟩
    obtain ⟨hl5, hz5, alt⟩ := turn i k xs H5 w5
    rcases alt with ⟨stop, qn⟩ | ⟨go, step⟩
    · refine thn (T.done (X.comp scope N a) rfl rfl rfl hcalm i [] s5 _ H5 NoE I5 (stat f5) t5 stop) fun r s6 ⟨hr, I6⟩ => ?_
      subst hr
      obtain ⟨m6, hn6, _⟩ := I6.loc
      have hn6' : s6.heap.Ns s3.heap.objs.size m6 := by rw [← aC]; exact hn6
      have u6 : Un (frs X.stack) fp (upd H₁ s₂.heap.objs.size (.lst [])) H5 s3.heap s6.heap := by
        have z := I6.base
        rw [ha] at z
        exact z
      have os6 : s6.os = s3.os := by
        have z := I6.os
        rw [ha] at z
        exact z
      have I7 : Inv X pins σ H5 s6 := I3.call' os6 u6 I6.hok I6.bare fun b hb => ⟨(hf b hb).2.2.2.1, (hf b hb).2.1, (hf b hb).2.2.2.2.1, (hf b hb).2.2.2.2.2⟩
      refine hRR _ _ H5 s6 m6 I7 hn6' (by have z := I6.free; rw [show (X.comp scope N a).env.locals = s3.heap.objs.size from aC] at z; exact z) (Nat.ne_of_gt hCl) I3.sz (fun x c e z => ?_) (fun p hp z => ?_) (I3.nofs (Nat.le_refl _)) qn
      · obtain ⟨v, q⟩ := I3.cell x c e
        exact Nat.lt_irrefl _ (z ▸ q.lt)
      · exact Nat.lt_irrefl _ (z ▸ Heap.lt_size (I3.pin p hp).1)
    · refine thn (T.item (X.comp scope N a) rfl rfl rfl hcalm i [] s5 _ H5 NoE I5 (stat f5) t5 go) fun r s6 ⟨u, hr, h6⟩ => ?_
      subst hr
      refine thn h6 fun _ s7 ⟨x, H7, I7, r7, y7, t7, f7⟩ => ?_
      have I7' := I7.pinned (stat f7) (T.obj _ _ t7)
      rw [List.nil_append] at I7'
      refine thn (hg a _ s7 _ H7 x u _ I7' r7 (step x H7 y7)) fun _ s8 ⟨σ8, H8, I8, sub8, q8⟩ => ?_
      refine thn (hc a _ s8 σ8 H8 _ I8 q8) fun ok s9 ⟨H9, I9, q9⟩ => ?_
      have back : ∀ {σ' : St} {H' : Hp} {s' : Shared}, Inv (X.comp scope N a) (pinsAt fp s7.heap) σ' H' s' → Sub (capσ σ n js) σ' → Inv (X.comp scope N a) [] (capσ σ n js) H' s' ∧ tn (i + 1) s'.heap ∧ ∀ b ∈ fp, H' b = none := fun {σ' H' s'} I' sb => by
        refine ⟨(I'.pins_of fun p hp => absurd hp (by simp)).weak sb.1 sb.2, T.keep _ _ _ t7 fun b hb o e => (I'.pin (b, o) (List.mem_append_right _ (mem_pinsAt hb e))).1, fun b hb => ?_⟩
        obtain ⟨o, e, d⟩ := T.obj _ _ t7 b hb
        exact (I'.pin (b, o) (List.mem_append_right _ (mem_pinsAt hb e))).2.1
      cases ok with
      | false =>
        obtain ⟨m', lt, w'⟩ := q9
        obtain ⟨b1, b2, b3⟩ := back I9 sub8
        exact ⟨m', lt, i + 1, xs, H9, b1, b2, b3, w'⟩
      | true =>
        refine thn (he a _ s9 σ8 H9 _ I9 q9) fun y s10 ⟨v, H10, I10, r10, hl10, m', lt, w'⟩ => ?_
        refine thn (mt_append (X := X.comp scope N a) _ s10 σ8 H10 (.ref s₂.heap.objs.size) [v] _ [y] (fun _ H' => H' = upd H10 s₂.heap.objs.size (.lst (xs ++ [v]))) I10 rfl (.cons r10 .nil) ⟨_, xs, v, rfl, rfl, hl10, hz5, rfl⟩) fun _ s11 ⟨_, H11, I11, _, e11⟩ => ?_
        subst e11
        obtain ⟨b1, b2, b3⟩ := back I11 sub8
        exact ⟨m', lt, i + 1, _, _, b1, b2, b3, w'⟩
  have eE : { newEnv scope s3.heap.objs.size X.env.globals cl X.env.qual none Value.none (some X.env) builtinsNs with scope := relabel scope X.env } = (X.comp scope N a).env := by rw [ha]; rfl
  have lp := loop _ rfl
  rw [← eE] at lp
  have sf := T.self X.A 0 { s3 with heap := h₁, toks := s3.toks } (fun it' s' => codeAny (model X.prog X.w) X.A (.compLoop (.ListComp elt [⟨tg, iter, ifs, 0⟩] scope pos) 0 it' (.ref s₂.heap.objs.size) { newEnv scope s3.heap.objs.size X.env.globals cl X.env.qual none Value.none (some X.env) builtinsNs with scope := relabel scope X.env }) (RR (.ref s₂.heap.objs.size) s3.heap.objs.size) s')
    (notedBy (model X.prog X.w) X.A { newEnv scope s3.heap.objs.size X.env.globals cl X.env.qual none Value.none (some X.env) builtinsNs with scope := relabel scope X.env } fun x s' => RR (.ref s₂.heap.objs.size) s3.heap.objs.size (.error x) s') tn1 lp
  have fin := codeAny_compStart_list lp sf
  rw [hs3] at fin ⊢
  exact fin
def tComp (n : Nat) (js : List Nat) (wi : TI) (g : CA → TG) (tc : CA → TT) (te : CA → TE) : TE := fun σ H Q => wi σ H fun J H1 => ∀ l, H1 l = none → ∀ a : CA, CompR J (capσ σ n js) (g a) (tc a) (te a) l Q H1
theorem comp_closure {pins : List (Addr × Obj)} {σ : St} {H : Hp} {s : Shared} (cap : capOk X.env.scope.names X.N scope.names N n js = true) (I : Inv X pins σ H s) :
    ∃ cl, closureFor scope X.env = pure cl ∧ (∀ x c, cl.lookup x = some c → X.env.cells.lookup x = some c) ∧ ∀ p ∈ scope.names, p.2 = NameKind.free → ∃ c, cl.lookup p.1 = some c :=
  closure_of fun p hp e => I.ok.has p.1 ((cap_facts cap).2.2.2.1 p hp e).2
/-- [elt for tg in iter if ..] -/
theorem pe_comp {wi : TI} (cap : capOk X.env.scope.names X.N scope.names N n js = true) (hkind : scope.kind = .function) (hcalm : X.calm = true) (hi : PI X tg iter wi)
    (hg : ∀ a, PG (X.comp scope N a) tg (g a)) (hc : ∀ a, PIf (X.comp scope N a) ifs (tc a)) (he : ∀ a, PE (X.comp scope N a) elt (te a))
    (hs : ∀ x, foldedSetIterable iter X.env x = pure x := by intro _; rfl) : PE X (.ListComp elt [⟨tg, iter, ifs, 0⟩] scope pos) (tComp n js wi g tc te) := by
  intro pins s σ H Q I h
  obtain ⟨cl, hclos, hc1, hc2⟩ := comp_closure cap I
  rw [eval_ListComp]
  refine wpAny_comprehension_free (use := none) rfl hs hclos hkind (cap_facts cap).2.2.1 (thn (hi pins s σ H _ I h) fun v s1 h1 => thn h1 fun itv s2 h2 => ?_)
  obtain ⟨it, fp, tn, J, H2, rfl, I2, T, st2, f2, q⟩ := h2
  refine comp_core (RR := fun acc C => compPost (model X.prog X.w) X.A X.xe none (EP X pins σ Q) acc C) cap hkind hcalm hg hc he I2 T st2 f2 hc1 hc2 q ?_
  intro l C H' s' m I' hn hC hL hs0 hcell hpin hfs hq
  exact ⟨m, hn, fun h' hsb => ⟨.ref l, H', I'.turned (t' := s'.toks) (fun b o hb e => (hsb.2 b hb).trans e) hC hL (.inr hs0) hcell hpin, rfl, hq⟩⟩
/-- x = [elt for tg in iter if ..], x a plain local -/
theorem ps_setC {wi : TI} {i : Nat} {y : Str} {py spos : Pos} (hN : X.N.Nodup) (hi : X.N[i]? = some y) (hy : X.env.scope.names.lookup y = some .local) (cap : capOk X.env.scope.names X.N scope.names N n js = true) (hkind : scope.kind = .function) (hcalm : X.calm = true) (hw : PI X tg iter wi)
    (hg : ∀ a, PG (X.comp scope N a) tg (g a)) (hc : ∀ a, PIf (X.comp scope N a) ifs (tc a)) (he : ∀ a, PE (X.comp scope N a) elt (te a))
    (hsw : swapsWith (.ListComp elt [⟨tg, iter, ifs, 0⟩] scope pos) (some (.Name y py)) spos.line X.env = pure true := by rfl)
    (hs : ∀ x, foldedSetIterable iter X.env x = pure x := by intro _; rfl) : PS X (.Assign [.Name y py] (.ListComp elt [⟨tg, iter, ifs, 0⟩] scope pos) spos) (tAsg (tComp n js wi g tc te) (gName i)) := by
  intro pins s σ H D I h
  obtain ⟨cl, hclos, hc1, hc2⟩ := comp_closure cap I
  rw [exec_Assign_Name_used _ _ _ _ hsw]
  refine wpAny_bind (wpAny_standAt (wpAny_bind ?_))
  show wpAny _ X.A (do let _ ← comprehension (.ListComp elt [⟨tg, iter, ifs, 0⟩] scope pos) scope X.env _ (newList []) false (eval iter X.env) (some (assign (.Name y py) X.env))) _ _ s
  refine wpAny_bind (wpAny_mono (wpAny_comprehension_free (use := some (assign (.Name y py) X.env)) (Q := fun _ s' => SP X pins D .next s') rfl hs hclos hkind (cap_facts cap).2.2.1
    (thn (hw pins s σ H _ I h) fun v s1 h1 => thn h1 fun itv s2 h2 => ?_)) (fun _ s' hq => wpAny_pure (wpAny_pure hq)) fun _ _ e => e)
  obtain ⟨it, fp, tn, J, H2, rfl, I2, T, st2, f2, q⟩ := h2
  refine comp_core (Q := fun x H1 => D.nx (σ.set i (some x)) H1) (RR := fun acc C => compPost (model X.prog X.w) X.A X.xe (some (assign (.Name y py) X.env)) (fun _ s' => SP X pins D .next s') acc C) cap hkind hcalm hg hc he I2 T st2 f2 hc1 hc2 q ?_
  intro l C H' s' m I' hn hC hL hs0 hcell hpin hfs hq
  show wpAny _ X.A (assign (.Name y py) X.env (.ref l)) _ _ _
  refine wpAny_assign_Name (store_ok2 I' hN hi (.inl hy) (v := .ref l) rfl (fun s3 I3 hsb => ?_) (.inr hy))
  obtain ⟨b, hsb, hb⟩ := hsb
  have nb : C ≠ b := by
    rcases hb with rfl | hb
    · exact hL
    · exact fun z => hcell y b hb z.symm
  refine ⟨m, hn.sameBut hsb nb, fun h' hsb' => ?_⟩
  exact ⟨σ.set i (some (.ref l)), H', I3.turned (t' := s3.toks) (fun c o hc e => (hsb'.2 c hc).trans e) hC hL (.inr hs0) hcell hpin, hq⟩
end
/-! ### readings -/
/-- an iterator that yields just ys, whatever comes up beside -/
structure Lists (J : It) (H1 : Hp) (ys : List V) : Prop where
  go : ∀ i H, Same H1 H → i < ys.length → J.go i H
  stop : ∀ H, Same H1 H → J.stop ys.length H
  yld : ∀ i H x H', Same H1 H → J.yld i H x H' → i < ys.length → H' = H ∧ ys[i]? = some x
theorem lists_lst {K : PySem.W.Frag} {H1 : Hp} {a : Addr} {ys : List V} (h : SqL K H1 a ys) : Lists (Itl K a) H1 ys where
  go := fun i H sm hi => ⟨ys, ys[i], sm.seq h, List.getElem?_eq_getElem hi⟩
  stop := fun H sm => ⟨ys, sm.seq h, Nat.le_refl _⟩
  yld := fun i H x H' sm ⟨e, y⟩ _ => ⟨e, y ys (sm.seq h)⟩
def rng (lo : Int) (n : Nat) : List V := (List.range n).map fun (i : Nat) => V.int (lo + i)
end L2

/-! ## wide numbers; sum, all of a list; values as trees, and their equality -/
namespace L2
open PySem PySem.Spec PyProof.Rows
section
variable {X : Cx}
theorem bb_sorted : bootBuiltins "sorted" = some (.builtin "sorted") := by decide +kernel
end
/-! ### values as trees -/
inductive D where
  | non
  | bl (b : Bool)
  | int (i : Int)
  | str (cs : List Nat)
  | tup (ds : List D)
  | lst (ds : List D)
def all2 (f : D → V → Prop) : List D → List V → Prop
  | [], [] => True
  | d :: ds, x :: xs => f d x ∧ all2 f ds xs
  | _, _ => False
/-- the value at v is this tree, of at most so many levels -/
def Dp (K : PySem.W.Frag) (H : Hp) : Nat → D → V → Prop
  | _, .non, v => v = .non
  | _, .bl b, v => v = .bl b
  | _, .int i, v => v = .int i
  | _, .str cs, v => v = .str (SL cs)
  | n + 1, .tup ds, v => ∃ a xs, v = .ref a ∧ SqT K H a xs ∧ all2 (Dp K H n) ds xs
  | n + 1, .lst ds, v => ∃ a xs, v = .ref a ∧ SqL K H a xs ∧ all2 (Dp K H n) ds xs
  | 0, .tup _, _ => False
  | 0, .lst _, _ => False
def all2b (f : D → D → Bool) : List D → List D → Bool
  | [], [] => true
  | a :: r, b :: t => f a b && all2b f r t
  | _, _ => false
/-- == of trees -/
def eqb : Nat → D → D → Bool
  | _, .non, .non => true
  | _, .bl a, .bl b => a == b
  | _, .bl a, .int b => (if a then 1 else 0) == b
  | _, .int a, .bl b => a == (if b then 1 else 0)
  | _, .int a, .int b => a == b
  | _, .str a, .str b => a == b
  | n + 1, .tup a, .tup b => all2b (eqb n) a b
  | n + 1, .lst a, .lst b => all2b (eqb n) a b
  | _, _, _ => false
def isSeq : D → Bool
  | .tup _ => true
  | .lst _ => true
  | _ => false
/-- what == is told of here: no list or tuple beside another kind -/
def cmpOk : Nat → D → D → Prop
  | n + 1, .tup a, .tup b => ∀ (j : Nat) (x y : D), a[j]? = some x → b[j]? = some y → cmpOk n x y
  | n + 1, .lst a, .lst b => ∀ (j : Nat) (x y : D), a[j]? = some x → b[j]? = some y → cmpOk n x y
  | _, a, b => isSeq a = false ∧ isSeq b = false
theorem all2_len {f : D → V → Prop} : ∀ {ds : List D} {xs : List V}, all2 f ds xs → ds.length = xs.length
  | [], [], _ => rfl
  | _ :: _, _ :: _, h => by rw [List.length_cons, List.length_cons, all2_len h.2]
  | [], _ :: _, h => h.elim
  | _ :: _, [], h => h.elim
theorem all2_get {f : D → V → Prop} : ∀ {ds : List D} {xs : List V} {j : Nat} {d : D} {x : V}, all2 f ds xs → ds[j]? = some d → xs[j]? = some x → f d x
  | [], [], _, _, _, _, h, _ => by simp at h
  | a :: r, b :: t, 0, d, x, h, h1, h2 => by
    simp at h1 h2
    rw [← h1, ← h2]
    exact h.1
  | a :: r, b :: t, j + 1, d, x, h, h1, h2 => all2_get h.2 (by simpa using h1) (by simpa using h2)
  | [], _ :: _, _, _, _, h, _, _ => h.elim
  | _ :: _, [], _, _, _, h, _, _ => h.elim
theorem all2_imp {f g : D → V → Prop} : ∀ {ds : List D} {xs : List V}, (∀ d ∈ ds, ∀ x, f d x → g d x) → all2 f ds xs → all2 g ds xs
  | [], [], _, _ => trivial
  | d :: r, x :: t, h, q => ⟨h d List.mem_cons_self x q.1, all2_imp (fun d hd => h d (List.mem_cons_of_mem _ hd)) q.2⟩
  | [], _ :: _, _, h => h.elim
  | _ :: _, [], _, h => h.elim
theorem Dp.same {K : PySem.W.Frag} {H H' : Hp} (sm : Same H H') : ∀ {n : Nat} {d : D} {v : V}, Dp K H n d v → Dp K H' n d v
  | _, .non, _, h => by unfold Dp at h ⊢; exact h
  | _, .bl _, _, h => by unfold Dp at h ⊢; exact h
  | _, .int _, _, h => by unfold Dp at h ⊢; exact h
  | _, .str _, _, h => by unfold Dp at h ⊢; exact h
  | n + 1, .tup ds, v, h => by
    unfold Dp at h ⊢
    obtain ⟨a, xs, e, hq, hs⟩ := h
    exact ⟨a, xs, e, sm.sqT hq, all2_imp (fun d _ x q => Dp.same sm q) hs⟩
  | n + 1, .lst ds, v, h => by
    unfold Dp at h ⊢
    obtain ⟨a, xs, e, hq, hs⟩ := h
    exact ⟨a, xs, e, sm.seq hq, all2_imp (fun d _ x q => Dp.same sm q) hs⟩
  | 0, .tup _, _, h => by unfold Dp at h; exact h.elim
  | 0, .lst _, _, h => by unfold Dp at h; exact h.elim
theorem all2b_refl {f : D → D → Bool} : ∀ {ds : List D}, (∀ d ∈ ds, f d d = true) → all2b f ds ds = true
  | [], _ => rfl
  | d :: r, h => by
    unfold all2b
    rw [h d List.mem_cons_self, all2b_refl fun x hx => h x (List.mem_cons_of_mem _ hx)]
    rfl
theorem all2_mem {f : D → V → Prop} {ds : List D} {xs : List V} (h : all2 f ds xs) {d : D} (hd : d ∈ ds) : ∃ x, f d x := by
  obtain ⟨j, hj, rfl⟩ := List.getElem_of_mem hd
  have hl := all2_len h
  exact ⟨xs[j], all2_get h (List.getElem?_eq_getElem hj) (List.getElem?_eq_getElem (by omega))⟩
theorem eqb_refl {K : PySem.W.Frag} {H : Hp} : ∀ {n : Nat} {d : D} {v : V}, Dp K H n d v → eqb n d d = true
  | _, .non, _, _ => by unfold eqb; rfl
  | _, .bl _, _, _ => by unfold eqb; simp
  | _, .int _, _, _ => by unfold eqb; simp
  | _, .str _, _, _ => by unfold eqb; simp
  | n + 1, .tup ds, v, h => by
    unfold Dp at h
    obtain ⟨a, xs, e, hq, hs⟩ := h
    unfold eqb
    exact all2b_refl fun d hd => let ⟨x, hx⟩ := all2_mem hs hd; eqb_refl hx
  | n + 1, .lst ds, v, h => by
    unfold Dp at h
    obtain ⟨a, xs, e, hq, hs⟩ := h
    unfold eqb
    exact all2b_refl fun d hd => let ⟨x, hx⟩ := all2_mem hs hd; eqb_refl hx
  | 0, .tup _, _, h => by unfold Dp at h; exact h.elim
  | 0, .lst _, _, h => by unfold Dp at h; exact h.elim
theorem cmpOk_refl {K : PySem.W.Frag} {H : Hp} : ∀ {n : Nat} {d : D} {v : V}, Dp K H n d v → cmpOk n d d
  | 0, .non, _, _ => ⟨rfl, rfl⟩
  | 0, .bl _, _, _ => ⟨rfl, rfl⟩
  | 0, .int _, _, _ => ⟨rfl, rfl⟩
  | 0, .str _, _, _ => ⟨rfl, rfl⟩
  | _ + 1, .non, _, _ => ⟨rfl, rfl⟩
  | _ + 1, .bl _, _, _ => ⟨rfl, rfl⟩
  | _ + 1, .int _, _, _ => ⟨rfl, rfl⟩
  | _ + 1, .str _, _, _ => ⟨rfl, rfl⟩
  | n + 1, .tup ds, v, h => by
    unfold Dp at h
    obtain ⟨a, xs, e, hq, hs⟩ := h
    intro j x y h1 h2
    rw [h1] at h2
    cases h2
    obtain ⟨z, hz⟩ := all2_mem hs (List.mem_of_getElem? h1)
    exact cmpOk_refl hz
  | n + 1, .lst ds, v, h => by
    unfold Dp at h
    obtain ⟨a, xs, e, hq, hs⟩ := h
    intro j x y h1 h2
    rw [h1] at h2
    cases h2
    obtain ⟨z, hz⟩ := all2_mem hs (List.mem_of_getElem? h1)
    exact cmpOk_refl hz
  | 0, .tup _, _, h => by unfold Dp at h; exact h.elim
  | 0, .lst _, _, h => by unfold Dp at h; exact h.elim
/-- a tree that is no list and no tuple -/
def sc : D → Option V
  | .non => some .non
  | .bl b => some (.bl b)
  | .int i => some (.int i)
  | .str cs => some (.str (SL cs))
  | _ => none
theorem Dp.sc {K : PySem.W.Frag} {H : Hp} {n : Nat} {d : D} {v x : V} (h : sc d = some x) : Dp K H n d v = (v = x) := by
  cases d with
  | non => cases h; unfold Dp; rfl
  | bl b => cases h; unfold Dp; rfl
  | int i => cases h; unfold Dp; rfl
  | str cs => cases h; unfold Dp; rfl
  | tup ds => cases h
  | lst ds => cases h
theorem Dp.flat {K : PySem.W.Frag} {H : Hp} {d : D} {v : V} (h : Dp K H 0 d v) : ∃ x, L2.sc d = some x := by
  cases d with
  | tup ds => unfold Dp at h; exact h.elim
  | lst ds => unfold Dp at h; exact h.elim
  | _ => exact ⟨_, rfl⟩
theorem Dp.isRef {K : PySem.W.Frag} {H : Hp} {n : Nat} {d : D} {v : V} (h : L2.sc d = none) (p : Dp K H n d v) : ∃ a, v = .ref a := by
  cases d with
  | tup ds =>
    cases n with
    | zero => unfold Dp at p; exact p.elim
    | succ n => unfold Dp at p; obtain ⟨a, _, e, _⟩ := p; exact ⟨a, e⟩
  | lst ds =>
    cases n with
    | zero => unfold Dp at p; exact p.elim
    | succ n => unfold Dp at p; obtain ⟨a, _, e, _⟩ := p; exact ⟨a, e⟩
  | non => cases h
  | bl _ => cases h
  | int _ => cases h
  | str _ => cases h
theorem sc_ref {d : D} {x : V} {a : Addr} (h : sc d = some x) : x ≠ .ref a := by
  cases d <;> cases h <;> (intro z; cases z)
theorem sc_flat {d : D} {x : V} (h : sc d = some x) : flatV x = true := by
  cases d <;> cases h <;> rfl
theorem sc_inj {d e : D} {x : V} (h : sc d = some x) (g : sc e = some x) : d = e := by
  cases d <;> cases h <;> cases e <;> first
    | rfl
    | (cases g; rfl)
    | cases g
    | (have z := V.str.inj (Option.some.inj g)
       rw [SL_inj] at z
       rw [z])
theorem cmp_mix1 {n : Nat} {d e : D} {x : V} (h : sc d = some x) (g : sc e = none) : ¬ cmpOk n d e := by
  intro c
  cases n <;> cases d <;> cases h <;> cases e <;> first
    | (unfold cmpOk at c; obtain ⟨_, z⟩ := c; cases z; done)
    | (cases g; done)
theorem cmp_mix2 {n : Nat} {d e : D} {x : V} (h : sc d = none) (g : sc e = some x) : ¬ cmpOk n d e := by
  intro c
  cases n <;> cases e <;> cases g <;> cases d <;> first
    | (unfold cmpOk at c; obtain ⟨z, _⟩ := c; cases z; done)
    | (cases h; done)
theorem SL_beq (a b : List Nat) : (SL a == SL b) = (a == b) := by
  rw [Bool.eq_iff_iff, beq_iff_eq, beq_iff_eq, SL_inj]
theorem eqb_sc {n : Nat} {d e : D} {x y : V} (h : sc d = some x) (g : sc e = some y) : eqb n d e = eqV x y := by
  cases d <;> cases h <;> cases e <;> cases g <;> (unfold eqb eqV) <;> first
    | rfl
    | exact (SL_beq _ _).symm
section
variable {X : Cx} {pins : List (Addr × Obj)} {σ : St} {H : Hp} {s : Shared}
theorem tl_apart (I : Inv X pins σ H s) {a : Addr} {xs ys : List V} (h : SqT X.K H a xs) (g : SqL X.K H a ys) : False := by
  obtain ⟨i1, _, ⟨o1, e1, c1, _⟩, _⟩ := I.tuple h
  obtain ⟨i2, _, ⟨o2, n2, e2, c2, _⟩, _⟩ := I.list g
  rw [e1] at e2
  cases e2
  rw [c1] at c2
  revert c2
  simp
theorem all2_det {f g : D → V → Prop} : ∀ {ds es : List D} {xs : List V}, (∀ d ∈ ds, ∀ e x, f d x → g e x → d = e) → all2 f ds xs → all2 g es xs → ds = es
  | [], [], [], _, _, _ => rfl
  | d :: r, e :: t, x :: z, h, p, q => by rw [h d List.mem_cons_self e x p.1 q.1, all2_det (fun d hd => h d (List.mem_cons_of_mem _ hd)) p.2 q.2]
  | [], _ :: _, [], _, _, q => q.elim
  | [], _ :: _, _ :: _, _, p, _ => p.elim
  | _ :: _, [], [], _, p, _ => p.elim
  | _ :: _, [], _ :: _, _, _, q => q.elim
  | _ :: _, _ :: _, [], _, p, _ => p.elim
  | [], [], _ :: _, _, p, _ => p.elim
theorem Dp.det (I : Inv X pins σ H s) : ∀ {n : Nat} {d e : D} {v : V}, Dp X.K H n d v → Dp X.K H n e v → d = e := by
  intro n
  induction n with
  | zero =>
    intro d e v p q
    obtain ⟨x, hx⟩ := Dp.flat p
    obtain ⟨y, hy⟩ := Dp.flat q
    rw [Dp.sc hx] at p
    rw [Dp.sc hy] at q
    exact sc_inj hx (by rw [hy, ← q, p])
  | succ n ih =>
    intro d e v p q
    cases hx : L2.sc d with
    | some x =>
      rw [Dp.sc hx] at p
      cases hy : L2.sc e with
      | some y =>
        rw [Dp.sc hy] at q
        exact sc_inj hx (by rw [hy, ← q, p])
      | none =>
        obtain ⟨a, e2⟩ := Dp.isRef hy q
        exact absurd (p.symm.trans e2) (sc_ref hx)
    | none =>
      cases hy : L2.sc e with
      | some y =>
        rw [Dp.sc hy] at q
        obtain ⟨a, e2⟩ := Dp.isRef hx p
        exact absurd (q.symm.trans e2) (sc_ref hy)
      | none =>
        cases d with
        | tup ds =>
          unfold Dp at p
          obtain ⟨a, xs, rfl, h1, p⟩ := p
          cases e with
          | tup es =>
            unfold Dp at q
            obtain ⟨b, ys, eb, h2, q⟩ := q
            cases eb
            have exy := I.tuple_inj h1 h2
            subst exy
            exact congrArg D.tup (all2_det (f := Dp X.K H n) (g := Dp X.K H n) (fun d _ e x p q => ih p q) p q)
          | lst es =>
            unfold Dp at q
            obtain ⟨b, ys, eb, h2, q⟩ := q
            cases eb
            exact (tl_apart I h1 h2).elim
          | non => cases hy
          | bl _ => cases hy
          | int _ => cases hy
          | str _ => cases hy
        | lst ds =>
          unfold Dp at p
          obtain ⟨a, xs, rfl, h1, p⟩ := p
          cases e with
          | lst es =>
            unfold Dp at q
            obtain ⟨b, ys, eb, h2, q⟩ := q
            cases eb
            have exy := I.list_inj h1 h2
            subst exy
            exact congrArg D.lst (all2_det (f := Dp X.K H n) (g := Dp X.K H n) (fun d _ e x p q => ih p q) p q)
          | tup es =>
            unfold Dp at q
            obtain ⟨b, ys, eb, h2, q⟩ := q
            cases eb
            exact (tl_apart I h2 h1).elim
          | non => cases hy
          | bl _ => cases hy
          | int _ => cases hy
          | str _ => cases hy
        | non => cases hx
        | bl _ => cases hx
        | int _ => cases hx
        | str _ => cases hx
theorem range_all2 {n : Nat} : ∀ (ds es : List D), ((List.range (min ds.length es.length)).all (fun j => eqb n (ds.getD j .non) (es.getD j .non)) && ds.length == es.length) = all2b (eqb n) ds es := by
  intro ds es
  rw [Bool.eq_iff_iff, Bool.and_eq_true, List.all_eq_true, beq_iff_eq]
  induction ds generalizing es with
  | nil =>
    cases es with
    | nil => simp [all2b]
    | cons e t => simp [all2b]
  | cons d r ih =>
    cases es with
    | nil => simp [all2b]
    | cons e t =>
      unfold all2b
      rw [Bool.and_eq_true, ← ih t]
      constructor
      · rintro ⟨h, hl⟩
        refine ⟨by simpa using h 0 (List.mem_range.mpr (by simp)), fun j hj => ?_, by simpa using hl⟩
        have := h (j + 1) (List.mem_range.mpr (by rw [List.length_cons, List.length_cons]; have := List.mem_range.mp hj; omega))
        simpa using this
      · rintro ⟨h0, h, hl⟩
        refine ⟨fun j hj => ?_, by simpa using hl⟩
        cases j with
        | zero => simpa using h0
        | succ j =>
          have hj' := List.mem_range.mp hj
          rw [List.length_cons, List.length_cons] at hj'
          simpa using h j (List.mem_range.mpr (by omega))
theorem all2_at {n : Nat} {ds : List D} {xs : List V} {its : List Value} (h : all2 (Dp X.K H n) ds xs) (r : Vals xs its) (j : Nat) (hj : j < its.toArray.size) : ∃ x, ds[j]? = some (ds.getD j .non) ∧ Dp X.K H n (ds.getD j .non) x ∧ RelV x its.toArray[j] := by
  have hl := all2_len h
  have hr := r.length
  have hj' : j < its.length := by simpa using hj
  have e1 : ds[j]? = some (ds.getD j .non) := by
    rw [List.getD_eq_getElem?_getD, List.getElem?_eq_getElem (by omega)]
    rfl
  have e2 : xs[j]? = some xs[j] := List.getElem?_eq_getElem (by omega)
  obtain ⟨u, eu, ru⟩ := r.get e2
  refine ⟨xs[j], e1, all2_get h e1 e2, ?_⟩
  rw [List.getElem?_eq_getElem hj'] at eu
  rw [List.getElem_toArray]
  rw [Option.some.inj eu]
  exact ru
/-- == of two trees -/
theorem eqAt_deep (I : Inv X pins σ H s) : ∀ {n : Nat} {d e : D} {v w : V} {u u' : Value} {A : Around}, cmpOk n d e → Dp X.K H n d v → Dp X.K H n e w → RelV v u → RelV w u' → A.units + n < cLine → SeqAt.EqAt A s u u' (eqb n d e) := by
  intro n
  induction n with
  | zero =>
    intro d e v w u u' A c p q rv rw' hu
    obtain ⟨x, hx⟩ := Dp.flat p
    obtain ⟨y, hy⟩ := Dp.flat q
    rw [Dp.sc hx] at p
    rw [Dp.sc hy] at q
    subst p q
    rw [eqb_sc hx hy]
    exact eqAt_V rv rw' (sc_flat hx) (sc_flat hy)
  | succ n ih =>
    intro d e v w u u' A c p q rv rw' hu
    cases hx : L2.sc d with
    | some x =>
      cases hy : L2.sc e with
      | some y =>
        rw [Dp.sc hx] at p
        rw [Dp.sc hy] at q
        subst p q
        rw [eqb_sc hx hy]
        exact eqAt_V rv rw' (sc_flat hx) (sc_flat hy)
      | none => exact absurd c (cmp_mix1 hx hy)
    | none =>
      cases hy : L2.sc e with
      | some y => exact absurd c (cmp_mix2 hx hy)
      | none =>
        by_cases same : v = w
        · subst same
          have ed := Dp.det I p q
          subst ed
          rw [eqb_refl p]
          have eu : u = u' := by
            obtain ⟨a, rfl⟩ := Dp.isRef hx p
            cases rv
            cases rw'
            rfl
          subst eu
          exact SeqAt.EqAt.same _
        · cases d with
          | tup ds =>
            cases e with
            | tup es =>
              unfold Dp at p q
              obtain ⟨a, xs, rfl, h1, p⟩ := p
              obtain ⟨b, ys, rfl, h2, q⟩ := q
              cases rv
              cases rw'
              obtain ⟨i1, r1, t1, _⟩ := I.tuple h1
              obtain ⟨i2, r2, t2, _⟩ := I.tuple h2
              have l1 := all2_len p
              have l2 := all2_len q
              have l3 := r1.length
              have l4 := r2.length
              refine SeqAt.EqAt.of_refs (fun z => same (by rw [z])) ?_
              have fin := SeqAt.RcAt.tuples (A := A) (e := fun j => eqb n (ds.getD j .non) (es.getD j .non)) t1 t2 (by omega) (fun j j1 j2 => ?_)
              · rw [List.size_toArray, List.size_toArray, show i1.length = ds.length by omega, show i2.length = es.length by omega, range_all2] at fin
                unfold eqb
                exact fin
              · obtain ⟨x, g1, d1, f1⟩ := all2_at p r1 j j1
                obtain ⟨y, g2, d2, f2⟩ := all2_at q r2 j j2
                exact ih (c j _ _ g1 g2) d1 d2 f1 f2 (by show A.units + 1 + n < cLine; omega)
            | lst es => exact absurd c (by unfold cmpOk; simp [isSeq])
            | non => cases hy
            | bl _ => cases hy
            | int _ => cases hy
            | str _ => cases hy
          | lst ds =>
            cases e with
            | lst es =>
              unfold Dp at p q
              obtain ⟨a, xs, rfl, h1, p⟩ := p
              obtain ⟨b, ys, rfl, h2, q⟩ := q
              cases rv
              cases rw'
              obtain ⟨i1, r1, t1, _⟩ := I.list h1
              obtain ⟨i2, r2, t2, _⟩ := I.list h2
              have l1 := all2_len p
              have l2 := all2_len q
              have l3 := r1.length
              have l4 := r2.length
              refine SeqAt.EqAt.of_refs (fun z => same (by rw [z])) ?_
              have r0 := range_all2 (n := n) ds es
              unfold eqb
              by_cases hs : i1.length = i2.length
              · have fin := SeqAt.RcAt.lists (A := A) (e := fun j => eqb n (ds.getD j .non) (es.getD j .non)) t1.isList t2.isList (by simpa using hs) (by omega) (fun j j1 j2 => ?_)
                · have e1 : ds.length = es.length := by omega
                  rw [← e1, Nat.min_self, beq_self_eq_true, Bool.and_true] at r0
                  rw [List.size_toArray, show i1.length = ds.length by omega, r0] at fin
                  exact fin
                · obtain ⟨x, g1, d1, f1⟩ := all2_at p r1 j j1
                  obtain ⟨y, g2, d2, f2⟩ := all2_at q r2 j j2
                  exact ih (c j _ _ g1 g2) d1 d2 f1 f2 (by show A.units + 1 + n < cLine; omega)
              · have fin := SeqAt.RcAt.lists_lengths (A := A) t1.isList t2.isList (by simpa using hs) (by omega)
                have z : (ds.length == es.length) = false := by
                  rw [beq_eq_false_iff_ne]
                  omega
                rw [z, Bool.and_false] at r0
                rw [← r0]
                exact fin
            | tup es => exact absurd c (by unfold cmpOk; simp [isSeq])
            | non => cases hy
            | bl _ => cases hy
            | int _ => cases hy
            | str _ => cases hy
          | non => cases hx
          | bl _ => cases hx
          | int _ => cases hx
          | str _ => cases hx
theorem rcAt_deep (I : Inv X pins σ H s) {n : Nat} {d e : D} {v w : V} {u u' : Value} {A : Around} (c : cmpOk (n + 1) d e) (p : Dp X.K H (n + 1) d v) (q : Dp X.K H (n + 1) e w) (hx : sc d = none) (hy : sc e = none) (rv : RelV v u) (rw' : RelV w u') (hu : A.units + (n + 1) < cLine) :
    SeqAt.RcAt A s u u' (eqb (n + 1) d e) ∧ SeqAt.RcNeAt A s u u' (!eqb (n + 1) d e) := by
  cases d with
  | tup ds =>
    cases e with
    | tup es =>
      unfold Dp at p q
      obtain ⟨a, xs, rfl, h1, p⟩ := p
      obtain ⟨b, ys, rfl, h2, q⟩ := q
      cases rv
      cases rw'
      obtain ⟨i1, r1, t1, _⟩ := I.tuple h1
      obtain ⟨i2, r2, t2, _⟩ := I.tuple h2
      have l1 := all2_len p
      have l2 := all2_len q
      have l3 := r1.length
      have l4 := r2.length
      have el : ∀ j (j1 : j < i1.toArray.size) (j2 : j < i2.toArray.size), SeqAt.EqAt A.in1 s i1.toArray[j] i2.toArray[j] (eqb n (ds.getD j .non) (es.getD j .non)) := fun j j1 j2 => by
        obtain ⟨x, g1, d1, f1⟩ := all2_at p r1 j j1
        obtain ⟨y, g2, d2, f2⟩ := all2_at q r2 j j2
        exact eqAt_deep I (c j _ _ g1 g2) d1 d2 f1 f2 (by show A.units + 1 + n < cLine; omega)
      have f1 := SeqAt.RcAt.tuples (A := A) (e := fun j => eqb n (ds.getD j .non) (es.getD j .non)) t1 t2 (by omega) el
      have f2 := SeqAt.RcNeAt.tuples (A := A) (e := fun j => eqb n (ds.getD j .non) (es.getD j .non)) t1 t2 (by omega) el
      rw [List.size_toArray, List.size_toArray, show i1.length = ds.length by omega, show i2.length = es.length by omega, range_all2] at f1 f2
      unfold eqb
      exact ⟨f1, f2⟩
    | lst es => exact absurd c (by unfold cmpOk; simp [isSeq])
    | non => cases hy
    | bl _ => cases hy
    | int _ => cases hy
    | str _ => cases hy
  | lst ds =>
    cases e with
    | lst es =>
      unfold Dp at p q
      obtain ⟨a, xs, rfl, h1, p⟩ := p
      obtain ⟨b, ys, rfl, h2, q⟩ := q
      cases rv
      cases rw'
      obtain ⟨i1, r1, t1, _⟩ := I.list h1
      obtain ⟨i2, r2, t2, _⟩ := I.list h2
      have l1 := all2_len p
      have l2 := all2_len q
      have l3 := r1.length
      have l4 := r2.length
      have el : ∀ j (j1 : j < i1.toArray.size) (j2 : j < i2.toArray.size), SeqAt.EqAt A.in1 s i1.toArray[j] i2.toArray[j] (eqb n (ds.getD j .non) (es.getD j .non)) := fun j j1 j2 => by
        obtain ⟨x, g1, d1, f1⟩ := all2_at p r1 j j1
        obtain ⟨y, g2, d2, f2⟩ := all2_at q r2 j j2
        exact eqAt_deep I (c j _ _ g1 g2) d1 d2 f1 f2 (by show A.units + 1 + n < cLine; omega)
      have r0 := range_all2 (n := n) ds es
      unfold eqb
      by_cases hs : i1.length = i2.length
      · have f1 := SeqAt.RcAt.lists (A := A) (e := fun j => eqb n (ds.getD j .non) (es.getD j .non)) t1.isList t2.isList (by simpa using hs) (by omega) el
        have f2 := SeqAt.RcNeAt.lists (A := A) (e := fun j => eqb n (ds.getD j .non) (es.getD j .non)) t1.isList t2.isList (by simpa using hs) (by omega) el
        have e1 : ds.length = es.length := by omega
        rw [← e1, Nat.min_self, beq_self_eq_true, Bool.and_true] at r0
        rw [List.size_toArray, show i1.length = ds.length by omega, r0] at f1 f2
        exact ⟨f1, f2⟩
      · have f1 := SeqAt.RcAt.lists_lengths (A := A) t1.isList t2.isList (by simpa using hs) (by omega)
        have f2 := SeqAt.RcNeAt.lists_lengths (A := A) t1.isList t2.isList (by simpa using hs) (by omega)
        have z : (ds.length == es.length) = false := by
          rw [beq_eq_false_iff_ne]
          omega
        rw [z, Bool.and_false] at r0
        rw [← r0]
        exact ⟨f1, f2⟩
    | tup es => exact absurd c (by unfold cmpOk; simp [isSeq])
    | non => cases hy
    | bl _ => cases hy
    | int _ => cases hy
    | str _ => cases hy
  | non => cases hx
  | bl _ => cases hx
  | int _ => cases hx
  | str _ => cases hx
end
section
variable {X : Cx}
/-- == (neg: !=) of two lists or two tuples, by their trees -/
def rEqD (K : PySem.W.Frag) (neg : Bool) : R2 := fun x y H Q => ∃ n d e, Dp K H (n + 1) d x ∧ Dp K H (n + 1) e y ∧ sc d = none ∧ sc e = none ∧ n ≤ 50 ∧ cmpOk (n + 1) d e ∧ Q (.bl (if neg then !eqb (n + 1) d e else eqb (n + 1) d e)) H
theorem op_eqD {k : Nat} (hr : Room k X.A) : OpR X (compareOp .Eq) (rEqD X.K false) := by
  intro pins s σ H x y v u Q I rx ry h
  obtain ⟨n, d, e, p, q, hx, hy, hn, c, hq⟩ := h
  have hu := hr.units
  exact (rcAt_deep I (A := X.A) c p q hx hy rx ry (by omega)).1 X.prog X.w _ _ ⟨.bl _, H, I, rfl, hq⟩
theorem op_neD {k : Nat} (hr : Room k X.A) : OpR X (compareOp .NotEq) (rEqD X.K true) := by
  intro pins s σ H x y v u Q I rx ry h
  obtain ⟨n, d, e, p, q, hx, hy, hn, c, hq⟩ := h
  have hu := hr.units
  exact (rcAt_deep I (A := X.A) c p q hx hy rx ry (by omega)).2 X.prog X.w _ _ ⟨.bl _, H, I, rfl, hq⟩
/-- the two are one tree -/
theorem eqD {K : PySem.W.Frag} {H : Hp} {n : Nat} {d : D} {x y : V} {Q : VK} (p : Dp K H (n + 1) d x) (q : Dp K H (n + 1) d y) (hx : sc d = none) (hn : n ≤ 50) (h : Q (.bl true) H) : rEqD K false x y H Q :=
  ⟨n, d, d, p, q, hx, hx, hn, cmpOk_refl p, by rw [eqb_refl p]; exact h⟩
theorem neD {K : PySem.W.Frag} {H : Hp} {n : Nat} {d : D} {x y : V} {Q : VK} (p : Dp K H (n + 1) d x) (q : Dp K H (n + 1) d y) (hx : sc d = none) (hn : n ≤ 50) (h : Q (.bl false) H) : rEqD K true x y H Q :=
  ⟨n, d, d, p, q, hx, hx, hn, cmpOk_refl p, by rw [eqb_refl p]; exact h⟩
end
theorem Dp_tup {K : PySem.W.Frag} {H : Hp} {n : Nat} {a : Addr} {ds : List D} {xs : List V} (h : SqT K H a xs) (q : all2 (Dp K H n) ds xs) : Dp K H (n + 1) (.tup ds) (.ref a) := by
  unfold Dp
  exact ⟨a, xs, rfl, h, q⟩
theorem Dp_lst {K : PySem.W.Frag} {H : Hp} {n : Nat} {a : Addr} {ds : List D} {xs : List V} (h : SqL K H a xs) (q : all2 (Dp K H n) ds xs) : Dp K H (n + 1) (.lst ds) (.ref a) := by
  unfold Dp
  exact ⟨a, xs, rfl, h, q⟩
theorem Dp_int {K : PySem.W.Frag} {H : Hp} {n : Nat} {i : Int} : Dp K H n (.int i) (.int i) := by unfold Dp; rfl
theorem Dp_str {K : PySem.W.Frag} {H : Hp} {n : Nat} {cs : List Nat} : Dp K H n (.str cs) (.str (SL cs)) := by unfold Dp; rfl
theorem Dp_non {K : PySem.W.Frag} {H : Hp} {n : Nat} : Dp K H n .non .non := by unfold Dp; rfl
theorem all2_ints {K : PySem.W.Frag} {H : Hp} {n : Nat} : ∀ is : List Int, all2 (Dp K H n) (is.map D.int) (is.map V.int)
  | [] => trivial
  | _ :: r => ⟨Dp_int, all2_ints r⟩
end L2

/-! ## new things, told by what stands there alone (no upd in the reading) -/
namespace L2
open PySem PySem.Spec PyProof.Rows
/-- a new object: its address was free, all else stays -/
def New (H : Hp) (o : HO) (Q : VK) : Prop := ∀ p H', H p = none → Same H H' → H' p = some o → Q (.ref p) H'
theorem New.at {H : Hp} {o : HO} {Q : VK} (h : New H o Q) {p : Addr} (hp : H p = none) : Q (.ref p) (upd H p o) := h p _ hp (same_new hp o) upd_same
section
variable {X : Cx} {es : List Expr} {t : TA} {pos : Pos}
def tTupS (t : TA) : TE := fun σ H Q => t σ H fun xs H1 => xs.length ≤ sizeLine ∧ New H1 (.tup xs) Q
def tLstS (t : TA) : TE := fun σ H Q => t σ H fun xs H1 => xs.length ≤ sizeLine ∧ New H1 (.lst xs) Q
theorem pe_tupS {x1} (h : PA X es t) : PE X (.Tuple es x1 pos) (tTupS t) := by
  intro pins s σ H Q I hq
  refine wpAny_Tuple_spliced (thn (h pos pins s σ H _ I hq) fun us s1 ⟨xs, H1, I1, r, z, q⟩ => ⟨by rw [← r.length]; exact z, ?_⟩)
  have hf : H1 s1.heap.objs.size = none := I1.hok.fresh (Nat.le_refl _)
  refine ⟨.ref s1.heap.objs.size, upd H1 s1.heap.objs.size (.tup xs), I1.laid (t' := s1.toks) (fun b u e => Heap.get?_push_of_some _ e) (Nat.le_refl _) ?_, rfl, q.at hf⟩
  exact ⟨z, us, r, ⟨_, Heap.get?_push_size _ rfl, rfl, _, rfl⟩⟩
theorem pe_lstS (h : PA X es t) : PE X (.List es pos) (tLstS t) := by
  intro pins s σ H Q I hq
  refine wpAny_List_spliced (thn (h pos pins s σ H _ I hq) fun us s1 ⟨xs, H1, I1, r, z, q⟩ => ⟨by rw [← r.length]; exact z, ?_⟩)
  have hf : H1 s1.heap.objs.size = none := I1.hok.fresh (Nat.le_refl _)
  refine ⟨.ref s1.heap.objs.size, upd H1 s1.heap.objs.size (.lst xs), I1.laid (t' := s1.toks) (fun b u e => Heap.get?_push_of_some _ e) (Nat.le_refl _) ?_, rfl, q.at hf⟩
  exact ⟨z, us, 0, r, Heap.get?_push_size _ rfl⟩
theorem OpR.imp {f : Value → Value → Sem Value} {r r' : R2} (h : OpR X f r) (i : ∀ x y H Q, r' x y H Q → r x y H Q) : OpR X f r' := fun pins s σ H x y v u Q I rx ry q => h pins s σ H x y v u Q I rx ry (i _ _ _ _ q)
theorem SlR.imp {r r' : V → Option Int → Option Int → Hp → VK → Prop} (h : SlR X r) (i : ∀ x lo hi H Q, r' x lo hi H Q → r x lo hi H Q) : SlR X r' :=
  fun pins s σ H x v vl vu lo hi sl Q I rx hs pl pu q => h pins s σ H x v vl vu lo hi sl Q I rx hs pl pu (i _ _ _ _ _ q)
theorem CallR.imp {f : Value} {r r' : List V → Hp → VK → Prop} (h : CallR X f r) (i : ∀ xs H Q, r' xs H Q → r xs H Q) : CallR X f r' := fun pins s σ H xs us Q I rx q => h pins s σ H xs us Q I rx (i _ _ _ q)
def rCatS : R2 := fun x y H Q => ∃ p q xs ys, x = .ref p ∧ y = .ref q ∧ H p = some (.lst xs) ∧ H q = some (.lst ys) ∧ xs.length + ys.length ≤ sizeLine ∧ New H (.lst (xs ++ ys)) Q
theorem op_catS : OpR X (binaryOp .Add) rCatS := op_cat.imp fun _ _ _ _ ⟨p, q, xs, ys, e1, e2, h1, h2, hz, hq⟩ => ⟨p, q, xs, ys, e1, e2, h1, h2, hz, fun _ hp => hq.at hp⟩
def rSlLS (K : PySem.W.Frag) : V → Option Int → Option Int → Hp → VK → Prop := fun x lo hi H Q => ∃ a xs, x = .ref a ∧ SqL K H a xs ∧ New H (.lst (cutV xs lo hi)) Q
theorem sl_listS : SlR X (rSlLS X.K) := sl_list.imp fun _ _ _ _ _ ⟨a, xs, e, h, q⟩ => ⟨a, xs, e, h, fun _ hp => q.at hp⟩
theorem call_list_ofS : CallR X (.type "list") (fun xs H Q => ∃ p ys, xs = [.ref p] ∧ (SqL X.K H p ys ∨ SqT X.K H p ys) ∧ New H (.lst ys) Q) := call_list_of.imp fun _ _ _ ⟨p, ys, e, h, q⟩ => ⟨p, ys, e, h, fun _ hp => q.at hp⟩
end
end L2
namespace L2
open PySem PySem.Spec PyProof.Rows
theorem small_len {n : Nat} (h : n ≤ 1000) : n < sizeLine := Nat.lt_of_le_of_lt h (by decide)
theorem le_line {n : Nat} (h : n ≤ 1000) : n ≤ sizeLine := Nat.le_of_lt (small_len h)
end L2
namespace L2
open PySem PySem.Spec PyProof.Rows
def tEither (t u : TE) : TE := fun σ H Q => t σ H Q ∨ u σ H Q
end L2

/-! ## a loop's iterator on its own; two lists side by side (zip) -/
namespace L2
open PySem PySem.Spec PyProof.Rows
/-- what a loop asks of its iterator -/
def Loop (g : TG) (tb : TS) (D : Ends) (σ : St) (J : It) (H1 : Hp) : Prop := ∃ W : Nat → Nat → St → Hp → Prop, (∃ m, W 0 m σ H1) ∧ ∀ i m σ H, W i m σ H →
  (J.stop i H ∧ D.nx σ H) ∨ (J.go i H ∧ ∃ N : St → Hp → Prop, (∀ σ' H', N σ' H' → ∃ m', m' < m ∧ W (i + 1) m' σ' H') ∧ ∀ x H', J.yld i H x H' → g x σ H' fun σ2 H2 => tb { D with nx := N, ct := N, bk := D.nx } σ2 H2)
/-- the loop's rest as one name, so that the simp call sees the iterator only -/
theorem for_by {wi : TI} {g : TG} {tb : TS} {D : Ends} {σ : St} {H : Hp} (k : ∀ R : It → Hp → Prop, (∀ J H1, Loop g tb D σ J H1 → R J H1) → wi σ H R) : tFor wi g tb D σ H := k _ fun _ _ h => h
/-- two lists side by side: each turn makes a new pair -/
def Itz (K : PySem.W.Frag) (a b : Addr) : It :=
  ⟨fun i H => ∃ xs ys x y, SqL K H a xs ∧ SqL K H b ys ∧ xs[i]? = some x ∧ ys[i]? = some y,
   fun i H v H' => ∃ p, v = .ref p ∧ H p = none ∧ Same H H' ∧ ∃ x y, H' p = some (.tup [x, y]) ∧ (∀ xs, SqL K H a xs → xs[i]? = some x) ∧ ∀ ys, SqL K H b ys → ys[i]? = some y,
   fun i H => ∃ xs ys, SqL K H a xs ∧ SqL K H b ys ∧ (xs.length ≤ i ∨ ys.length ≤ i)⟩
section
variable {X : Cx} {pins : List (Addr × Obj)} {σ : St} {H : Hp} {s : Shared} {h' : Heap} {ch : List Addr} {t' : Nat}
theorem Inv.turnedL (I : Inv X pins σ H s) (hf : ∀ b ∈ ch, FpOk X pins H b) (k : ∀ b o, b ∉ ch → s.heap.get? b = some o → h'.get? b = some o) : Inv X pins σ H { s with heap := h', toks := t' } := by
  have nit : ∀ b u, H b = some u → b ∉ ch := fun b u e z => by rw [(hf b z).1] at e; cases e
  refine I.step (g' := s.gens) (d' := s.drawn) (ch := ch) (fun b hb => ?_) (fun b o _ _ hc e _ => k b o hc e) (fun b o _ _ hc e _ => ⟨o.slots, k b o hc e⟩) (fun _ _ _ _ n => n)
    (fun b o hc e => ⟨o, k b o hc e⟩) (fun _ _ e => e) (fun _ _ _ e => e) (fun b ps e => ⟨#[], by rw [e]; simp⟩) (fun m hm => ?_) (fun b u e => ?_) I.bare
  · obtain ⟨_, f1, _, f3, f4, f5⟩ := hf b hb
    exact ⟨f3, f1, f4, f5⟩
  · obtain ⟨o, es, ep, ho, r⟩ := hm
    exact ⟨o, es, ep, k _ o (fun z => (hf _ z).2.1 rfl) ho, r⟩
  · refine (I.hok b u e).stay (fun c v hc q => k c v ?_ q) (fun _ q => q) fun _ _ q => q
    rcases hc with z | z
    · rw [z]; exact nit b u e
    · exact nit c _ z
theorem Inv.laidL {a : Addr} {o : HO} (I : Inv X pins σ H s) (hf : ∀ b ∈ ch, FpOk X pins H b) (k : ∀ b o, b ∉ ch → s.heap.get? b = some o → h'.get? b = some o) (hp : s.heap.objs.size ≤ a) (new : ObjOk X.prog X.w (upd H a o) h' a o) :
    Inv X pins σ (upd H a o) { s with heap := h', toks := t' } := by
  have hn := I.hok.fresh hp
  have nit : ∀ b u, H b = some u → b ∉ ch := fun b u e z => by rw [(hf b z).1] at e; cases e
  refine I.step (g' := s.gens) (d' := s.drawn) (ch := ch) (fun b hb => ?_) (fun b o _ _ hc e _ => k b o hc e) (fun b o _ _ hc e _ => ⟨o.slots, k b o hc e⟩)
    (fun b u _ e n => by rw [upd_ne (Nat.ne_of_lt (Nat.lt_of_lt_of_le (Heap.lt_size e) hp))]; exact n)
    (fun b o hc e => ⟨o, k b o hc e⟩) (fun b xs e => by rw [upd_ne (ne_of_none e hn)]; exact e) (fun b o u e => by rw [upd_ne (ne_of_none e hn)]; exact e) (fun b ps e => ⟨#[], by rw [upd_ne (ne_of_none e hn), e]; simp⟩) (fun m hm => ?_) (fun b u e => ?_) I.bare
  · obtain ⟨_, f1, _, f3, f4, f5⟩ := hf b hb
    exact ⟨f3, f1, f4, f5⟩
  · obtain ⟨o, es, ep, ho, r⟩ := hm
    exact ⟨o, es, ep, k _ o (fun z => (hf _ z).2.1 rfl) ho, r⟩
  · by_cases hb : b = a
    · subst hb; rw [upd_same] at e; cases e; exact new
    · rw [upd_ne hb] at e
      refine (I.hok b u e).stay (fun c v hc q => k c v ?_ q) (fun c q => by rw [upd_ne (ne_of_none q hn)]; exact q) fun c xs q => by rw [upd_ne (ne_of_none q hn)]; exact q
      rcases hc with z | z
      · rw [z]; exact nit b u e
      · exact nit c _ z
end
def iZip (K : PySem.W.Frag) (ta : TA) : TI := fun σ H R => ta σ H fun vs H1 => ∃ a b, vs = [.ref a, .ref b] ∧ (∃ xs, SqL K H1 a xs) ∧ (∃ ys, SqL K H1 b ys) ∧ R (Itz K a b) H1
theorem kit_lst_lst {K : PySem.W.Frag} : PySem.W.kitOne K (.type "list") (.type "list") = some true := by
  unfold PySem.W.kitOne
  rw [if_pos (by decide)]
section
variable {X : Cx}
end
/-! ### f(e, .., k = v, ..) where f may raise -/
section
variable {X : Cx} {Ek : St → XK} {k : Nat} {f : Addr} {fd : FuncData} {ps ks : List Str} {sp : Sp} {x : Str} {p pos : Pos} {e : Expr} {es : List Expr} {kws : List Keyword} {t tk : TA} {g : List Value → List Value → List Value} {gV : List V → List V → List V}
def tCallKX (sp : Sp) (gV : List V → List V → List V) (Ek : St → XK) (t tk : TA) : TE := fun σ H Q => t σ H fun vs H1 => tk σ H1 fun zs H2 => sp (gV vs zs) H2 Q (Ek σ)
end
/-! ### a def with a default for its last argument -/
structure FunD (K : PySem.W.Frag) (x qual : Str) (st : Stmt) (f : Addr) (fd : FuncData) : Prop where
  ex : ∃ (dV oc : Value) (od : Option Addr) (kV doc pm : Value) (an : Option Addr) (cdv ct : Value) (osl : Array (Option Value)),
    fd = PySem.W.fnOf x qual (defArgs st) (defBody st) (defScope st) dV kV doc pm an cdv ct ∧ K.lookup f = some ⟨oc, od, .func fd, osl⟩ ∧ PySem.W.codeIn K cdv qual = true
  kp : PySem.W.keepIn K (.ref f) = true
theorem FunD.okX {P : Program} {w : World} {K : PySem.W.Frag} {mg : Str → Option Value} {base : Heap} {x qual : Str} {st : Stmt} {f : Addr} {fd : FuncData} {N ps : List Str} {k : Nat} {sp : Sp} (F : FunD K x qual st f fd) (S : FnScope N ps (defScope st)) (len : ∀ vs H Q E, sp vs H Q E → vs.length = ps.length)
    (hbody : ∀ (cdv : Value) (A : Around) (outer : List Env) (s : Shared) (H : Hp) (vs : List V) (Q : VK) (E : XK), LvR (cxOf (CXE P w) P w K mg base N qual (defScope st) f cdv A outer s H E) (fun _ => E) → Room k (A.deeper (envOfC qual (defScope st) s.heap.objs.size f cdv)) → sp vs H Q E →
      ∃ t, PSs (cxOf (CXE P w) P w K mg base N qual (defScope st) f cdv A outer s H E) (defBody st) t ∧ t { nx := fun _ H' => Q .non H', rt := Q } (start N vs) H) : FnOk P w K mg base (CXE P w) (k + 1) f fd ps sp := by
  obtain ⟨dV, oc, od, kV, doc, pm, an, cdv, ct, osl, rfl, lk, hcd⟩ := F.ex
  exact fn_of lk hcd S len fun A outer s H vs Q E hr hsp => hbody cdv A outer s H vs Q E lv_def hr hsp
/-- one argument by place, one by name -/
def kwG {α : Type} (us ws : List α) : List α := match us, ws with
  | [a], [b] => [a, b]
  | _, _ => []
theorem kwG_one {α : Type} (a b : α) : kwG [a] [b] = [a, b] := rfl
end L2

/-! ## an amount spread by weights -/
namespace Parts
/-- the parts of an amount A, by weights that come behind some of sum w, all of sum s -/
def pts (A s : Int) : Int → List Int → List Int
  | _, [] => []
  | w, x :: r => (A * (w + x) / s - A * w / s) :: pts A s (w + x) r
def parts (A : Int) (ws : List Int) : List Int := pts A ws.sum 0 ws
variable {A s : Int}
end Parts

/-! ## an argument that is no star, told once (its reduction over a long list is slow) -/
namespace L2
open PySem
section
variable {env : Env} {es : List Expr} {p : Pos}
theorem star_Constant {c : Const} {j : Nat} : starEach (.Constant c j p :: es) env = (false, eval (.Constant c j p) env) :: starEach es env := rfl
theorem star_Name {x : Str} : starEach (.Name x p :: es) env = (false, eval (.Name x p) env) :: starEach es env := rfl
theorem star_BinOp {a b : Expr} {o : Operator} : starEach (.BinOp a o b p :: es) env = (false, eval (.BinOp a o b p) env) :: starEach es env := rfl
theorem star_Tuple {xs : List Expr} {k} : starEach (.Tuple xs k p :: es) env = (false, eval (.Tuple xs k p) env) :: starEach es env := rfl
theorem star_Subscript {a b : Expr} : starEach (.Subscript a b p :: es) env = (false, eval (.Subscript a b p) env) :: starEach es env := rfl
theorem star_Call {f : Expr} {xs : List Expr} {ks : List Keyword} : starEach (.Call f xs ks p :: es) env = (false, eval (.Call f xs ks p) env) :: starEach es env := rfl
end
end L2
/-! ## where a token has been made, through statements and calls (str.replace asks for that) -/
namespace L2
open PySem PySem.Spec PyProof.Rows
def PSt (X : Cx) (st : Stmt) (t : TS) : Prop :=
  ∀ (pins : List (Addr × Obj)) (s : Shared) (σ : St) (H : Hp) (D : Ends), 0 < s.toks → Inv X pins σ H s → t D σ H → wpAny (model X.prog X.w) X.A (exec st X.env) (SP X pins D) X.xe s
def PTt (X : Cx) (e : Expr) (t : TT) : Prop :=
  ∀ (pins : List (Addr × Obj)) (s : Shared) (σ : St) (H : Hp) (Q : Bool → Hp → Prop), 0 < s.toks → Inv X pins σ H s → t σ H Q → wpAny (model X.prog X.w) X.A (isTrue e X.env (eval e X.env)) (TP X pins σ Q) X.xe s
def PWt (X : Cx) (e : Expr) (t : TT) : Prop :=
  ∀ (whole : Sem Value) (pins : List (Addr × Obj)) (s : Shared) (σ : St) (H : Hp) (Q : Bool → Hp → Prop), 0 < s.toks → Inv X pins σ H s → t σ H Q → wpAny (model X.prog X.w) X.A (isTrue e X.env whole) (TP X pins σ Q) X.xe s
theorem PWt.pt {X : Cx} {e : Expr} {t : TT} (h : PWt X e t) : PTt X e t := h _
section
variable {X : Cx} {st : Stmt} {sts rest : List Stmt} {e a b : Expr} {es : List Expr} {u v : TS} {te ta tb to : TE} {tc tA tB' : TT} {tl : TA} {pos : Pos}
theorem PE.t (h : PE X e te) : PEt X e te := fun pins s σ H Q _ I q => h pins s σ H Q I q
theorem PA.t (h : PA X es tl) : PAt X es tl := fun ps pins s σ H Q _ I q => h ps pins s σ H Q I q
theorem PS.t (h : PS X st u) : PSt X st u := fun pins s σ H D _ I q => h pins s σ H D I q
theorem PSs.t (h : PSs X sts u) : PSst X sts u := fun pins s σ H D _ I q => h pins s σ H D I q
theorem PT.t (h : PT X e tc) : PTt X e tc := fun pins s σ H Q _ I q => h pins s σ H Q I q
theorem PW.t (h : PW X e tc) : PWt X e tc := fun wh pins s σ H Q _ I q => h wh pins s σ H Q I q
end
/-! ### a statement that makes a token -/
def PEm (X : Cx) (e : Expr) (t : TE) : Prop :=
  ∀ (pins : List (Addr × Obj)) (s : Shared) (σ : St) (H : Hp) (Q : VK), Inv X pins σ H s → t σ H Q → wpAny (model X.prog X.w) X.A (eval e X.env) (fun v s' => 0 < s'.toks ∧ EP X pins σ Q v s') X.xe s
def PSm (X : Cx) (st : Stmt) (t : TS) : Prop :=
  ∀ (pins : List (Addr × Obj)) (s : Shared) (σ : St) (H : Hp) (D : Ends), Inv X pins σ H s → t D σ H → wpAny (model X.prog X.w) X.A (exec st X.env) (fun f s' => 0 < s'.toks ∧ SP X pins D f s') X.xe s
section
variable {X : Cx} {st : Stmt} {rest : List Stmt} {e a : Expr} {t u : TS} {te ta : TE} {pos cp : Pos}
end
/-! ### defs that are called where a token has been made -/
structure FnOkT (P : Program) (w : World) (K : PySem.W.Frag) (mg : Str → Option Value) (base : Heap) (CX : CXT) (k : Nat) (f : Addr) (fd : FuncData) (ps : List Str) (sp : Sp) : Prop where
  len : ∀ vs H Q E, sp vs H Q E → vs.length = ps.length
  run : ∀ (A : Around) (outer : List Env) (s : Shared) (H : Hp) (args : Args) (us : List Value) (vs : List V) (Q : VK) (E : XK), 0 < s.toks → Room k A → Env0 P w K mg base A outer s H → BindsTo s fd args (ps.zip us) → Vals vs us → sp vs H Q E →
    codeAny (model P w) A (.call (.ref f) args) (CR CX outer P w H s Q E) s
theorem fn_ofT {CX : CXT} {P : Program} {w : World} {K : PySem.W.Frag} {mg : Str → Option Value} {base : Heap} {k : Nat} {f : Addr} {name qual : Str} {params : Arguments} {body : List Stmt} {scope : Scope} {dV kV doc pm cdv ct oc : Value} {an od : Option Addr}
    {osl : Array (Option Value)} {N ps : List Str} {sp : Sp} (lk : K.lookup f = some ⟨oc, od, .func (PySem.W.fnOf name qual params body scope dV kV doc pm an cdv ct), osl⟩) (hcd : PySem.W.codeIn K cdv qual = true) (S : FnScope N ps scope)
    (len : ∀ vs H Q E, sp vs H Q E → vs.length = ps.length)
    (hbody : ∀ (A : Around) (outer : List Env) (s : Shared) (H : Hp) (vs : List V) (Q : VK) (E : XK), Room k (A.deeper (envOfC qual scope s.heap.objs.size f cdv)) → sp vs H Q E →
      ∃ t, PSst (cxOf CX P w K mg base N qual scope f cdv A outer s H E) body t ∧ t { nx := fun _ H' => Q .non H', rt := Q } (start N vs) H) :
    FnOkT P w K mg base CX (k + 1) f (PySem.W.fnOf name qual params body scope dV kV doc pm an cdv ct) ps sp := by
  refine ⟨len, fun A outer s H args us vs Q E h0 hr e0 hb r hsp => ?_⟩
  have hl := len _ _ _ _ hsp
  have KX : K.In s.heap := e0.mod.kin.keeps fun b o e => (e0.bs b o e).1
  have lim : s.heap.NoLimit := e0.mod.nolimit.keeps fun b o e => (e0.bs b o e).1
  have hkind : ∀ y ∈ ps.zip us, scope.names.lookup y.1 = some .local ∨ (scope.names.lookup y.1 = some .cell ∧ ((cellsFrom (s.heap.objs.size + 1) scope.names []).lookup y.1).isSome = true) := fun ⟨n, v⟩ hy => by
    rcases S.par n (List.of_mem_zip hy).1 with q | q
    · exact .inl q
    · exact .inr ⟨q, PySem.W.cellsFrom_some _ _ _ (.inl q)⟩
  refine codeAny_call_function hr.depth (KX _ _ lk) rfl S.co S.gen rfl (PySem.W.codeRec_of KX hcd) (hb _ _ _ _ ?_)
  refine wpAny_with_toks (n := 1) h0 (wpAny_newFunctionEnv_cells S.kind hkind fun env he s1 x l1 => ?_)
  subst he
  refine ⟨lim.keeps x.toInCall.keep, codeAny_func ?_⟩
  obtain ⟨t, ht, hq⟩ := hbody A outer s H vs Q E (hr.deeper _) hsp
  have I : Inv (cxOf CX P w K mg base N qual scope f cdv A outer s H E) [] (start N vs) H s1 := inv_start S hr.hd e0 hl r x
  refine wpAny_mono (ht [] s1 (start N vs) H _ l1 I hq) (fun fl s' hs => ?_) fun e s' hs => hs
  have fin : ∀ {σ' : St} {H' : Hp} {v : V} {u : Value}, Inv (cxOf CX P w K mg base N qual scope f cdv A outer s H E) [] σ' H' s' → RelV v u → Q v H' → CE outer P w H s Q u s' :=
    fun {σ' H' v u} J rv q => ⟨v, H', J.os, J.bare, J.base, J.hok, rv, q⟩
  cases fl with
  | ret u =>
    obtain ⟨v, σ', H', J, rv, q⟩ := hs
    exact fin J rv q
  | next =>
    obtain ⟨σ', H', J, q⟩ := hs
    exact fin (v := V.non) (u := Value.none) J rfl q
  | brk =>
    obtain ⟨_, _, _, q⟩ := hs
    exact False.elim q
  | cont =>
    obtain ⟨_, _, _, q⟩ := hs
    exact False.elim q
section
variable {P : Program} {w : World} {K : PySem.W.Frag} {mg : Str → Option Value} {base : Heap} {x qual : Str} {st : Stmt} {f : Addr} {fd : FuncData} {N ps : List Str} {k : Nat} {sp : Sp}
theorem Fun.okXT (F : Fun K x qual st f fd) (S : FnScope N ps (defScope st)) (len : ∀ vs H Q E, sp vs H Q E → vs.length = ps.length)
    (hbody : ∀ (cdv : Value) (A : Around) (outer : List Env) (s : Shared) (H : Hp) (vs : List V) (Q : VK) (E : XK), LvR (cxOf (CXE P w) P w K mg base N qual (defScope st) f cdv A outer s H E) (fun _ => E) → Room k (A.deeper (envOfC qual (defScope st) s.heap.objs.size f cdv)) → sp vs H Q E →
      ∃ t, PSst (cxOf (CXE P w) P w K mg base N qual (defScope st) f cdv A outer s H E) (defBody st) t ∧ t { nx := fun _ H' => Q .non H', rt := Q } (start N vs) H) : FnOkT P w K mg base (CXE P w) (k + 1) f fd ps sp := by
  obtain ⟨oc, od, kV, doc, pm, an, cdv, ct, osl, rfl, lk, hcd⟩ := F.ex
  exact fn_ofT lk hcd S len fun A outer s H vs Q E hr hsp => hbody cdv A outer s H vs Q E lv_def hr hsp
theorem FunD.okXT (F : FunD K x qual st f fd) (S : FnScope N ps (defScope st)) (len : ∀ vs H Q E, sp vs H Q E → vs.length = ps.length)
    (hbody : ∀ (cdv : Value) (A : Around) (outer : List Env) (s : Shared) (H : Hp) (vs : List V) (Q : VK) (E : XK), LvR (cxOf (CXE P w) P w K mg base N qual (defScope st) f cdv A outer s H E) (fun _ => E) → Room k (A.deeper (envOfC qual (defScope st) s.heap.objs.size f cdv)) → sp vs H Q E →
      ∃ t, PSst (cxOf (CXE P w) P w K mg base N qual (defScope st) f cdv A outer s H E) (defBody st) t ∧ t { nx := fun _ H' => Q .non H', rt := Q } (start N vs) H) : FnOkT P w K mg base (CXE P w) (k + 1) f fd ps sp := by
  obtain ⟨dV, oc, od, kV, doc, pm, an, cdv, ct, osl, rfl, lk, hcd⟩ := F.ex
  exact fn_ofT lk hcd S len fun A outer s H vs Q E hr hsp => hbody cdv A outer s H vs Q E lv_def hr hsp
end
section
variable {X : Cx} {Ek : St → XK} {k : Nat} {f : Addr} {fd : FuncData} {ps ks : List Str} {sp : Sp} {x : Str} {p pos : Pos} {e : Expr} {es : List Expr} {kws : List Keyword} {t tk : TA} {g : List Value → List Value → List Value} {gV : List V → List V → List V} {dvs : List V} {ds : List Value}
end
section
variable {X : Cx} {body suite : List Stmt} {b₀ : Stmt} {n xn : Str} {i : Nat} {C : Addr} {tb : (St → XK) → TS} {ts : TS} {np hpos pos : Pos}
end
end L2
namespace L2
open PySem PySem.Spec PyProof.Rows
section
variable {X : Cx}
end
end L2

/-! ## amounts with places, as texts -/
namespace L2
open PySem PySem.NumText
/-- the figures, padded with noughts ahead, are those ahead of the point and those behind it -/
theorem zf_split : ∀ (p m : Nat), zf (dg m) (p + 1) = dg (m / 10 ^ p) ++ fig p (m : Int)
  | 0, m => by
    rw [Nat.pow_zero, Nat.div_one]
    unfold zf
    have := dg_pos m
    rw [show 0 + 1 - (dg m).length = 0 by omega]
    show dg m = dg m ++ []
    rw [List.append_nil]
  | p + 1, m => by
    rw [fig_snoc]
    have e : ((m : Int) / 10) = ((m / 10 : Nat) : Int) := by omega
    have e2 : ((m : Int) % 10).toNat = m % 10 := by omega
    have e3 : m / 10 ^ (p + 1) = m / 10 / 10 ^ p := by rw [Nat.pow_succ, Nat.mul_comm, Nat.div_div_eq_div_mul]
    rw [e, e2, e3, ← List.append_assoc, ← zf_split p (m / 10)]
    by_cases c : m < 10
    · rw [dg_lt c, show m / 10 = 0 by omega, show m % 10 = m by omega, dg_lt (show 0 < 10 by decide)]
      unfold zf
      rw [List.length_singleton, List.length_singleton, Nat.add_sub_cancel, Nat.add_sub_cancel, List.replicate_succ']
    · rw [dg_ge (n := m) (by omega)]
      unfold zf
      rw [List.length_append, List.length_singleton, ← List.append_assoc]
      congr 3
      omega
/-- the text of the amount n with p places -/
def atxt (n : Int) (p : Nat) : List Nat :=
  (if n < 0 then [45] else []) ++ (dg (n.natAbs / 10 ^ p) ++ (if p = 0 then [] else 46 :: fig p (n.natAbs : Int)))
/-- how many figures it has -/
def acnt (n : Int) (p : Nat) : Nat := (dg (n.natAbs / 10 ^ p)).length + p
theorem dg_len : ∀ (k n : Nat), 0 < k → n < 10 ^ k → (dg n).length ≤ k
  | 0, _, h, _ => absurd h (by decide)
  | k + 1, n, _, h => by
    by_cases c : n < 10
    · rw [dg_lt c, List.length_singleton]; omega
    · rw [dg_ge (by omega), List.length_append, List.length_singleton]
      have k0 : 0 < k := by
        rcases k with _ | k
        · simp at h; omega
        · omega
      have := dg_len k (n / 10) k0 (by rw [Nat.pow_succ] at h; omega)
      omega
theorem strike_digits {cs : List Nat} (h : AllDigits cs) (c : Nat) (hc : c < 48) : cs.filter (· != c) = cs := by
  rw [List.filter_eq_self]
  intro a ha
  have := h a ha
  simp
  omega
theorem atxt_strike (n : Int) (p : Nat) : ((atxt n p).filter (· != 45)).filter (· != 46) = zf (dg n.natAbs) (p + 1) := by
  rw [zf_split]
  have d1 := dg_digits (n.natAbs / 10 ^ p)
  have d2 := fig_digits p (n.natAbs : Int)
  unfold atxt
  rw [List.filter_append, List.filter_append, List.filter_append, List.filter_append]
  rw [strike_digits d1 45 (by decide), strike_digits d1 46 (by decide)]
  have e1 : (List.filter (· != 46) (List.filter (· != 45) (if n < 0 then [45] else []))) = [] := by split <;> rfl
  rw [e1, List.nil_append]
  congr 1
  by_cases z : p = 0
  · subst z
    rfl
  · rw [if_neg z, List.filter_cons, if_pos (by decide), List.filter_cons, if_neg (by decide), strike_digits d2 45 (by decide), strike_digits d2 46 (by decide)]
theorem atxt_head (n : Int) (p : Nat) : (atxt n p).head? = some 45 ↔ n < 0 := by
  unfold atxt
  by_cases h : n < 0
  · rw [if_pos h]
    simp [h]
  · rw [if_neg h, List.nil_append]
    have d1 := dg_digits (n.natAbs / 10 ^ p)
    cases e : dg (n.natAbs / 10 ^ p) with
    | nil => have := dg_pos (n.natAbs / 10 ^ p); rw [e] at this; cases this
    | cons c r =>
      rw [e] at d1
      have := d1 c List.mem_cons_self
      simp only [List.cons_append, List.head?_cons, Option.some.injEq]
      constructor
      · intro z; omega
      · intro z; exact absurd z h
theorem dg_val (n : Nat) : digitsVal (dg n) = n := by
  induction n using Nat.strongRecOn with
  | _ n ih =>
    by_cases h : n < 10
    · rw [dg_lt h]
      have := digitsVal_snoc [] (48 + n)
      simp at this
      rw [this]
      simp [digitsVal]
    · rw [dg_ge (by omega), digitsVal_snoc, ih (n / 10) (by omega)]
      omega
theorem zf_val (m : Nat) : ∀ k, digitsVal (zf (dg m) (k + 1)) = m := by
  intro k
  induction k generalizing m with
  | zero => rw [zf_split, Nat.pow_zero, Nat.div_one]; show digitsVal (dg m ++ []) = m; rw [List.append_nil, dg_val]
  | succ k ih =>
    rw [zf_split, fig_snoc]
    have e : ((m : Int) / 10) = ((m / 10 : Nat) : Int) := by omega
    have e2 : ((m : Int) % 10).toNat = m % 10 := by omega
    have e3 : m / 10 ^ (k + 1) = m / 10 / 10 ^ k := by rw [Nat.pow_succ, Nat.mul_comm, Nat.div_div_eq_div_mul]
    rw [e, e2, e3, ← List.append_assoc, ← zf_split k (m / 10), digitsVal_snoc, ih (m / 10)]
    omega
/-- a text that is written as an amount with p places, of at most sixty figures -/
def Written (cs : List Nat) (p : Nat) (n : Int) : Prop := cs = atxt n p ∧ acnt n p ≤ 60
theorem atxt_inj {n n' : Int} {p : Nat} (h : atxt n p = atxt n' p) : n = n' := by
  have h1 := congrArg (fun cs => digitsVal ((cs.filter (· != 45)).filter (· != 46))) h
  simp only [atxt_strike, zf_val] at h1
  have h2 := atxt_head n p
  have h3 := atxt_head n' p
  rw [h, h3] at h2
  omega
theorem acnt_le {n : Int} {p : Nat} (hn : n.natAbs < 10 ^ 60) (hp : p ≤ 6) : acnt n p ≤ 60 := by
  unfold acnt
  have h : n.natAbs / 10 ^ p < 10 ^ (60 - p) := by
    refine Nat.div_lt_of_lt_mul ?_
    rw [← Nat.pow_add, show p + (60 - p) = 60 by omega]
    exact hn
  have := dg_len (60 - p) _ (by omega) h
  omega
theorem Written.one {cs : List Nat} {p : Nat} {n n' : Int} (h : Written cs p n) (g : Written cs p n') : n = n' := atxt_inj (h.1.symm.trans g.1)
theorem written {n : Int} {p : Nat} (hn : n.natAbs < 10 ^ 60) (hp : p ≤ 6) : Written (atxt n p) p n := ⟨rfl, acnt_le hn hp⟩
/-- how a text behind its sign is read: the point's place, the number, how many figures -/
def Sh (r : List Nat) (pt : Option Nat) (num fg : Nat) : Prop :=
  match pt with
  | none => AllDigits r ∧ num = digitsVal r ∧ fg = r.length
  | some a => ∃ A B, r = A ++ 46 :: B ∧ A.length = a ∧ AllDigits A ∧ AllDigits B ∧ num = digitsVal (A ++ B) ∧ fg = A.length + B.length
theorem Sh.nil : Sh [] none 0 0 := ⟨(fun c h => nomatch h), rfl, rfl⟩
theorem ite_of {c A B : Prop} [Decidable c] (h1 : c → A) (h2 : ¬ c → B) : if c then A else B := by
  by_cases h : c
  · rw [if_pos h]; exact h1 h
  · rw [if_neg h]; exact h2 h
end L2

namespace L2
open PySem PySem.Spec PyProof.Rows

/-! ### lists of pairs as tables -/
section
variable {κ : Type} [DecidableEq κ]
def valV (kvs : List (κ × V)) (k : κ) : Option V := (kvs.find? fun kv => decide (kv.1 = k)).map (·.2)
/-- in its place, or at the end -/
def putK (kvs : List (κ × V)) (k : κ) (v : V) : List (κ × V) :=
  if (kvs.any fun kv => decide (kv.1 = k)) = true then kvs.map (fun kv => if kv.1 = k then (kv.1, v) else kv) else kvs ++ [(k, v)]
def dropK (kvs : List (κ × V)) (k : κ) : List (κ × V) := kvs.filter fun kv => decide (kv.1 ≠ k)

theorem valV_pos {p : κ × V} {r : List (κ × V)} {k : κ} (e : p.1 = k) : valV (p :: r) k = some p.2 := by simp [valV, List.find?_cons, e]
theorem valV_neg {p : κ × V} {r : List (κ × V)} {k : κ} (e : ¬ p.1 = k) : valV (p :: r) k = valV r k := by simp [valV, List.find?_cons, e]
theorem valV_any (k : κ) : ∀ kvs : List (κ × V), (kvs.any fun kv => decide (kv.1 = k)) = (valV kvs k).isSome
  | [] => rfl
  | p :: r => by
    rw [List.any_cons]
    by_cases e : p.1 = k
    · simp only [valV_pos e, decide_eq_true e, Bool.true_or, Option.isSome_some]
    · rw [valV_neg e, decide_eq_false e, Bool.false_or]; exact valV_any k r
theorem length_putK (kvs : List (κ × V)) (k : κ) (v : V) : (putK kvs k v).length ≤ kvs.length + 1 := by
  unfold putK
  split
  · rw [List.length_map]; omega
  · rw [List.length_append, List.length_cons, List.length_nil]; omega
theorem putK_new {kvs : List (κ × V)} {k : κ} (v : V) (h : valV kvs k = none) : putK kvs k v = kvs ++ [(k, v)] := by
  unfold putK
  rw [valV_any, h]
  exact if_neg (by decide)

theorem RelO.isSome_eq {o : Option V} {u : Option Value} (r : RelO o u) : o.isSome = u.isSome := by
  cases o with
  | none => cases u with
    | none => rfl
    | some _ => exact (show False from r).elim
  | some _ => cases u with
    | none => exact (show False from r).elim
    | some _ => rfl
theorem RelO.getD {o : Option V} {u : Option Value} {d : V} {d' : Value} (r : RelO o u) (rd : RelV d d') : RelV (o.getD d) (u.getD d') := by
  cases o with
  | none => cases u with
    | none => exact rd
    | some _ => exact (show False from r).elim
  | some _ => cases u with
    | none => exact (show False from r).elim
    | some _ => exact r

/-- raw tables of the same keys -/
theorem KV.val {kvs : List (κ × V)} {vs : List (κ × Value)} (r : KV kvs vs) (k : κ) : RelO (valV kvs k) (valueAt vs k) := by
  unfold KV at r
  induction r with
  | nil => exact True.intro
  | @cons p q ps qs h t ih =>
    obtain ⟨h1, h2⟩ := h
    by_cases e : p.1 = k
    · have e' : q.1 = k := h1.symm.trans e
      have b : valueAt (q :: qs) k = some q.2 := by simp [valueAt, List.find?_cons, e']
      rw [valV_pos e, b]; exact h2
    · have e' : ¬ q.1 = k := fun z => e (h1.trans z)
      have b : valueAt (q :: qs) k = valueAt qs k := by simp [valueAt, List.find?_cons, e']
      rw [valV_neg e, b]; exact ih
theorem KV.any {kvs : List (κ × V)} {vs : List (κ × Value)} (r : KV kvs vs) (k : κ) : (kvs.any fun kv => decide (kv.1 = k)) = vs.any fun kv => decide (kv.1 = k) := by
  unfold KV at r
  induction r with
  | nil => rfl
  | cons h t ih => rw [List.any_cons, List.any_cons, ih, h.1]
theorem KV.repl {kvs : List (κ × V)} {vs : List (κ × Value)} (r : KV kvs vs) (k : κ) {y : V} {u : Value} (ry : RelV y u) :
    KV (kvs.map fun kv => if kv.1 = k then (kv.1, y) else kv) (vs.map fun kv => if kv.1 = k then (kv.1, u) else kv) := by
  unfold KV at r ⊢
  induction r with
  | nil => exact .nil
  | @cons p q ps qs h t ih =>
    rw [List.map_cons, List.map_cons]
    refine .cons ?_ ih
    obtain ⟨h1, h2⟩ := h
    by_cases e : p.1 = k
    · rw [if_pos e, if_pos (h1.symm.trans e)]; exact ⟨h1, ry⟩
    · rw [if_neg e, if_neg (fun z => e (h1.trans z))]; exact ⟨h1, h2⟩
theorem KV.put {kvs : List (κ × V)} {vs : List (κ × Value)} (r : KV kvs vs) (k : κ) {y : V} {u : Value} (ry : RelV y u) : KV (putK kvs k y) (stored vs k u) := by
  unfold putK stored
  rw [r.any k]
  by_cases e : (vs.any fun kv => decide (kv.1 = k)) = true
  · rw [if_pos e, if_pos e]; exact r.repl k ry
  · rw [if_neg e, if_neg e]; exact Paired.snoc r ⟨rfl, ry⟩
theorem KV.drop {kvs : List (κ × V)} {vs : List (κ × Value)} (r : KV kvs vs) (k : κ) : KV (dropK kvs k) (without vs k) := by
  unfold KV at r ⊢
  unfold dropK without
  induction r with
  | nil => exact .nil
  | @cons p q ps qs h t ih =>
    obtain ⟨h1, h2⟩ := h
    rw [List.filter_cons, List.filter_cons]
    by_cases e : p.1 = k
    · have a : ¬ decide (p.1 ≠ k) = true := by simp [e]
      have b : ¬ decide (q.1 ≠ k) = true := by simp [h1.symm.trans e]
      rw [if_neg a, if_neg b]; exact ih
    · have e' : ¬ q.1 = k := fun z => e (h1.trans z)
      have a : decide (p.1 ≠ k) = true := by simp [e]
      have b : decide (q.1 ≠ k) = true := by simp [e']
      rw [if_pos a, if_pos b]; exact .cons ⟨h1, h2⟩ ih
theorem KV.length {kvs : List (κ × V)} {vs : List (κ × Value)} (r : KV kvs vs) : kvs.length = vs.length := Paired.length r
theorem dropK_le (kvs : List (κ × V)) (k : κ) : (dropK kvs k).length ≤ kvs.length := List.length_filter_le _ _
end


/-! ### a tracked dict, its keys ints and texts or tuples of these -/
theorem kV_is {P : Program} {w : World} {k : Key} {u : Value} (r : RelV (kV k) u) : (mixKind P w).is k u = true := by
  cases k with
  | inl i => obtain ⟨t, e⟩ := (show ∃ t, u = Value.int i t from r); subst e; exact mixKind_int P w i t
  | inr x => obtain ⟨t, e⟩ := (show ∃ t, u = Value.str x t from r); subst e; exact mixKind_str P w x t
theorem items_are {P : Program} {w : World} : ∀ {ks : List Key} {us : List Value}, Vals (ks.map kV) us → ItemsAre (mixKind P w) ks us
  | [], _, r => by rw [List.map_nil] at r; cases r; exact .nil
  | k :: ks, _, r => by
    rw [List.map_cons] at r
    cases r with
    | cons h t => exact .cons (kV_is h) (items_are t)

/-- raw entries of a dict with tuple keys -/
abbrev KT (H : Hp) : List (List Key × V) → List (List Key × Addr × Value) → Prop := Paired fun p q => p.1 = q.1 ∧ H q.2.1 = some (.tup (p.1.map kV)) ∧ RelV p.2 q.2.2
theorem KT.val {H : Hp} {kvs : List (List Key × V)} {xs : List (List Key × Addr × Value)} (r : KT H kvs xs) (k : List Key) : RelO (valV kvs k) ((atKey xs k).map (·.2)) := by
  induction r with
  | nil => exact True.intro
  | @cons p q ps qs h t ih =>
    obtain ⟨h1, _, h2⟩ := h
    by_cases e : p.1 = k
    · have e' : q.1 = k := h1.symm.trans e
      have b : atKey (q :: qs) k = some q.2 := by simp [atKey, List.find?_cons, e']
      rw [valV_pos e, b]; exact h2
    · have e' : ¬ q.1 = k := fun z => e (h1.trans z)
      have b : atKey (q :: qs) k = atKey qs k := by simp [atKey, List.find?_cons, e']
      rw [valV_neg e, b]; exact ih
theorem KT.repl {H : Hp} {kvs : List (List Key × V)} {xs : List (List Key × Addr × Value)} (r : KT H kvs xs) (k : List Key) {y : V} {u : Value} (ry : RelV y u) :
    KT H (kvs.map fun kv => if kv.1 = k then (kv.1, y) else kv) (xs.map (putAt k u)) := by
  induction r with
  | nil => exact .nil
  | @cons p q ps qs h t ih =>
    rw [List.map_cons, List.map_cons]
    refine .cons ?_ ih
    obtain ⟨h1, h2, h3⟩ := h
    unfold putAt
    by_cases e : p.1 = k
    · rw [if_pos e, if_pos (h1.symm.trans e)]; exact ⟨h1, h2, ry⟩
    · rw [if_neg e, if_neg (fun z => e (h1.trans z))]; exact ⟨h1, h2, h3⟩
theorem KT.put {H : Hp} {kvs : List (List Key × V)} {xs : List (List Key × Addr × Value)} (r : KT H kvs xs) (k : List Key) {b : Addr} {y : V} {u : Value} (hb : H b = some (.tup (k.map kV))) (ry : RelV y u) :
    KT H (putK kvs k y) (storedH xs k b u) := by
  have e : (kvs.any fun kv => decide (kv.1 = k)) = (atKey xs k).isSome := by
    rw [valV_any, (r.val k).isSome_eq, Option.isSome_map]
  unfold putK storedH
  rw [e]
  by_cases q : (atKey xs k).isSome = true
  · rw [if_pos q, if_pos q]; exact r.repl k ry
  · rw [if_neg q, if_neg q]; exact Paired.snoc r ⟨rfl, hb, ry⟩
theorem KT.keeps {H H' : Hp} {kvs : List (List Key × V)} {xs : List (List Key × Addr × Value)} (r : KT H kvs xs) (ht : ∀ b ys, H b = some (.tup ys) → H' b = some (.tup ys)) : KT H' kvs xs :=
  Paired.mapP r fun _ _ z => ⟨z.1, ht _ _ z.2.1, z.2.2⟩

section
variable {P : Program} {w : World} {H : Hp} {h : Heap} {a : Addr}
theorem rd_of {u : HO} (ok : HOk P w H h) (e : Rd H a u) : ObjOk P w H h a u := e.ok ok
theorem dk_rd {kvs : List (Key × V)} (ok : HOk P w H h) (e : Rd H a (.dK kvs)) : kvs.length ≤ sizeLine ∧ (a == sysModules) = false ∧ ∃ vs, KV kvs vs ∧ h.DictOf (mixKind P w) a vs :=
  show ObjOk P w H h a (.dK kvs) from rd_of ok e
theorem dk_of {kvs : List (Key × V)} (ok : HOk P w H h) (e : H a = some (.dK kvs)) : kvs.length ≤ sizeLine ∧ (a == sysModules) = false ∧ ∃ vs, KV kvs vs ∧ h.DictOf (mixKind P w) a vs := dk_rd ok (.inl e)
/-- a tracked tuple of ints and texts is a key -/
theorem key_of {ks : List Key} (ok : HOk P w H h) (e : H a = some (.tup (ks.map kV))) : (tupleKind (mixKind P w)).is h ks a := by
  obtain ⟨_, its, r, o, h1, h2, n, h3⟩ := (show ObjOk P w H h a (.tup (ks.map kV)) from ok a _ e)
  exact ⟨o, its.toArray, n, h1, h2, h3, by simpa using items_are r⟩
theorem dt_rd {kvs : List (List Key × V)} (ok : HOk P w H h) (e : Rd H a (.dT kvs)) : kvs.length ≤ sizeLine ∧ (a == sysModules) = false ∧
    ∃ xs, KT H kvs xs ∧ h.DictOfH (tupleKind (mixKind P w)) a xs := by
  obtain ⟨z, y, xs, r, o, es, ep, h1, h2, h3, h4, h5⟩ := (show ObjOk P w H h a (.dT kvs) from rd_of ok e)
  refine ⟨z, y, xs, r, o, es, ep, h1, h2, h3, h4, fun x hx => ?_, h5⟩
  have all : ∀ {l : List (List Key × V)} {m : List (List Key × Addr × Value)}, KT H l m → ∀ x ∈ m, (tupleKind (mixKind P w)).is h x.1 x.2.1 := by
    intro l m q
    induction q with
    | nil => intro x hx; exact nomatch hx
    | @cons p q ps qs hq t ih =>
      intro x hx
      rcases List.mem_cons.mp hx with e | hx
      · subst e
        exact key_of ok (by rw [← hq.1]; exact hq.2.1)
      · exact ih x hx
  exact all r x hx
theorem dt_of {kvs : List (List Key × V)} (ok : HOk P w H h) (e : H a = some (.dT kvs)) : kvs.length ≤ sizeLine ∧ (a == sysModules) = false ∧
    ∃ xs, KT H kvs xs ∧ h.DictOfH (tupleKind (mixKind P w)) a xs := dt_rd ok (.inl e)
end

/-- what the dict at a holds at the key y -/
def DGet (H : Hp) (a : Addr) (y : V) (r : Option V) : Prop :=
  (∃ kvs k, Rd H a (.dK kvs) ∧ y = kV k ∧ r = valV kvs k) ∨ ∃ kvs k b, Rd H a (.dT kvs) ∧ y = .ref b ∧ H b = some (.tup (k.map kV)) ∧ r = valV kvs k
/-- the heap behind a[y] = v -/
def DPut (H : Hp) (a : Addr) (y v : V) (H' : Hp) : Prop :=
  (∃ kvs k, H a = some (.dK kvs) ∧ y = kV k ∧ kvs.length < sizeLine ∧ H' = upd H a (.dK (putK kvs k v))) ∨
  ∃ kvs k b, H a = some (.dT kvs) ∧ y = .ref b ∧ H b = some (.tup (k.map kV)) ∧ kvs.length < sizeLine ∧ H' = upd H a (.dT (putK kvs k v))
theorem DGet.k {H : Hp} {a : Addr} {kvs : List (Key × V)} {k : Key} (e : H a = some (.dK kvs)) : DGet H a (kV k) (valV kvs k) := .inl ⟨kvs, k, .inl e, rfl, rfl⟩
theorem DGet.t {H : Hp} {a b : Addr} {kvs : List (List Key × V)} {k : List Key} (e : H a = some (.dT kvs)) (eb : H b = some (.tup (k.map kV))) : DGet H a (.ref b) (valV kvs k) := .inr ⟨kvs, k, b, .inl e, rfl, eb, rfl⟩
theorem DPut.k {H : Hp} {a : Addr} {kvs : List (Key × V)} {k : Key} {v : V} (e : H a = some (.dK kvs)) (hl : kvs.length < sizeLine) : DPut H a (kV k) v (upd H a (.dK (putK kvs k v))) := .inl ⟨kvs, k, e, rfl, hl, rfl⟩
theorem DPut.t {H : Hp} {a b : Addr} {kvs : List (List Key × V)} {k : List Key} {v : V} (e : H a = some (.dT kvs)) (eb : H b = some (.tup (k.map kV))) (hl : kvs.length < sizeLine) :
    DPut H a (.ref b) v (upd H a (.dT (putK kvs k v))) := .inr ⟨kvs, k, b, e, rfl, eb, hl, rfl⟩


section
variable {X : Cx} {pins : List (Addr × Obj)} {σ : St} {H : Hp} {s : Shared} {a : Addr} {y v : V} {u r : Value} {o : Option V} {A : Around} {E : Value → Shared → Prop}

theorem Inv.big (I : Inv X pins σ H s) : sysModules < s.heap.objs.size := by
  have h : mainGlobals < s.heap.objs.size := (I.mod.glob.keeps I.bk).lt
  exact Nat.lt_trans (by decide) h

/-- y in d -/
theorem d_in {Q : Value → Shared → Prop} (hu : A.units + 1 < cLine) (I : Inv X pins σ H s) (g : DGet H a y o) (ry : RelV y u) (h : ∀ s', Inv X pins σ H s' → Q (.bool o.isSome) s') :
    wpAny (model X.prog X.w) A (compareOp .In u (.ref a)) Q E s := by
  rcases g with ⟨kvs, k, e, ey, l⟩ | ⟨kvs, k, b, e, ey, eb, l⟩
  · subst ey
    obtain ⟨z, hd, vs, rel, dd⟩ := dk_rd I.hok e
    refine wpAny_in_of (kV_is ry) hd dd.mapOf ?_
    rw [← (rel.val k).isSome_eq, ← l]
    exact h _ (I.tok _)
  · subst ey
    cases (show u = Value.ref b from ry)
    obtain ⟨z, hd, xs, rel, dd⟩ := dt_rd I.hok e
    refine wpAny_in_heap (tupleKind_room_in1 hu) (key_of I.hok eb) hd dd ?_
    have q := (rel.val k).isSome_eq
    rw [Option.isSome_map] at q
    rw [← q, ← l]
    exact h _ (I.tok _)
/-- a dict's object is replaced -/
theorem d_write {h' : Heap} {t' : Nat} {ob : HO} (I : Inv X pins σ H s) (mu : Mut (H a)) (hs : Heap.SameBut a s.heap h') (he : ∃ q, h'.get? a = some q) (new : ObjOk X.prog X.w (upd H a ob) h' a ob) :
    Inv X pins σ (upd H a ob) { s with heap := h', toks := t' } :=
  I.write (x := a) (e := a) mu (.inl rfl) (fun b q hb z => (hs.2 b hb).trans z) he new
theorem dk_new {P : Program} {w : World} {H' : Hp} {h' : Heap} {kvs : List (Key × V)} {vs : List (Key × Value)} (z : kvs.length ≤ sizeLine) (hd : (a == sysModules) = false) (rel : KV kvs vs) (dd : h'.DictOf (mixKind P w) a vs) :
    ObjOk P w H' h' a (.dK kvs) := ⟨z, hd, vs, rel, dd⟩
/-- d[y] = v -/
theorem d_setItem {H' : Hp} {Q : Unit → Shared → Prop} (hu : A.units + 1 < cLine) (I : Inv X pins σ H s) (g : DPut H a y v H') (ry : RelV y u) (rv : RelV v r) (h : ∀ s', Inv X pins σ H' s' → Q () s') :
    wpAny (model X.prog X.w) A (setItem (.ref a) u r) Q E s := by
  rcases g with ⟨kvs, k, e, ey, l, eH⟩ | ⟨kvs, k, b, e, ey, eb, l, eH⟩
  · subst ey eH
    obtain ⟨z, hd, vs, rel, dd⟩ := dk_of I.hok e
    have hz : vs.length ≤ sizeLine := by rw [← rel.length]; exact z
    have hl : (putK kvs k v).length ≤ sizeLine := by have := length_putK kvs k v; omega
    refine wpAny_setItem_pairs (hsz := hz) (kV_is ry) dd fun h' dd' hs => h _ ?_
    have he : ∃ q, h'.get? a = some q := let ⟨q, _, _, hq, _⟩ := dd'; ⟨q, hq⟩
    exact d_write I (by rw [e]; exact True.intro) hs he (dk_new hl hd (rel.put k rv) dd')
  · subst ey eH
    cases (show u = Value.ref b from ry)
    obtain ⟨z, hd, xs, rel, dd⟩ := dt_of I.hok e
    have hz : xs.length ≤ sizeLine := by rw [← Paired.length rel]; exact z
    have hl : (putK kvs k v).length ≤ sizeLine := by have := length_putK kvs k v; omega
    refine wpAny_setItem_heap (hsz := hz) (tupleKind_room_in1 hu) (key_of I.hok eb) dd fun h' dd' hs => h _ ?_
    obtain ⟨q, es, ep, hq, h2, h3, h4, _, h5⟩ := dd'
    refine d_write I (by rw [e]; exact True.intro) hs ⟨q, hq⟩ ⟨hl, hd, _, (rel.put k eb rv).keeps fun c ys ec => ?_, q, es, ep, hq, h2, h3, h4, h5⟩
    rw [upd_ne (ne_of ec e (fun z => nomatch z))]
    exact ec
end

section
variable {X : Cx} {pins : List (Addr × Obj)} {σ : St} {H : Hp} {s : Shared} {a : Addr} {kvs : List (Key × V)} {k : Key} {u : Value} {A : Around} {E : Value → Shared → Prop}
/-- d.pop(k[, x]), there -/
theorem d_pop {v : V} {more : List Value} {Q : Value → Shared → Prop} (I : Inv X pins σ H s) (e : H a = some (.dK kvs)) (ry : RelV (kV k) u) (l : valV kvs k = some v) (hm : more = [] ∨ ∃ x, more = [x])
    (h : ∀ w' s', Inv X pins σ (upd H a (.dK (dropK kvs k))) s' → RelV v w' → Q w' s') : wpAny (model X.prog X.w) A (call (.builtin "dict.pop") (.ref a :: u :: more)) Q E s := by
  obtain ⟨z, hd, vs, rel, dd⟩ := dk_of I.hok e
  obtain ⟨w', hw, rw'⟩ := RelO.some_of (v := v) (o := valueAt vs k) (by rw [← l]; exact rel.val k)
  have hp : (keyPart u).isSome = true := by
    cases k with
    | inl i => obtain ⟨t, q⟩ := (show ∃ t, u = Value.int i t from ry); subst q; rfl
    | inr x => obtain ⟨t, q⟩ := (show ∃ t, u = Value.str x t from ry); subst q; rfl
  have ha : argsOk "dict.pop" ⟨.ref a :: u :: more, []⟩ := by
    rcases hm with q | ⟨x, q⟩
    · subst q; exact PySem.F.args_dict_pop_2 _ _
    · subst q; exact PySem.F.args_dict_pop_3 _ _ _
  refine call_meetsIn PySem.F.slot_dict_pop dd.typeIs PySem.F.entry_dict_pop ha (meets_dict_pop_there (mixKind X.prog X.w) a (kV_is ry) more hm hp)
    ⟨vs, w', dd, by rw [← rel.length]; exact z, hw, fun h' dd' hs => h w' _ ?_ rw'⟩
  have he : ∃ q, h'.get? a = some q := let ⟨q, _, _, hq, _⟩ := dd'; ⟨q, hq⟩
  exact d_write I (by rw [e]; exact True.intro) hs he (dk_new (Nat.le_trans (dropK_le kvs k) z) hd (rel.drop k) dd')
end


/-! ### readings and rules -/
/-- d[y] -/
def tDGet (td ty : TE) : TE := fun σ H Q => td σ H fun x H1 => ty σ H1 fun y H2 => ∃ a v, x = .ref a ∧ DGet H2 a y (some v) ∧ Q v H2
/-- y in d, y not in d -/
def tDIn (ty td : TE) : TE := fun σ H Q => ty σ H fun y H1 => td σ H1 fun x H2 => ∃ a o, x = .ref a ∧ DGet H2 a y o ∧ Q (.bl o.isSome) H2
def tDNotIn (ty td : TE) : TE := fun σ H Q => ty σ H fun y H1 => td σ H1 fun x H2 => ∃ a o, x = .ref a ∧ DGet H2 a y o ∧ Q (.bl (!o.isSome)) H2
/-- d[y] = v -/
def sDPut (td ty tv : TE) : TS := fun D σ H => tv σ H fun v H1 => td σ H1 fun x H2 => ty σ H2 fun y H3 => ∃ a H4, x = .ref a ∧ DPut H3 a y v H4 ∧ D.nx σ H4
section
variable {X : Cx} {o i e value : Expr} {pos pos' tpos : Pos} {td ty tv : TE}
theorem pc_din (hu : X.A.units + 1 < cLine) (hi : PE X i ty) (ho : PE X o td) : PC X .In i o (tDIn ty td) := by
  intro pins s σ H Q I h
  refine thn (hi pins s σ H _ I h) fun iv s1 ⟨y, H1, I1, ry, q1⟩ => thn (ho pins s1 σ H1 _ I1 q1) fun u s2 ⟨x, H2, I2, rx, a, ov, ex, g, q2⟩ => ?_
  subst ex
  obtain rfl : u = Value.ref a := rx
  exact d_in hu I2 g ry fun s3 I3 => ⟨.bl ov.isSome, H2, I3, rfl, q2⟩
theorem ps_dput (hu : X.A.units + 1 < cLine) (ho : PE X o td) (hi : PE X i ty) (hv : PE X value tv) (hs : swapsWith value (some (.Subscript o i pos')) pos.line X.env = pure false) :
    PS X (.Assign [.Subscript o i pos'] value pos) (sDPut td ty tv) := by
  intro pins s σ H D I h
  refine wpAny_Assign_Subscript (thn (hv pins s σ H _ I h) fun r s1 ⟨v, H1, I1, rv, q1⟩ => thn (ho pins s1 σ H1 _ I1 q1) fun u s2 ⟨x, H2, I2, rx, q2⟩ => thn (hi pins s2 σ H2 _ I2 q2) fun iv s3 ⟨y, H3, I3, ry, a, H4, ex, g, q3⟩ => ?_) hs
  subst ex
  obtain rfl : u = Value.ref a := rx
  exact d_setItem hu I3 g ry rv fun s4 I4 => ⟨σ, H4, I4, q3⟩
end


/-! ### displays -/
theorem dk_empty {P : Program} {w : World} {H : Hp} (h : Heap) (hb : sysModules < h.objs.size) : ObjOk P w H (h.push { cls := .type "dict", data := .dict #[] }) h.objs.size (.dK []) :=
  ⟨Nat.zero_le _, beq_eq_false_iff_ne.mpr (Ne.symm (Nat.ne_of_lt hb)), [], .nil, Heap.DictOf.new h⟩
/-- {}, to be a dict of the kind that is wanted -/
def tDNewK : TE := fun _ H Q => ∀ p, H p = none → Q (.ref p) (upd H p (.dK []))
section
variable {X : Cx} {pos : Pos}
theorem pe_dnewK : PE X (.Dict [] [] pos) tDNewK := fun pins s σ H Q I h =>
  wpAny_Dict_empty ⟨.ref s.heap.objs.size, _, I.laid (a := s.heap.objs.size) (o := .dK []) (t' := s.toks) (fun _ _ q => Heap.get?_push_of_some _ q) (Nat.le_refl _) (dk_empty s.heap I.big), rfl, h _ (I.hok.fresh (Nat.le_refl _))⟩
end

/-! ### methods -/
/-- a method call o.m(e) of a built-in, with one argument: what must be seen of the text -/
structure M1 (X : Cx) (o : Expr) (m : Str) (apos : Pos) (e : Expr) (cpos : Pos) : Prop where
  base : attributeBase o m X.env (eval o X.env) = eval o X.env
  few : ((backTo cpos (starEach [e] X.env)).all (fun x => !x.1) && (backToKw cpos (keywordEach [] X.env)).all (fun x => x.1.isSome)
    && decide (([e] : List Expr).length + ([] : List Keyword).length + (if ([] : List Keyword).isEmpty then 0 else 1) < 30)) = true
  line : (apos.endLine == cpos.line) = true
  trees : backTo cpos (starEach [e] X.env) = [(false, eval e X.env)]
structure M2 (X : Cx) (o : Expr) (m : Str) (apos : Pos) (e f : Expr) (cpos : Pos) : Prop where
  base : attributeBase o m X.env (eval o X.env) = eval o X.env
  few : ((backTo cpos (starEach [e, f] X.env)).all (fun x => !x.1) && (backToKw cpos (keywordEach [] X.env)).all (fun x => x.1.isSome)
    && decide (([e, f] : List Expr).length + ([] : List Keyword).length + (if ([] : List Keyword).isEmpty then 0 else 1) < 30)) = true
  line : (apos.endLine == cpos.line) = true
  trees : backTo cpos (starEach [e, f] X.env) = [(false, eval e X.env), (false, eval f X.env)]

/-- a is a dict, whatever its keys -/
def IsD (H : Hp) (a : Addr) : Prop := (∃ kvs, Rd H a (.dK kvs)) ∨ ∃ kvs, Rd H a (.dT kvs)
theorem isD_at {X : Cx} {pins : List (Addr × Obj)} {σ : St} {H : Hp} {s : Shared} {a : Addr} (I : Inv X pins σ H s) (d : IsD H a) :
    s.TypeIs (.ref a) "dict" ∧ (∀ b, Value.ref a = .ref b → ∃ ob, s.heap.get? b = some ob ∧ ob.dict = none) ∧ (a == sysModules) = false := by
  rcases d with ⟨kvs, e⟩ | ⟨kvs, e⟩
  · obtain ⟨_, hd, vs, _, dd⟩ := dk_rd I.hok e
    refine ⟨dd.typeIs, fun b q => ?_, hd⟩
    cases q
    obtain ⟨ob, _, _, h1, h2, _⟩ := dd
    exact ⟨ob, h1, h2.2.1⟩
  · obtain ⟨_, hd, xs, _, dd⟩ := dt_rd I.hok e
    refine ⟨dd.typeIs, fun b q => ?_, hd⟩
    cases q
    obtain ⟨ob, _, _, h1, h2, _⟩ := dd
    exact ⟨ob, h1, h2.2.1⟩

section
variable {X : Cx} {pins : List (Addr × Obj)} {σ : St} {H : Hp} {s : Shared} {a : Addr} {y d : V} {u r : Value} {o : Option V} {A : Around} {E : Value → Shared → Prop}
end

def tDGet2 (td ty tx : TE) : TE := fun σ H Q => td σ H fun x H1 => ∃ a, x = .ref a ∧ IsD H1 a ∧ ty σ H1 fun y H2 => tx σ H2 fun z H3 => ∃ o, DGet H3 a y o ∧ Q (o.getD z) H3
/-- d.pop(k): there; d.pop(k, x): there or not -/
def tDPop1 (td ty : TE) : TE := fun σ H Q => td σ H fun x H1 => ∃ a, x = .ref a ∧ IsD H1 a ∧ ty σ H1 fun y H2 => ∃ kvs k v, H2 a = some (.dK kvs) ∧ y = kV k ∧ valV kvs k = some v ∧ Q v (upd H2 a (.dK (dropK kvs k)))
section
variable {X : Cx} {o e f : Expr} {apos cpos : Pos} {td ty tx : TE}
theorem pe_dpop1 (ho : PE X o td) (he : PE X e ty) (m : M1 X o "pop" apos e cpos) : PE X (.Call (.Attribute o "pop" apos) [e] [] cpos) (tDPop1 td ty) := by
  intro pins s σ H Q I h
  refine wpAny_Call_method m.base m.few m.line PySem.F.plainAttrs_dict PySem.F.slot_dict_pop PySem.F.type_dict_pop (thn (ho pins s σ H _ I h) fun u s1 ⟨x, H1, I1, rx, a, ex, d, q1⟩ => ?_)
  subst ex
  obtain rfl : u = Value.ref a := rx
  obtain ⟨t1, t2, _⟩ := isD_at I1 d
  refine ⟨t1, t2, ?_⟩
  rw [m.trees]
  refine Calls.callWith_builtin rfl (Calls.evalArgs_plain (Calls.spliced_cons (thn (he pins s1 σ H1 _ I1 q1) fun iv s2 ⟨y, H2, I2, ry, kvs, k, v, ea, ey, l, q2⟩ => Calls.spliced_nil ?_)))
  subst ey
  exact d_pop I2 ea ry l (.inl rfl) fun w' s3 I3 rw' => ⟨v, _, I3, rw', q2⟩
end

end L2

/-! ## dicts of texts that were met -/
namespace L2
open PySem PySem.Spec PyProof.Rows
def tDNewS : TE := fun _ H Q => New H (.dK []) Q
theorem pe_dnewS {X : Cx} {pos : Pos} : PE X (.Dict [] [] pos) tDNewS := fun pins s σ H Q I h => pe_dnewK pins s σ H Q I fun p hp => h.at hp
theorem kit_str_int {K : PySem.W.Frag} : PySem.W.kitOne K (.type "str") (.type "int") = some false := by
  unfold PySem.W.kitOne
  rw [if_neg (by decide)]
  kernel_rfl
/-! ### a whole number or a text; accounts as trees -/
def sv : D → V
  | .int i => .int i
  | .str cs => .str (SL cs)
  | _ => .non
def IsSc (d : D) : Prop := (∃ i, d = .int i) ∨ ∃ cs : List Nat, d = .str cs ∧ cs.length ≤ sizeLine
def isI : D → Bool
  | .int _ => true
  | _ => false
def btw (lo hi : Int) : D → Bool
  | .int i => decide (lo ≤ i) && decide (i ≤ hi)
  | _ => false
def nmOk : D → Bool
  | .str cs => decide (1 ≤ cs.length) && decide (cs.length ≤ 8) && cs.all fun c => decide (97 ≤ c ∧ c ≤ 122)
  | _ => false
def planOk : List D → Bool
  | [n, p, c] => nmOk n && (btw 0 (10 ^ 30 - 1) p && btw 0 400 c)
  | _ => false
def nmOf : List D → List Nat
  | .str cs :: _ => cs
  | _ => []
def plansOk (dss : List (List D)) : Prop := 1 ≤ dss.length ∧ dss.length ≤ 8 ∧ (∀ ds ∈ dss, planOk ds = true) ∧ (dss.map nmOf).Nodup
end L2
namespace L2
open PySem PySem.Spec PyProof.Rows
/-- a comprehension by an invariant of the turn, of what is told, of the heap off the told list -/
theorem comp_by {J : It} {H1 : Hp} {ys : List V} {σ0 : St} {g : TG} {tc : TT} {te : TE} {l : Addr} {Q : VK} (Pv : Nat → List V → Hp → Prop) (L : Lists J H1 ys) (hl : H1 l = none) (hz : ys.length < sizeLine)
    (h0 : ∀ H, Same H1 H → Pv 0 [] H)
    (hs : ∀ i x xs H (K1 : VK) (K0 : Hp → Prop), ys[i]? = some x → Same H1 H → Pv i xs H → H l = some (.lst xs) →
      (∀ v H4, Same H H4 → (∀ H5, (∀ b o, b ≠ l → H4 b = some o → H5 b = some o) → Pv (i + 1) (xs ++ [v]) H5) → K1 v H4) → (∀ H3, Same H H3 → Pv (i + 1) xs H3 → K0 H3) →
      g x σ0 H fun σ2 H2 => Sub σ0 σ2 ∧ tc σ2 H2 fun b H3 => if b = true then te σ2 H3 K1 else K0 H3)
    (hd : ∀ xs H, Same H1 H → Pv ys.length xs H → xs.length ≤ ys.length → H l = some (.lst xs) → Q (.ref l) H) : CompR J σ0 g tc te l Q H1 := by
  refine ⟨fun i m xs H => i ≤ ys.length ∧ m = ys.length - i ∧ Same H1 H ∧ Pv i xs H ∧ xs.length ≤ i ∧ H l = some (.lst xs), ⟨ys.length, Nat.zero_le _, by omega, same_new hl _, h0 _ (same_new hl _), Nat.le_refl _, upd_same⟩, ?_⟩
  rintro i m xs H ⟨hi, rfl, sm, pv, hx, e⟩
  refine ⟨e, Nat.lt_of_le_of_lt hx (by omega), ?_⟩
  by_cases hlt : i < ys.length
  · refine .inr ⟨L.go i H sm hlt, fun x H' y => ?_⟩
    obtain ⟨rfl, hx'⟩ := L.yld i H x H' sm y hlt
    refine hs i x xs H' _ _ hx' sm pv e (fun v H4 s4 p4 => ?_) (fun H3 s3 p3 => ?_)
    · exact ⟨s4 _ _ e, ys.length - (i + 1), by omega, hlt, rfl, same_upd (sm.trans s4) hl, p4 _ fun b o hb q => by rw [upd_ne hb]; exact q, by rw [List.length_append]; simp only [List.length_cons, List.length_nil]; omega, upd_same⟩
    · exact ⟨ys.length - (i + 1), by omega, hlt, rfl, sm.trans s3, p3, by omega, s3 _ _ e⟩
  · have ei : i = ys.length := by omega
    subst ei
    exact .inl ⟨L.stop H sm, hd xs H sm pv hx e⟩
end L2
namespace L2
open PySem PySem.Spec PyProof.Rows
/-- a to z -/
abbrev azL : List Nat := [97, 98, 99, 100, 101, 102, 103, 104, 105, 106, 107, 108, 109, 110, 111, 112, 113, 114, 115, 116, 117, 118, 119, 120, 121, 122]
theorem at_az {r : Int} (h0 : 0 ≤ r) (h1 : r < 26) : atI azL r = some (97 + r.toNat) := by
  obtain ⟨n, rfl⟩ := Int.eq_ofNat_of_zero_le h0
  have : ∀ n : Nat, n < 26 → atI azL (n : Int) = some (97 + n) := by decide
  exact this n (by omega)
/-! ### plans -/
/-- a plan: its name, its price, its count -/
abbrev Pl := List Nat × Int × Int
def plD (x : Pl) : List D := [.str x.1, .int x.2.1, .int x.2.2]
def NmOk (w : List Nat) : Prop := 1 ≤ w.length ∧ w.length ≤ 8 ∧ ∀ c ∈ w, 97 ≤ c ∧ c ≤ 122
def PlOk (x : Pl) : Prop := NmOk x.1 ∧ 0 ≤ x.2.1 ∧ x.2.1 < 10 ^ 30 ∧ 0 ≤ x.2.2 ∧ x.2.2 ≤ 400
def PlsOk (xs : List Pl) : Prop := 1 ≤ xs.length ∧ xs.length ≤ 8 ∧ (∀ x ∈ xs, PlOk x) ∧ (xs.map (·.1)).Nodup
def IsPl (K : PySem.W.Frag) (H : Hp) (z : V × Pl) : Prop := ∃ p, z.1 = .ref p ∧ SqT K H p [.str (SL z.2.1), .int z.2.2.1, .int z.2.2.2]
/-- the plans zs lie there -/
def PlsAt (K : PySem.W.Frag) (H : Hp) (zs : List (V × Pl)) : Prop := ∀ z ∈ zs, IsPl K H z
theorem IsPl.same {K : PySem.W.Frag} {H H' : Hp} {z : V × Pl} (h : IsPl K H z) (s : Same H H') : IsPl K H' z := let ⟨p, e, q⟩ := h; ⟨p, e, s.sqT q⟩
theorem PlsAt.same {K : PySem.W.Frag} {H H' : Hp} {zs : List (V × Pl)} (h : PlsAt K H zs) (s : Same H H') : PlsAt K H' zs := fun z hz => (h z hz).same s
theorem PlOk.len {x : Pl} (h : PlOk x) : x.1.length ≤ sizeLine := le_line (by have := h.1.2.1; omega)
theorem PlOk.ok {x : Pl} (h : PlOk x) : planOk (plD x) = true := by
  obtain ⟨⟨h1, h2, h3⟩, h4, h5, h6, h7⟩ := h
  show (nmOk (.str x.1) && (btw 0 (10 ^ 30 - 1) (.int x.2.1) && btw 0 400 (.int x.2.2))) = true
  have e1 : nmOk (.str x.1) = true := by
    show (decide (1 ≤ x.1.length) && decide (x.1.length ≤ 8) && x.1.all fun c => decide (97 ≤ c ∧ c ≤ 122)) = true
    rw [decide_eq_true h1, decide_eq_true h2, List.all_eq_true.mpr fun c hc => decide_eq_true (h3 c hc)]
    rfl
  have e2 : btw 0 (10 ^ 30 - 1) (.int x.2.1) = true := by
    show (decide (0 ≤ x.2.1) && decide (x.2.1 ≤ 10 ^ 30 - 1)) = true
    rw [decide_eq_true h4, decide_eq_true (by omega)]
    rfl
  have e3 : btw 0 400 (.int x.2.2) = true := by
    show (decide (0 ≤ x.2.2) && decide (x.2.2 ≤ 400)) = true
    rw [decide_eq_true h6, decide_eq_true h7]
    rfl
  rw [e1, e2, e3]
  rfl
theorem PlsOk.ok {xs : List Pl} (h : PlsOk xs) : plansOk (xs.map plD) := by
  obtain ⟨h1, h2, h3, h4⟩ := h
  refine ⟨by rw [List.length_map]; exact h1, by rw [List.length_map]; exact h2, fun ds hd => ?_, ?_⟩
  · obtain ⟨x, hx, rfl⟩ := List.mem_map.mp hd
    exact (h3 x hx).ok
  · rw [List.map_map]
    exact h4
theorem PlsAt.all2 {K : PySem.W.Frag} {H : Hp} : ∀ {zs : List (V × Pl)}, PlsAt K H zs → all2 (Dp K H 1) ((zs.map fun z => plD z.2).map D.tup) (zs.map (·.1))
  | [], _ => trivial
  | z :: r, h => by
    refine ⟨?_, PlsAt.all2 fun y hy => h y (List.mem_cons_of_mem _ hy)⟩
    obtain ⟨p, e, q⟩ := h z List.mem_cons_self
    show Dp K H 1 (D.tup (plD z.2)) z.1
    rw [e]
    exact Dp_tup q ⟨Dp_str, Dp_int, Dp_int, trivial⟩
theorem getD_mem {xs : List Int} {i : Int} (h0 : 0 ≤ i) (h1 : i < xs.length) : xs.getD i.toNat 0 ∈ xs := by
  have hl : i.toNat < xs.length := by omega
  rw [List.getD_eq_getElem?_getD, List.getElem?_eq_getElem hl]
  exact List.getElem_mem hl
/-- a tuple stays where a list is written -/
theorem sqT_upd {K : PySem.W.Frag} {H : Hp} {p l : Addr} {xs ys : List V} {o : HO} (h : SqT K H p xs) (e : H l = some (.lst ys)) : SqT K (upd H l o) p xs := by
  rcases h with (h | ⟨ob, h⟩) | h
  · have np : p ≠ l := fun z => by rw [z, e] at h; cases h
    exact .inl (.inl (by rw [upd_ne np]; exact h))
  · have np : p ≠ l := fun z => by rw [z, e] at h; cases h
    exact .inl (.inr ⟨ob, by rw [upd_ne np]; exact h⟩)
  · exact .inr h
theorem inV_strs (w : List Nat) : ∀ ws : List (List Nat), inV (.str (SL w)) (ws.map fun x => V.str (SL x)) = decide (w ∈ ws)
  | [] => rfl
  | x :: r => by
    have ih := inV_strs w r
    unfold inV at ih ⊢
    rw [List.map_cons, List.any_cons, ih]
    show ((SL x == SL w) || decide (w ∈ r)) = decide (w ∈ x :: r)
    have e : (SL x == SL w) = decide (x = w) := by
      rw [Bool.eq_iff_iff, beq_iff_eq, decide_eq_true_eq, SL_inj]
    rw [e, Bool.eq_iff_iff, Bool.or_eq_true, decide_eq_true_eq, decide_eq_true_eq, decide_eq_true_eq, List.mem_cons]
    constructor
    · rintro (h | h)
      · exact .inl h.symm
      · exact .inr h
    · rintro (h | h)
      · exact .inl h.symm
      · exact .inr h
theorem cut_min (xs : List V) (k : Nat) : cutV xs none (some (k : Int)) = xs.take k := by
  unfold cutV
  rw [HT.sIx_none, HT.sIx_nat, List.drop_zero, Nat.sub_zero, ← List.take_take, List.take_length]
theorem sqT_off {K : PySem.W.Frag} {H H' : Hp} {p l : Addr} {xs ys : List V} (h : SqT K H p xs) (e : H l = some (.lst ys)) (k : ∀ b o, b ≠ l → H b = some o → H' b = some o) : SqT K H' p xs := by
  rcases h with (h | ⟨ob, h⟩) | h
  · have np : p ≠ l := fun z => by rw [z, e] at h; cases h
    exact .inl (.inl (k _ _ np h))
  · have np : p ≠ l := fun z => by rw [z, e] at h; cases h
    exact .inl (.inr ⟨ob, k _ _ np h⟩)
  · exact .inr h
theorem PlsAt.off {K : PySem.W.Frag} {H H' : Hp} {zs : List (V × Pl)} {l : Addr} {ys : List V} (h : PlsAt K H zs) (e : H l = some (.lst ys)) (k : ∀ b o, b ≠ l → H b = some o → H' b = some o) : PlsAt K H' zs := fun z hz =>
  let ⟨p, e1, q⟩ := h z hz; ⟨p, e1, sqT_off q e k⟩
end L2

/-! ## enumerate; list.remove; dict.pop -/
namespace L2
open PySem PySem.Spec PyProof.Rows
/-- a list with its places: each turn makes a new pair -/
def Ite (K : PySem.W.Frag) (a : Addr) : It :=
  ⟨fun i H => ∃ xs x, SqL K H a xs ∧ xs[i]? = some x,
   fun i H v H' => ∃ p, v = .ref p ∧ H p = none ∧ Same H H' ∧ ∃ x, H' p = some (.tup [.int i, x]) ∧ ∀ xs, SqL K H a xs → xs[i]? = some x,
   fun i H => ∃ xs, SqL K H a xs ∧ xs.length ≤ i⟩
theorem turn_enum {P : Program} {w : World} {K : PySem.W.Frag} {es : List Expr} {n : Nat} {ps : Pos} (e it l : Addr) (hne : e ≠ it) :
    Turn P w K (.Tuple es n ps) (Ite K l) [e, it] e (fun i h => (∃ old, IsEnum h e it i old) ∧ h.IsListIter it l i) where
  mem := by simp
  obj := fun i h st b hb => by
    obtain ⟨⟨old, he⟩, ⟨o1, e1, _, d1⟩⟩ := st
    have hb' : b = e ∨ b = it := by simpa using hb
    rcases hb' with rfl | rfl
    · exact ⟨_, he, fun v q => by
        have q' : Data.fields _ = Data.cell v := q
        cases q'⟩
    · exact ⟨_, e1, fun v q => by rw [d1] at q; cases q⟩
  keep := fun i h h' st k => by
    obtain ⟨⟨old, he⟩, h1⟩ := st
    exact ⟨⟨old, k e (by simp) _ he⟩, h1.at fun o e => k it (by simp) o e⟩
  item := by
    intro X hP hw hK hc i pins s σ H E I hf st hg
    subst hP hw hK
    obtain ⟨xs, x, hx, ex⟩ := hg
    obtain ⟨⟨old, he⟩, h1⟩ := st
    obtain ⟨us, rv, p, _⟩ := I.list hx
    obtain ⟨u, hu, ru⟩ := rv.get ex
    refine wpAny_pyNext_enum_item he h1 p.isList (x := u) (by simpa using hu) hne fun h' a1 a2 a3 a4 hk => ?_
    refine ⟨_, rfl, wpAny_letOwnedTupleGo_enum (s := { s with heap := h', toks := s.toks + 1 }) a1 fun h2' hz' sb => ?_⟩
    have lt : ∀ {c o}, s.heap.get? c = some o → s.heap.objs.size ≠ c := fun e => Nat.ne_of_gt (Heap.lt_size e)
    have hp := I.hok.fresh (Nat.le_refl s.heap.objs.size)
    have pr := sb.extBut _ _ (lt he) a3
    have I1 : Inv X pins σ (upd H s.heap.objs.size (.tup [.int i, x])) { s with heap := h2', toks := s.toks + 1 } := by
      refine I.laidL (ch := [e, it]) (t' := s.toks + 1) (fun b hb => hf b hb) (fun b o hb e' => ?_) (Nat.le_refl _) ⟨le_line (by simp), [.int i s.toks, u], .cons ⟨_, rfl⟩ (.cons ru .nil), ⟨_, pr, rfl, _, rfl⟩⟩
      have hb' : ¬ (b = e ∨ b = it) := fun q => hb (by simpa using q)
      exact sb.extBut _ _ (fun q => hb' (.inl q)) (hk b o (fun q => hb' (.inl q)) (fun q => hb' (.inr q)) e')
    refine ⟨.ref s.heap.objs.size, _, I1, rfl, ⟨_, rfl, hp, same_new hp _, x, upd_same, fun ws hw => ?_⟩, ⟨⟨_, hz'⟩, a2.extBut sb.extBut hne.symm⟩, fun b hb => ?_⟩
    · rw [I.list_inj hw hx]; exact ex
    · have hb' : b = e ∨ b = it := by simpa using hb
      have hs : ∃ o, s.heap.get? b = some o := by
        rcases hb' with rfl | rfl
        · exact ⟨_, he⟩
        · exact ⟨_, h1.choose_spec.1⟩
      obtain ⟨o, e⟩ := hs
      rw [upd_ne (lt e).symm]
      exact (hf b hb).1
  done := by
    intro X hP hw hK hc i pins s σ H E I hf st hg
    subst hP hw hK
    obtain ⟨xs, hx, hl⟩ := hg
    obtain ⟨⟨old, he⟩, h1⟩ := st
    obtain ⟨us, rv, p, _⟩ := I.list hx
    have e1 := rv.length
    refine wpAny_pyNext_enum_end (I.ok.hd hc) he h1 p.isList (by simp; omega) fun h' hk => ⟨rfl, ?_⟩
    refine I.turnedL (ch := [it]) (t' := s.toks) (fun b hb => hf b ?_) (fun b o hb e => ?_)
    · have hb' : b = it := by simpa using hb
      simp [hb']
    · exact hk b o (fun q => hb (by simpa using q)) e
  self := fun _ _ _ _ _ st h => wpAny_pyIter_enum st.1.choose_spec h
def iEnum (K : PySem.W.Frag) (ta : TA) : TI := fun σ H R => ta σ H fun vs H1 => ∃ a, vs = [.ref a] ∧ (∃ xs, SqL K H1 a xs) ∧ R (Ite K a) H1
theorem pi_enum {X : Cx} {es : List Expr} {n : Nat} {ps : Pos} {a : Expr} {ta : TA} {p pos : Pos} (hg : Gl X "enumerate") (hm : X.mg "enumerate" = none) (ha : PA X [a] ta) (hs : starEach [a] X.env = [(false, eval a X.env)] := by rfl) :
    PI X (.Tuple es n ps) (.Call (.Name "enumerate" p) [a] [] pos) (iEnum X.K ta) := by
  intro pins s σ H R I h
  refine Call_ (ld_blt I hg hm boot_enumerate (PyProof.Rows.callWith_type1 (thn (ha pos pins s σ H _ I h) fun us s1 ⟨vs, H1, I1, r1, q1⟩ => ?_) (by rw [hs]; rfl) (by rfl)))
  obtain ⟨i, e, ⟨xs, hx⟩, q⟩ := q1
  subst e
  cases r1 with
  | cons r rr =>
    cases rr
    cases r
    obtain ⟨us, rv, pl, _⟩ := I1.list hx
    refine call_enumerate_list pl.isList fun h' hz hi1 hsz hk => wpAny_pyIter_enum hz ?_
    refine ⟨_, [s1.heap.objs.size + 1, s1.heap.objs.size], _, _, H1, rfl, I1.kept (t' := s1.toks) hk, turn_enum _ _ _ (Nat.succ_ne_self _), ⟨⟨_, hz⟩, hi1⟩, fun b hb => ?_, q⟩
    have hb' : b = s1.heap.objs.size + 1 ∨ b = s1.heap.objs.size := by simpa using hb
    have le : s1.heap.objs.size ≤ b := by
      rcases hb' with rfl | rfl
      · exact Nat.le_add_right _ _
      · exact Nat.le_refl _
    exact I1.fpOk le (I1.hok.fresh le)
/-- a loop over a list that stands still, with its places -/
theorem for_enum {K : PySem.W.Frag} {a : Addr} {xs : List V} {j k : Nat} {tb : TS} {D : Ends} {σ : St} {H : Hp} (Pv : Nat → St → Hp → Prop) (h0 : Pv 0 σ H) (hl : ∀ i σ H, i ≤ xs.length → Pv i σ H → SqL K H a xs)
    (hp : ∀ i σ H H', Pv i σ H → Same H H' → Pv i σ H')
    (hs : ∀ i x σ H, xs[i]? = some x → Pv i σ H → tb { D with nx := Pv (i + 1), ct := Pv (i + 1), bk := D.nx } ((σ.set j (some (.int i))).set k (some x)) H) (hd : ∀ σ H, Pv xs.length σ H → D.nx σ H) :
    Loop (gTup K 2 (gCons (gName j) (gCons (gName k) gNil))) tb D σ (Ite K a) H := by
  refine ⟨fun i m σ H => m = xs.length - i ∧ i ≤ xs.length ∧ Pv i σ H, ⟨xs.length, by simp, Nat.zero_le _, h0⟩, ?_⟩
  rintro i m σ H ⟨rfl, hi, p⟩
  have q1 := hl i σ H hi p
  by_cases hlt : i < xs.length
  · refine .inr ⟨⟨xs, xs[i], q1, by simp [hlt]⟩, Pv (i + 1), fun σ' H' p' => ⟨xs.length - (i + 1), by omega, rfl, hlt, p'⟩, fun v H' yl => ?_⟩
    obtain ⟨pp, rfl, _, sm, x, e, ex⟩ := yl
    exact ⟨pp, [.int i, x], rfl, SqT.of e, rfl, .int i, [x], rfl, x, [], rfl, rfl, hs i x σ H' (ex xs q1) (hp i σ H H' p sm)⟩
  · have e : i = xs.length := by omega
    subst e
    exact .inl ⟨⟨xs, q1, Nat.le_refl _⟩, hd σ H p⟩
/-! ### list.remove, of whole numbers -/
def isK (k : Int) : Value → Bool
  | .int a _ => decide (a = k)
  | _ => false
theorem erase_map : ∀ (ns : List Int) (j : Nat), (ns.eraseIdx j).map V.int = (ns.map V.int).eraseIdx j
  | [], _ => rfl
  | _ :: _, 0 => rfl
  | x :: r, j + 1 => congrArg (V.int x :: ·) (erase_map r j)
theorem intsAt {ns : List Int} {us : List Value} (r : Vals (ns.map V.int) us) {i : Nat} (h : i < us.length) : ∃ (hn : i < ns.length) (t : Tok), us[i] = .int ns[i] t := by
  have hl := r.length
  rw [List.length_map] at hl
  have hn : i < ns.length := by omega
  obtain ⟨u, hu, t, rfl⟩ := r.get (i := i) (x := .int ns[i]) (by rw [List.getElem?_map, List.getElem?_eq_getElem hn]; rfl)
  exact ⟨hn, t, by rw [List.getElem?_eq_getElem h] at hu; exact Option.some.inj hu⟩
def rRemove : V → List V → Hp → VK → Prop := fun x vs H Q => ∃ l, ∃ (ns : List Int) (k : Int), x = .ref l ∧ vs = [.int k] ∧ H l = some (.lst (ns.map V.int)) ∧ k ∈ ns ∧ ns.length ≤ sizeLine ∧ Q .non (upd H l (.lst ((ns.erase k).map V.int)))
theorem mt_remove {X : Cx} : MtM X "list.remove" rRemove := by
  intro pins s σ H x vs v us Q I rx rv h
  obtain ⟨l, ns, k, rfl, rfl, hH, hk, hz, q⟩ := h
  cases rx
  obtain ⟨u, rfl, t, rfl⟩ := rv.one
  obtain ⟨z, its, n, r, hl, e⟩ := I.lstM hH
  have len := r.length
  rw [List.length_map] at len
  have jl : ns.idxOf k < ns.length := List.idxOf_lt_length_iff.mpr hk
  have jk : ns[ns.idxOf k] = k := List.getElem_idxOf jl
  refine call_meets F.slot_list_remove ⟨_, e, rfl⟩ F.entry_list_remove (F.args_list_remove_2 _ _) (MeetsSeq.list_remove l its.toArray n (.int k t) (isK k) (fun y hy => ?_) (ns.idxOf k) (by rw [List.size_toArray]; omega) ?_ (fun m hm hlt => ?_) (by rw [List.size_toArray]; omega)) ⟨e, ?_⟩
  · obtain ⟨i, hi, rfl⟩ := List.mem_iff_getElem.mp (List.mem_toArray.mp hy)
    obtain ⟨hn, t', e'⟩ := intsAt r hi
    rw [e']
    exact MeetsSeq.EqGives.int _ k _ t
  · obtain ⟨hn, t', e'⟩ := intsAt r (i := ns.idxOf k) (by omega)
    rw [List.getElem_toArray, e']
    exact decide_eq_true jk
  · obtain ⟨hn, t', e'⟩ := intsAt r (i := m) (by rw [List.size_toArray] at hm; exact hm)
    rw [List.getElem_toArray, e']
    refine decide_eq_false fun z => ?_
    exact absurd (beq_iff_eq.mpr z) (by have := List.not_of_lt_findIdx (p := (· == k)) (xs := ns) (i := m) hlt; simpa using this)
  · refine ⟨.non, _, I.lset (its' := its.eraseIdx (ns.idxOf k)) hH e ?_ ?_ ?_, rfl, q⟩
    · rw [List.eraseIdxIfInBounds_toArray]
    · rw [List.erase_eq_eraseIdx_of_idxOf rfl, erase_map]
      exact r.eraseIdx _
    · rw [List.length_map]
      exact Nat.le_trans (List.length_erase_le ..) hz
end L2

/-! ## changes, entries, the terms that stand -/
namespace L2
open PySem
/-- a change -/
inductive Ch where
  | plan (d : Int) (nm : List Nat)
  | seats (d n : Int)
  | word (w : Nat) (d : Int)
  | undo (k : Int)
  | grant (a : Int)
  | back
def wordS : Nat → List Nat
  | 0 => [104, 111, 108, 100]
  | 1 => [103, 111]
  | 2 => [115, 116, 111, 112]
  | _ => [108, 97, 115, 116]
def chD : Ch → List D
  | .plan d nm => [.str [112, 108, 97, 110], .int d, .str nm]
  | .seats d n => [.str [115, 101, 97, 116, 115], .int d, .int n]
  | .word w d => [.str (wordS w), .int d]
  | .undo k => [.str [117, 110, 100, 111], .int k]
  | .grant a => [.str [103, 114, 97, 110, 116], .int a]
  | .back => [.str [98, 97, 99, 107]]
theorem ite_t {c : Prop} [Decidable c] {a b : Prop} (h : c) (x : a) : if c then a else b := by rw [if_pos h]; exact x
theorem ite_f {c : Prop} [Decidable c] {a b : Prop} (h : ¬ c) (x : b) : if c then a else b := by rw [if_neg h]; exact x
theorem str_ne {a b : List Nat} (h : a ≠ b) : ¬ V.str (SL a) = V.str (SL b) := fun z => h (by rw [V.str.injEq, SL_inj] at z; exact z)
theorem Same.put {H H' : Hp} {a : Addr} (s : Same H H') (n : H a = none) (o : HO) : Same H (upd H' a o) := fun b u e => by
  rw [upd_ne (ne_of_none e n)]
  exact s b u e
/-- an entry: its value, where its change lies, the day on which it is entered, its change -/
abbrev En := V × Addr × Int × Ch
def isTm : Ch → Bool
  | .plan _ _ => true
  | .seats _ _ => true
  | .word _ _ => true
  | _ => false
def stepL (n : Nat) (L : List Int) : Ch → List Int
  | .undo k => L.erase k
  | .grant _ => L
  | .back => L
  | _ => L ++ [(n : Int)]
def foldS (cs : List Ch) (s : Nat × List Int) : Nat × List Int := cs.foldl (fun s c => (s.1 + 1, stepL s.1 s.2 c)) s
/-- the terms that stand behind these changes -/
def standF (cs : List Ch) : List Int := (foldS cs (0, [])).2
theorem foldS_by (P : Nat → List Int → Prop) (hs : ∀ n L c, P n L → P (n + 1) (stepL n L c)) : ∀ (cs : List Ch) (s : Nat × List Int), P s.1 s.2 → P (foldS cs s).1 (foldS cs s).2
  | [], _, h => h
  | c :: r, s, h => foldS_by P hs r (s.1 + 1, stepL s.1 s.2 c) (hs _ _ _ h)
theorem foldS_fst : ∀ (cs : List Ch) (s : Nat × List Int), (foldS cs s).1 = s.1 + cs.length
  | [], _ => rfl
  | c :: r, s => by
    show (foldS r (s.1 + 1, _)).1 = _
    rw [foldS_fst r, List.length_cons]
    omega
theorem stand_snoc (cs : List Ch) (c : Ch) : standF (cs ++ [c]) = stepL cs.length (standF cs) c := by
  unfold standF foldS
  rw [List.foldl_append]
  show stepL (foldS cs (0, [])).1 _ c = _
  rw [foldS_fst]
  show stepL (0 + cs.length) _ c = _
  rw [Nat.zero_add]
theorem stand_in (cs : List Ch) : (standF cs).Nodup ∧ ∀ k ∈ standF cs, 0 ≤ k ∧ k < cs.length := by
  have h := foldS_by (fun n L => L.Nodup ∧ ∀ k ∈ L, 0 ≤ k ∧ k < (n : Int)) (fun n L c ⟨h1, h2⟩ => by
    have old : ∀ k ∈ L, 0 ≤ k ∧ k < ((n + 1 : Nat) : Int) := fun k hk => ⟨(h2 k hk).1, by have := (h2 k hk).2; omega⟩
    have new : (L ++ [(n : Int)]).Nodup ∧ ∀ k ∈ L ++ [(n : Int)], 0 ≤ k ∧ k < ((n + 1 : Nat) : Int) := by
      refine ⟨List.nodup_append.mpr ⟨h1, List.nodup_cons.mpr ⟨fun z => (nomatch z), List.nodup_nil⟩, fun a ha b hb e => ?_⟩, fun k hk => ?_⟩
      · rw [List.mem_singleton.mp hb] at e
        have := (h2 a ha).2
        omega
      · rcases List.mem_append.mp hk with z | z
        · exact old k z
        · rw [List.mem_singleton.mp z]
          omega
    cases c with
    | plan => exact new
    | seats => exact new
    | word => exact new
    | undo k => exact ⟨h1.erase k, fun k' hk => old k' (List.mem_of_mem_erase hk)⟩
    | grant => exact ⟨h1, old⟩
    | back => exact ⟨h1, old⟩) cs (0, []) ⟨List.nodup_nil, fun k hk => (nomatch hk)⟩
  refine ⟨h.1, fun k hk => ?_⟩
  have := h.2 k hk
  rw [foldS_fst] at this
  have e : (0, ([] : List Int)).1 + cs.length = cs.length := Nat.zero_add _
  rw [e] at this
  exact this
theorem stand_len (cs : List Ch) : (standF cs).length ≤ cs.length := by
  have h := foldS_by (fun n L => L.length ≤ n) (fun n L c h => by
    cases c with
    | plan => show (L ++ [(n : Int)]).length ≤ n + 1; rw [List.length_append, List.length_singleton]; omega
    | seats => show (L ++ [(n : Int)]).length ≤ n + 1; rw [List.length_append, List.length_singleton]; omega
    | word => show (L ++ [(n : Int)]).length ≤ n + 1; rw [List.length_append, List.length_singleton]; omega
    | undo k => exact Nat.le_trans (Nat.le_trans (List.length_erase_le ..) h) (Nat.le_succ n)
    | grant => exact Nat.le_succ_of_le h
    | back => exact Nat.le_succ_of_le h) cs (0, []) (Nat.le_refl 0)
  rw [foldS_fst] at h
  have e : (0, ([] : List Int)).1 + cs.length = cs.length := Nat.zero_add _
  rw [e] at h
  exact h
/-! ### a dict by whole numbers -/
def kvG (g : Int → V) (L : List Int) : List (Key × V) := L.map fun k => ((Sum.inl k : Key), g k)
theorem kv_val (g : Int → V) (x : Int) : ∀ L : List Int, valV (kvG g L) (Sum.inl x) = if x ∈ L then some (g x) else none
  | [] => rfl
  | k :: r => by
    unfold kvG
    rw [List.map_cons]
    by_cases e : k = x
    · subst e
      rw [valV_pos rfl, if_pos List.mem_cons_self]
    · rw [valV_neg (by intro z; exact e (Sum.inl.inj z))]
      have ih := kv_val g x r
      unfold kvG at ih
      rw [ih]
      by_cases h : x ∈ r
      · rw [if_pos h, if_pos (List.mem_cons_of_mem _ h)]
      · rw [if_neg h, if_neg (fun z => (List.mem_cons.mp z).elim (fun q => e q.symm) h)]
theorem kv_put (g : Int → V) {x : Int} {L : List Int} (h : x ∉ L) : putK (kvG g L) (Sum.inl x) (g x) = kvG g (L ++ [x]) := by
  rw [putK_new _ (by rw [kv_val, if_neg h])]
  unfold kvG
  rw [List.map_append]
  rfl
theorem kv_drop (g : Int → V) (x : Int) : ∀ {L : List Int}, L.Nodup → dropK (kvG g L) (Sum.inl x) = kvG g (L.erase x)
  | [], _ => rfl
  | k :: r, h => by
    obtain ⟨h1, h2⟩ := List.nodup_cons.mp h
    have ih := kv_drop g x h2
    unfold kvG dropK at ih ⊢
    rw [List.map_cons, List.filter_cons]
    by_cases e : k = x
    · subst e
      rw [if_neg (by simp), List.erase_cons_head, ih, List.erase_of_not_mem h1]
    · rw [if_pos (by simpa using e), List.erase_cons_tail (by simpa using e), List.map_cons, ih]
/-! ### entries that lie there -/
def IsEn (K : PySem.W.Frag) (H : Hp) (z : En) : Prop := ∃ p, z.1 = .ref p ∧ SqT K H p [.int z.2.2.1, .ref z.2.1] ∧ SqT K H z.2.1 ((chD z.2.2.2).map sv)
def EnsAt (K : PySem.W.Frag) (H : Hp) (zs : List En) : Prop := ∀ z ∈ zs, IsEn K H z
theorem EnsAt.same {K : PySem.W.Frag} {H H' : Hp} {zs : List En} (h : EnsAt K H zs) (s : Same H H') : EnsAt K H' zs := fun z hz =>
  let ⟨p, e, q1, q2⟩ := h z hz; ⟨p, e, s.sqT q1, s.sqT q2⟩
theorem EnsAt.take {K : PySem.W.Frag} {H : Hp} {zs : List En} (h : EnsAt K H zs) (n : Nat) : EnsAt K H (zs.take n) := fun z hz => h z (List.mem_of_mem_take hz)
theorem EnsAt.off {K : PySem.W.Frag} {H H' : Hp} {zs : List En} {l : Addr} {ys : List V} (h : EnsAt K H zs) (e : H l = some (.lst ys)) (k : ∀ b o, b ≠ l → H b = some o → H' b = some o) : EnsAt K H' zs := fun z hz =>
  let ⟨p, e1, q1, q2⟩ := h z hz; ⟨p, e1, sqT_off q1 e k, sqT_off q2 e k⟩
def enD (z : En) : D := .tup [.int z.2.2.1, .tup (chD z.2.2.2)]
/-- what a change is, by the names, from days f up to e, of terms that stand -/
def ChIn (nms : List (List Nat)) (f e : Int) (L : List Int) : Ch → Prop
  | .plan d nm => f ≤ d ∧ d < e ∧ nm ∈ nms
  | .seats d n => f ≤ d ∧ d < e ∧ 0 ≤ n ∧ n ≤ 1000000
  | .word w d => w < 4 ∧ f ≤ d ∧ d < e
  | .undo k => k ∈ L
  | .grant a => 1 ≤ a ∧ a < 10 ^ 30
  | .back => True
def chs (zs : List En) : List Ch := zs.map fun z => z.2.2.2
theorem chs_take (zs : List En) (n : Nat) : chs (zs.take n) = (chs zs).take n := List.map_take
theorem chs_len (zs : List En) : (chs zs).length = zs.length := List.length_map ..
def EnsOk (nms : List (List Nat)) (f e : Int) (zs : List En) : Prop := ∀ i z, zs[i]? = some z → f ≤ z.2.2.1 ∧ z.2.2.1 < e ∧ (∀ y ∈ zs.take i, y.2.2.1 ≤ z.2.2.1) ∧ ChIn nms f e (standF (chs (zs.take i))) z.2.2.2
theorem stand_next {zs : List En} {i : Nat} {z : En} (h : zs[i]? = some z) : standF (chs (zs.take (i + 1))) = stepL i (standF (chs (zs.take i))) z.2.2.2 := by
  have hi := (List.getElem?_eq_some_iff.mp h).1
  have e : chs (zs.take (i + 1)) = chs (zs.take i) ++ [z.2.2.2] := by
    unfold chs
    rw [List.take_add_one, h, List.map_append]
    rfl
  rw [e, stand_snoc, chs_len, List.length_take, Nat.min_eq_left (by omega)]
theorem EnsOk.nil {nms : List (List Nat)} {f e : Int} : EnsOk nms f e [] := fun i z h => by rw [List.getElem?_nil] at h; cases h
theorem EnsOk.take {nms : List (List Nat)} {f e : Int} {zs : List En} (h : EnsOk nms f e zs) (n : Nat) : EnsOk nms f e (zs.take n) := fun i z hz => by
  rw [List.getElem?_take] at hz
  split at hz
  · rename_i hi
    rw [List.take_take, Nat.min_eq_left (by omega)]
    exact h i z hz
  · cases hz
theorem EnsOk.snoc {nms : List (List Nat)} {f e : Int} {zs : List En} {z : En} (h : EnsOk nms f e zs) (h1 : f ≤ z.2.2.1) (h2 : z.2.2.1 < e) (h3 : ∀ y ∈ zs, y.2.2.1 ≤ z.2.2.1) (h4 : ChIn nms f e (standF (chs zs)) z.2.2.2) : EnsOk nms f e (zs ++ [z]) := fun i y hy => by
  by_cases hi : i < zs.length
  · rw [List.getElem?_append_left hi] at hy
    rw [List.take_append_of_le_length (by omega)]
    exact h i y hy
  · rw [List.getElem?_append_right (by omega)] at hy
    have e0 : i = zs.length := by
      have := (List.getElem?_eq_some_iff.mp hy).1
      rw [List.length_singleton] at this
      omega
    subst e0
    rw [Nat.sub_self] at hy
    cases hy
    rw [List.take_append_of_le_length (Nat.le_refl _), List.take_length]
    exact ⟨h1, h2, h3, h4⟩
theorem sqT_off2 {K : PySem.W.Frag} {H H' : Hp} {p l m : Addr} {xs ys ws : List V} (h : SqT K H p xs) (e : H l = some (.lst ys)) (e2 : H m = some (.lst ws)) (k : ∀ b o, b ≠ l → b ≠ m → H b = some o → H' b = some o) : SqT K H' p xs := by
  rcases h with (h | ⟨ob, h⟩) | h
  · exact .inl (.inl (k _ _ (fun z => by rw [z, e] at h; cases h) (fun z => by rw [z, e2] at h; cases h) h))
  · exact .inl (.inr ⟨ob, k _ _ (fun z => by rw [z, e] at h; cases h) (fun z => by rw [z, e2] at h; cases h) h⟩)
  · exact .inr h
/-- entries and the terms that stand, while they are drawn: H0 is what there was ahead -/
structure EnInv (K : PySem.W.Frag) (H0 H : Hp) (le ll : Addr) (nms : List (List Nat)) (f e : Int) (zs : List En) : Prop where
  same : Same H0 H
  n1 : H0 le = none
  n2 : H0 ll = none
  ne : le ≠ ll
  e1 : H le = some (.lst (zs.map (·.1)))
  e2 : H ll = some (.lst ((standF (chs zs)).map V.int))
  at' : EnsAt K H zs
  ok : EnsOk nms f e zs
theorem EnInv.same' {K : PySem.W.Frag} {H0 H H' : Hp} {le ll : Addr} {nms : List (List Nat)} {f e : Int} {zs : List En} (I : EnInv K H0 H le ll nms f e zs) (s : Same H H') : EnInv K H0 H' le ll nms f e zs :=
  ⟨I.same.trans s, I.n1, I.n2, I.ne, s _ _ I.e1, s _ _ I.e2, I.at'.same s, I.ok⟩
theorem EnInv.step {K : PySem.W.Frag} {H0 H H' : Hp} {le ll : Addr} {nms : List (List Nat)} {f e : Int} {zs : List En} {pe p : Addr} {en : Int} {ch : Ch} (I : EnInv K H0 H le ll nms f e zs) (ep : H pe = some (.tup [.int en, .ref p])) (ec : H p = some (.tup ((chD ch).map sv)))
    (kp : ∀ b o, b ≠ le → b ≠ ll → H b = some o → H' b = some o) (e1 : H' le = some (.lst (zs.map (·.1) ++ [.ref pe]))) (e2 : H' ll = some (.lst ((stepL zs.length (standF (chs zs)) ch).map V.int)))
    (h1 : f ≤ en) (h2 : en < e) (h3 : ∀ y ∈ zs, y.2.2.1 ≤ en) (h4 : ChIn nms f e (standF (chs zs)) ch) : EnInv K H0 H' le ll nms f e (zs ++ [(.ref pe, p, en, ch)]) := by
  refine ⟨fun b o eb => kp b o (ne_of_none eb I.n1) (ne_of_none eb I.n2) (I.same b o eb), I.n1, I.n2, I.ne, by rw [e1, List.map_append]; rfl, ?_, fun z hz => ?_, I.ok.snoc h1 h2 h3 h4⟩
  · have ec : chs (zs ++ [(V.ref pe, p, en, ch)]) = chs zs ++ [ch] := by unfold chs; rw [List.map_append]; rfl
    rw [e2, ec, stand_snoc, chs_len]
  · rcases List.mem_append.mp hz with y | y
    · obtain ⟨q, ez, q1, q2⟩ := I.at' z y
      exact ⟨q, ez, sqT_off2 q1 I.e1 I.e2 kp, sqT_off2 q2 I.e1 I.e2 kp⟩
    · rw [List.mem_singleton.mp y]
      exact ⟨pe, rfl, sqT_off2 (SqT.of ep) I.e1 I.e2 kp, sqT_off2 (SqT.of ec) I.e1 I.e2 kp⟩
/-- a change's first thing -/
def chW : Ch → List Nat
  | .plan _ _ => [112, 108, 97, 110]
  | .seats _ _ => [115, 101, 97, 116, 115]
  | .word w _ => wordS w
  | .undo _ => [117, 110, 100, 111]
  | .grant _ => [103, 114, 97, 110, 116]
  | .back => [98, 97, 99, 107]
theorem chD_cons (c : Ch) : ∃ r, (chD c).map sv = .str (SL (chW c)) :: r := by
  cases c <;> exact ⟨_, rfl⟩
theorem atV_0 (v : V) (r : List V) : atI (v :: r) 0 = some v := atI_nat (j := 0) rfl
theorem atV_1 (u v : V) (r : List V) : atI (u :: v :: r) 1 = some v := atI_nat (j := 1) rfl
theorem chW_undo {ch : Ch} (h : chW ch = [117, 110, 100, 111]) : ∃ k, ch = .undo k := by
  cases ch with
  | undo k => exact ⟨k, rfl⟩
  | word w d =>
    exfalso
    match w, h with
    | 0, h => exact absurd h (by decide : ¬ [104, 111, 108, 100] = [117, 110, 100, 111])
    | 1, h => exact absurd h (by decide : ¬ [103, 111] = [117, 110, 100, 111])
    | 2, h => exact absurd h (by decide : ¬ [115, 116, 111, 112] = [117, 110, 100, 111])
    | n + 3, h => exact absurd h (by decide : ¬ [108, 97, 115, 116] = [117, 110, 100, 111])
  | plan d nm => exact absurd h (by decide : ¬ [112, 108, 97, 110] = [117, 110, 100, 111])
  | seats d n => exact absurd h (by decide : ¬ [115, 101, 97, 116, 115] = [117, 110, 100, 111])
  | grant a => exact absurd h (by decide : ¬ [103, 114, 97, 110, 116] = [117, 110, 100, 111])
  | back => exact absurd h (by decide : ¬ [98, 97, 99, 107] = [117, 110, 100, 111])
theorem chW_none (ch : Ch) (h : chW ch ≠ [117, 110, 100, 111]) (n : Nat) (Ls : List Int) : decide (chW ch ∈ [[103, 114, 97, 110, 116], [98, 97, 99, 107]]) = !isTm ch ∧ stepL n Ls ch = if isTm ch = true then Ls ++ [(n : Int)] else Ls := by
  cases ch with
  | undo k => exact absurd rfl h
  | word w d =>
    refine ⟨decide_eq_false ?_, rfl⟩
    show ¬ wordS w ∈ _
    match w with
    | 0 => exact (by decide : ¬ [104, 111, 108, 100] ∈ [[103, 114, 97, 110, 116], [98, 97, 99, 107]])
    | 1 => exact (by decide : ¬ [103, 111] ∈ [[103, 114, 97, 110, 116], [98, 97, 99, 107]])
    | 2 => exact (by decide : ¬ [115, 116, 111, 112] ∈ [[103, 114, 97, 110, 116], [98, 97, 99, 107]])
    | n + 3 => exact (by decide : ¬ [108, 97, 115, 116] ∈ [[103, 114, 97, 110, 116], [98, 97, 99, 107]])
  | plan d nm => exact ⟨(by decide : decide ([112, 108, 97, 110] ∈ [[103, 114, 97, 110, 116], [98, 97, 99, 107]]) = false), rfl⟩
  | seats d n => exact ⟨(by decide : decide ([115, 101, 97, 116, 115] ∈ [[103, 114, 97, 110, 116], [98, 97, 99, 107]]) = false), rfl⟩
  | grant a => exact ⟨(by decide : decide ([103, 114, 97, 110, 116] ∈ [[103, 114, 97, 110, 116], [98, 97, 99, 107]]) = true), rfl⟩
  | back => exact ⟨(by decide : decide ([98, 97, 99, 107] ∈ [[103, 114, 97, 110, 116], [98, 97, 99, 107]]) = true), rfl⟩
theorem chD_all2 {K : PySem.W.Frag} {H : Hp} {n : Nat} (c : Ch) : all2 (Dp K H n) (chD c) ((chD c).map sv) := by
  cases c with
  | plan d nm => exact ⟨Dp_str, Dp_int, Dp_str, trivial⟩
  | seats d m => exact ⟨Dp_str, Dp_int, Dp_int, trivial⟩
  | word w d => exact ⟨Dp_str, Dp_int, trivial⟩
  | undo k => exact ⟨Dp_str, Dp_int, trivial⟩
  | grant a => exact ⟨Dp_str, Dp_int, trivial⟩
  | back => exact ⟨Dp_str, trivial⟩
theorem EnsAt.all2 {K : PySem.W.Frag} {H : Hp} : ∀ {zs : List En}, EnsAt K H zs → all2 (Dp K H 2) (zs.map enD) (zs.map (·.1))
  | [], _ => trivial
  | z :: r, h => by
    obtain ⟨p, e, q1, q2⟩ := h z List.mem_cons_self
    refine ⟨?_, EnsAt.all2 fun y hy => h y (List.mem_cons_of_mem _ hy)⟩
    show Dp K H 2 (enD z) z.1
    rw [e]
    exact Dp_tup q1 ⟨Dp_int, Dp_tup q2 (chD_all2 _), trivial⟩
end L2

/-! ## list(d.items()) -/
namespace L2
open PySem PySem.Spec PyProof.Rows
section
variable {X : Cx} {pins : List (Addr × Obj)} {σ : St} {H H' : Hp} {s : Shared} {h' : Heap} {t' : Nat}
end
theorem kv_val2 {kvs : List (Key × V)} {vs : List (Key × Value)} (h : KV kvs vs) : ∀ {i : Nat} {kv : Key × V} {k : Key} {y : Value}, kvs[i]? = some kv → vs[i]? = some (k, y) → kv.1 = k ∧ RelV kv.2 y := by
  unfold KV at h
  induction h with
  | nil => intro i kv k y h1; rw [List.getElem?_nil] at h1; cases h1
  | cons r t ih =>
    intro i kv k y h1 h2
    cases i with
    | zero => cases h1; cases h2; exact r
    | succ i => exact ih (i := i) (by simpa using h1) (by simpa using h2)
end L2

/-! ## what is known at a moment -/
namespace L2
open PySem
/-- the numbers that are undone -/
def goneF : List Ch → List Int
  | [] => []
  | .undo k :: r => k :: goneF r
  | _ :: r => goneF r
theorem gone_append : ∀ a b : List Ch, goneF (a ++ b) = goneF a ++ goneF b
  | [], _ => rfl
  | c :: r, b => by
    have ih := gone_append r b
    cases c with
    | undo k => show k :: goneF (r ++ b) = k :: goneF r ++ goneF b; rw [ih]; rfl
    | plan => exact ih
    | seats => exact ih
    | word => exact ih
    | grant => exact ih
    | back => exact ih
def isTmO (o : Option Ch) : Bool := (o.map isTm).getD false
def dueF (cs : List Ch) (gs : List Int) (n : Nat) : List Int := ((List.range n).filter (fun j : Nat => isTmO cs[j]? && !decide ((j : Int) ∈ gs))).map fun j : Nat => (j : Int)
theorem due_succ (cs : List Ch) (gs : List Int) (n : Nat) : dueF cs gs (n + 1) = dueF cs gs n ++ (if (isTmO cs[n]? && !decide ((n : Int) ∈ gs)) = true then [(n : Int)] else []) := by
  unfold dueF
  rw [List.range_succ, List.filter_append, List.map_append]
  congr 1
  by_cases h : (isTmO cs[n]? && !decide ((n : Int) ∈ gs)) = true
  · rw [if_pos h, List.filter_cons]
    exact congrArg (List.map _) (if_pos h)
  · rw [if_neg h, List.filter_cons]
    exact congrArg (List.map _) (if_neg h)
/-- undos are of terms that stand -/
def UndoOk (cs : List Ch) : Prop := ∀ (i : Nat) (k : Int), cs[i]? = some (.undo k) → k ∈ standF (cs.take i)
theorem UndoOk.take {cs : List Ch} (h : UndoOk cs) (n : Nat) : UndoOk (cs.take n) := fun i k hi => by
  rw [List.getElem?_take] at hi
  split at hi
  · rw [List.take_take, Nat.min_eq_left (by omega)]
    exact h i k hi
  · cases hi
theorem stand_due (cs : List Ch) (ok : UndoOk cs) : ∀ n, n ≤ cs.length → standF (cs.take n) = dueF cs (goneF (cs.take n)) n ∧ ∀ k ∈ goneF (cs.take n), k < n
  | 0, _ => by
    rw [List.take_zero]
    exact ⟨rfl, fun k h => (nomatch h)⟩
  | n + 1, h => by
    obtain ⟨ih, lt⟩ := stand_due cs ok n (by omega)
    obtain ⟨c, hc⟩ : ∃ c, cs[n]? = some c := ⟨cs[n], List.getElem?_eq_getElem (by omega)⟩
    have et : cs.take (n + 1) = cs.take n ++ [c] := by rw [List.take_add_one, hc]; rfl
    have ln : (cs.take n).length = n := by rw [List.length_take]; omega
    have sn : standF (cs.take (n + 1)) = stepL n (standF (cs.take n)) c := by rw [et, stand_snoc, ln]
    have gn : goneF (cs.take (n + 1)) = goneF (cs.take n) ++ goneF [c] := by rw [et, gone_append]
    rw [sn, gn, due_succ, hc]
    have nin : (n : Int) ∉ goneF (cs.take n) := fun z => by have := lt _ z; omega
    have up : ∀ k ∈ goneF (cs.take n), k < ((n + 1 : Nat) : Int) := fun k hk => by have := lt k hk; omega
    have term : isTm c = true → goneF [c] = [] → stepL n (standF (cs.take n)) c = standF (cs.take n) ++ [(n : Int)] → stepL n (standF (cs.take n)) c = dueF cs (goneF (cs.take n) ++ goneF [c]) n ++ (if (isTmO (some c) && !decide ((n : Int) ∈ goneF (cs.take n) ++ goneF [c])) = true then [(n : Int)] else []) ∧ ∀ k ∈ goneF (cs.take n) ++ goneF [c], k < ((n + 1 : Nat) : Int) := fun h1 h2 h3 => by
      rw [h2, List.append_nil, h3, ih]
      refine ⟨?_, up⟩
      rw [if_pos (by show (isTm c && !decide _) = true; rw [h1, decide_eq_false nin]; rfl)]
    have other : isTm c = false → goneF [c] = [] → stepL n (standF (cs.take n)) c = standF (cs.take n) → stepL n (standF (cs.take n)) c = dueF cs (goneF (cs.take n) ++ goneF [c]) n ++ (if (isTmO (some c) && !decide ((n : Int) ∈ goneF (cs.take n) ++ goneF [c])) = true then [(n : Int)] else []) ∧ ∀ k ∈ goneF (cs.take n) ++ goneF [c], k < ((n + 1 : Nat) : Int) := fun h1 h2 h3 => by
      rw [h2, List.append_nil, h3, ih]
      refine ⟨?_, up⟩
      rw [if_neg (by show ¬ (isTm c && _) = true; rw [h1, Bool.false_and]; exact Bool.false_ne_true), List.append_nil]
    cases c with
    | plan => exact term rfl rfl rfl
    | seats => exact term rfl rfl rfl
    | word => exact term rfl rfl rfl
    | grant => exact other rfl rfl rfl
    | back => exact other rfl rfl rfl
    | undo k =>
      have hk := ok n k hc
      have nd := (stand_in (cs.take n)).1
      have kb := (stand_in (cs.take n)).2 k hk
      rw [ln] at kb
      refine ⟨?_, fun k' hk' => ?_⟩
      · rw [if_neg (by show ¬ (false && _) = true; rw [Bool.false_and]; exact Bool.false_ne_true), List.append_nil]
        show (standF (cs.take n)).erase k = _
        rw [nd.erase_eq_filter, ih]
        unfold dueF
        rw [List.filter_map, List.filter_filter]
        congr 1
        refine List.filter_congr fun j _ => ?_
        show ((j : Int) != k && (isTmO cs[j]? && !decide ((j : Int) ∈ goneF (cs.take n)))) = (isTmO cs[j]? && !decide ((j : Int) ∈ goneF (cs.take n) ++ [k]))
        have e1 : decide ((j : Int) ∈ goneF (cs.take n) ++ [k]) = (decide ((j : Int) ∈ goneF (cs.take n)) || decide ((j : Int) = k)) := by
          rw [Bool.eq_iff_iff, decide_eq_true_eq, Bool.or_eq_true, decide_eq_true_eq, decide_eq_true_eq, List.mem_append, List.mem_singleton]
        rw [e1]
        have e2 : ((j : Int) != k) = !decide ((j : Int) = k) := by
          rw [bne, Bool.beq_eq_decide_eq]
        rw [e2]
        cases isTmO cs[j]? <;> cases decide ((j : Int) ∈ goneF (cs.take n)) <;> cases decide ((j : Int) = k) <;> rfl
      · rcases List.mem_append.mp hk' with q | q
        · exact up _ q
        · have : k' = k := List.mem_singleton.mp q
          omega
theorem inV_ints (k : Int) : ∀ ks : List Int, inV (.int k) (ks.map V.int) = decide (k ∈ ks)
  | [] => rfl
  | x :: r => by
    have ih := inV_ints k r
    unfold inV at ih ⊢
    rw [List.map_cons, List.any_cons, ih]
    show ((x == k) || decide (k ∈ r)) = decide (k ∈ x :: r)
    rw [Bool.eq_iff_iff, Bool.or_eq_true, beq_iff_eq, decide_eq_true_eq, decide_eq_true_eq, List.mem_cons]
    exact ⟨fun h => h.imp Eq.symm id, fun h => h.imp Eq.symm id⟩
theorem gone_one {c : Ch} (h : chW c ≠ [117, 110, 100, 111]) : goneF [c] = [] := by
  cases c with
  | undo k => exact absurd rfl h
  | plan => rfl
  | seats => rfl
  | word => rfl
  | grant => rfl
  | back => rfl
end L2

/-! ## sorted() of tuples that begin with three numbers -/
namespace L2.So
open PySem PySem.W PyProof.Rows
/-- what the tree of questions comes to, each answered by ranks -/
def Ev (n : Nat) (r : Nat → Int) {α : Type} : KasT α → (α → Prop) → Prop
  | .ret a, Q => Q a
  | .ask i j k, Q => (i < n ∧ j < n ∧ i ≠ j) ∧ Ev n r (k (decide (r i < r j))) Q
theorem Ev.bind {n : Nat} {r : Nat → Int} {α β : Type} {f : α → KasT β} {Q : β → Prop} : ∀ {t : KasT α}, Ev n r t (fun a => Ev n r (f a) Q) → Ev n r (t.bind f) Q
  | .ret _, h => h
  | .ask _ _ k, h => ⟨h.1, Ev.bind (t := k _) h.2⟩
theorem Ev.mono {n : Nat} {r : Nat → Int} {α : Type} {Q Q' : α → Prop} (hq : ∀ a, Q a → Q' a) : ∀ {t : KasT α}, Ev n r t Q → Ev n r t Q'
  | .ret a, h => hq a h
  | .ask _ _ k, h => ⟨h.1, Ev.mono hq (t := k _) h.2⟩
theorem Ev.wp {n : Nat} {r : Nat → Int} {α : Type} {cmp : Nat → Nat → (Bool → Shared → Prop) → Shared → Prop} {s : Shared} (hc : ∀ i j C, i < n → j < n → i ≠ j → C (decide (r i < r j)) s → cmp i j C s) {Q : α → Prop} {G : α → Shared → Prop} (hq : ∀ a, Q a → G a s) : ∀ {t : KasT α}, Ev n r t Q → t.kasWp cmp G s
  | .ret a, h => hq a h
  | .ask i j k, h => hc i j _ h.1.1 h.1.2.1 h.1.2.2 (Ev.wp hc hq (t := k _) h.2)
theorem Ev.yes {n : Nat} {r : Nat → Int} {α : Type} {i j : Nat} {k : Bool → KasT α} {Q : α → Prop} (hi : i < n) (hj : j < n) (h : r i < r j) (e : Ev n r (k true) Q) : Ev n r (.ask i j k) Q := ⟨⟨hi, hj, fun z => by rw [z] at h; omega⟩, by rw [decide_eq_true h]; exact e⟩
theorem Ev.no {n : Nat} {r : Nat → Int} {α : Type} {i j : Nat} {k : Bool → KasT α} {Q : α → Prop} (hi : i < n) (hj : j < n) (hn : i ≠ j) (h : ¬ r i < r j) (e : Ev n r (k false) Q) : Ev n r (.ask i j k) Q := ⟨⟨hi, hj, hn⟩, by rw [decide_eq_false h]; exact e⟩
def fv (r : Nat → Int) (p : Array Nat) (k : Nat) : Int := r (p.getD k 0)
def Ok (n : Nat) (p : Array Nat) : Prop := p.Perm (List.range n).toArray
def Up (r : Nat → Int) (p : Array Nat) (m : Nat) : Prop := ∀ i j, i < j → j < m → fv r p i < fv r p j
def Dn (r : Nat → Int) (p : Array Nat) (m : Nat) : Prop := ∀ i j, i < j → j < m → fv r p j < fv r p i
theorem Ok.size {n : Nat} {p : Array Nat} (h : Ok n p) : p.size = n := by
  have := h.size_eq
  simpa using this
theorem Ok.lt {n : Nat} {p : Array Nat} (h : Ok n p) {k : Nat} (hk : k < n) : p.getD k 0 < n := by
  have hs := h.size
  have e : p.getD k 0 = p[k] := by simp [Array.getD, hs, hk]
  have m : p[k] ∈ p := Array.getElem_mem _
  rw [e]
  have := (h.mem_iff).mp m
  simpa using this
theorem Ok.ne {n : Nat} {p : Array Nat} (h : Ok n p) {i j : Nat} (hij : i < j) (hj : j < n) : p.getD i 0 ≠ p.getD j 0 := by
  have hs := h.size
  have e1 : p.getD i 0 = p.toList[i]'(by simp; omega) := by simp [Array.getD, hs, show i < n by omega]
  have e2 : p.getD j 0 = p.toList[j]'(by simp; omega) := by simp [Array.getD, hs, hj]
  have nd : p.toList.Nodup := (h.toList.nodup_iff).mpr (by simpa using List.nodup_range)
  rw [e1, e2]
  exact List.pairwise_iff_getElem.mp nd i j _ _ hij
def Inj (n : Nat) (r : Nat → Int) : Prop := ∀ i j, i < n → j < n → i ≠ j → r i ≠ r j
theorem Ok.fne {n : Nat} {r : Nat → Int} (hr : Inj n r) {p : Array Nat} (h : Ok n p) {i j : Nat} (hij : i < j) (hj : j < n) : fv r p i ≠ fv r p j := hr _ _ (h.lt (by omega)) (h.lt hj) (h.ne hij hj)
theorem Up.one {r : Nat → Int} {p : Array Nat} {m : Nat} (h : Up r p m) (h1 : 1 ≤ m) (hl : fv r p (m - 1) < fv r p m) : Up r p (m + 1) := fun i j hij hj => by
  by_cases e : j = m
  · subst e
    by_cases e2 : i = j - 1
    · rw [e2]; exact hl
    · exact Int.lt_trans (h i (j - 1) (by omega) (by omega)) hl
  · exact h i j hij (by omega)
theorem Dn.one {r : Nat → Int} {p : Array Nat} {m : Nat} (h : Dn r p m) (h1 : 1 ≤ m) (hl : fv r p m < fv r p (m - 1)) : Dn r p (m + 1) := fun i j hij hj => by
  by_cases e : j = m
  · subst e
    by_cases e2 : i = j - 1
    · rw [e2]; exact hl
    · exact Int.lt_trans hl (h i (j - 1) (by omega) (by omega))
  · exact h i j hij (by omega)
section
variable {n : Nat} {r : Nat → Int} (hr : Inj n r)
include hr
theorem asc_ {p : Array Nat} (ho : Ok n p) : ∀ (f m : Nat), m + f = n → 1 ≤ m → Up r p m → Ev n r (kas_asc p f m) (fun x => 1 ≤ x ∧ m ≤ x ∧ x ≤ n ∧ Up r p x ∧ (x = n ∨ fv r p x < fv r p (x - 1)))
  | 0, m, hm, h1, hu => ⟨h1, Nat.le_refl _, by omega, hu, .inl (by omega)⟩
  | f + 1, m, hm, h1, hu => by
    unfold kas_asc
    by_cases c : fv r p m < fv r p (m - 1)
    · refine Ev.yes (ho.lt (by omega)) (ho.lt (by omega)) c ?_
      rw [if_pos rfl]
      exact ⟨h1, Nat.le_refl _, by omega, hu, .inr c⟩
    · refine Ev.no (ho.lt (by omega)) (ho.lt (by omega)) (ho.ne (by omega) (by omega)).symm c ?_
      rw [if_neg (by decide)]
      have := ho.fne hr (i := m - 1) (j := m) (by omega) (by omega)
      exact (asc_ ho f (m + 1) (by omega) (by omega) (hu.one h1 (by omega))).mono fun x h => ⟨h.1, by omega, h.2.2⟩
theorem desc_ {p : Array Nat} (ho : Ok n p) : ∀ (f m : Nat), m + f = n → 1 ≤ m → Dn r p m → Ev n r (kas_desc f p m 0) (fun x => x.1 = p ∧ x.2.2 = 0 ∧ m ≤ x.2.1 ∧ x.2.1 ≤ n ∧ Dn r p x.2.1)
  | 0, m, hm, h1, hu => ⟨rfl, rfl, Nat.le_refl _, by show m ≤ n; omega, hu⟩
  | f + 1, m, hm, h1, hu => by
    unfold kas_desc
    by_cases c : fv r p m < fv r p (m - 1)
    · refine Ev.yes (ho.lt (by omega)) (ho.lt (by omega)) c ?_
      rw [if_pos rfl, if_neg (by decide)]
      exact (desc_ ho f (m + 1) (by omega) (by omega) (hu.one h1 c)).mono fun x h => ⟨h.1, h.2.1, by omega, h.2.2.2⟩
    · have := ho.fne hr (i := m - 1) (j := m) (by omega) (by omega)
      refine Ev.no (ho.lt (by omega)) (ho.lt (by omega)) (ho.ne (by omega) (by omega)).symm c ?_
      rw [if_neg (by decide)]
      refine Ev.yes (ho.lt (by omega)) (ho.lt (by omega)) (show fv r p (m - 1) < fv r p m by omega) ?_
      rw [if_pos rfl]
      exact ⟨rfl, rfl, Nat.le_refl _, by show m ≤ n; omega, hu⟩
theorem rev_ok {p : Array Nat} (ho : Ok n p) (i j : Nat) : Ok n (kas_rev p i j) := (mirror_perm p i j _).trans ho
theorem rev_fv {p : Array Nat} (ho : Ok n p) {m : Nat} (hm : m ≤ n) {k : Nat} (hk : k < m) : fv r (kas_rev p 0 m) k = fv r p (m - 1 - k) := by
  have e := getElem?_mirror_all (xs := p) (i := 0) (j := m) (by rw [ho.size]; exact hm) k
  rw [if_pos ⟨by omega, hk⟩] at e
  unfold fv kas_rev
  rw [Array.getD_eq_getD_getElem?, Array.getD_eq_getD_getElem?, e, Nat.zero_add]
theorem tail_ {p : Array Nat} (ho : Ok n p) {m : Nat} (h1 : 1 ≤ m) (hm : m ≤ n) (hd : Dn r p m) : Ev n r (kas_tail3 m n p) (fun x => 1 ≤ x.1 ∧ x.1 ≤ n ∧ Ok n x.2 ∧ Up r x.2 x.1) := by
  unfold kas_tail3
  refine Ev.bind ((asc_ hr (rev_ok hr ho 0 m) (n - m) m (by omega) h1 fun i j hij hj => ?_).mono fun x h => ⟨h.1, h.2.2.1, rev_ok hr ho 0 m, h.2.2.2.1⟩)
  rw [rev_fv hr ho hm (by omega), rev_fv hr ho hm hj]
  exact hd _ _ (by omega) (by omega)
theorem count_ {p : Array Nat} (ho : Ok n p) (h1 : 1 ≤ n) : Ev n r (kas_count n p) (fun x => 1 ≤ x.1 ∧ x.1 ≤ n ∧ Ok n x.2 ∧ Up r x.2 x.1) := by
  unfold kas_count
  refine Ev.bind ((asc_ hr ho (n - 1) 1 (by omega) (Nat.le_refl _) fun i j hij hj => by omega).mono fun x h => ?_)
  obtain ⟨a1, _, a2, hu, hx⟩ := h
  by_cases e : x = n
  · rw [if_pos (by simp [e])]
    exact ⟨a1, a2, ho, hu⟩
  rw [if_neg (by simp [e])]
  by_cases e1 : x > 1
  · rw [if_pos e1]
    refine Ev.yes (ho.lt (by omega)) (ho.lt (by omega)) (hu 0 (x - 1) (by omega) (by omega)) ?_
    rw [if_pos rfl]
    exact ⟨a1, a2, ho, hu⟩
  rw [if_neg e1]
  obtain rfl : x = 1 := by omega
  have c : fv r p 1 < fv r p 0 := hx.resolve_left e
  unfold kas_descPart
  refine Ev.bind ((desc_ hr ho (n - 2) 2 (by omega) (by omega) fun i j hij hj => ?_).mono fun y h => ?_)
  · obtain rfl : i = 0 := by omega
    obtain rfl : j = 1 := by omega
    exact c
  · obtain ⟨y1, y2, y3⟩ := y
    obtain ⟨b1, b2, b3, b4, b5⟩ := h
    dsimp only at b1 b2 b3 b4 b5 ⊢
    subst b1 b2
    rw [if_neg (by decide)]
    exact tail_ hr ho (by omega) b4 b5
theorem place_ {p : Array Nat} (ho : Ok n p) {k : Nat} (hk : k < n) (hu : Up r p k) : ∀ (f a b : Nat), b - a ≤ f → a ≤ b → b ≤ k → (∀ i, i < a → fv r p i < fv r p k) → (∀ i, b ≤ i → i < k → fv r p k < fv r p i) → Ev n r (kas_place p k f a b) (fun l => l ≤ k ∧ (∀ i, i < l → fv r p i < fv r p k) ∧ ∀ i, l ≤ i → i < k → fv r p k < fv r p i)
  | 0, a, b, hf, ab, bk, h1, h2 => by
    obtain rfl : a = b := by omega
    exact ⟨bk, h1, h2⟩
  | f + 1, a, b, hf, ab, bk, h1, h2 => by
    unfold kas_place
    by_cases e : a ≥ b
    · rw [if_pos e]
      obtain rfl : a = b := by omega
      exact ⟨bk, h1, h2⟩
    rw [if_neg e]
    by_cases c : fv r p k < fv r p ((a + b) / 2)
    · refine Ev.yes (ho.lt hk) (ho.lt (by omega)) c ?_
      rw [if_pos rfl]
      refine place_ ho hk hu f a ((a + b) / 2) (by omega) (by omega) (by omega) h1 fun i hi ik => ?_
      by_cases z : i = (a + b) / 2
      · rw [z]; exact c
      · exact Int.lt_trans c (hu _ _ (by omega) ik)
    · refine Ev.no (ho.lt hk) (ho.lt (by omega)) (ho.ne (by omega) hk).symm c ?_
      rw [if_neg (by decide)]
      have := ho.fne hr (i := (a + b) / 2) (j := k) (by omega) hk
      refine place_ ho hk hu f ((a + b) / 2 + 1) b (by omega) (by omega) bk (fun i hi => ?_) h2
      by_cases z : i = (a + b) / 2
      · rw [z]; omega
      · exact Int.lt_trans (hu i ((a + b) / 2) (by omega) (by omega)) (by omega)
theorem bin_ : ∀ (f k : Nat) {p : Array Nat}, Ok n p → k + f = n → Up r p k → Ev n r (kas_bin f p k) (fun q => Ok n q ∧ Up r q n)
  | 0, k, p, ho, hk, hu => ⟨ho, by
    obtain rfl : k = n := by omega
    exact hu⟩
  | f + 1, k, p, ho, hk, hu => by
    unfold kas_bin
    refine Ev.bind ((place_ hr ho (by omega) hu k 0 k (by omega) (by omega) (Nat.le_refl _) (fun i hi => by omega) fun i h1 h2 => by omega).mono fun l h => ?_)
    obtain ⟨lk, h1, h2⟩ := h
    have ho' : Ok n (bubble p k (k - l)) := (bubble_perm p k _).trans ho
    refine bin_ f (k + 1) ho' (by omega) fun i j hij hj => ?_
    have at_ : ∀ x, fv r (bubble p k (k - l)) x = if x = l then fv r p k else if l < x ∧ x ≤ k then fv r p (x - 1) else fv r p x := fun x => by
      have e := getElem?_bubble (xs := p) (src := k) (by rw [ho.size]; omega) (k - l) (by omega) x
      rw [show k - (k - l) = l by omega] at e
      unfold fv
      rw [Array.getD_eq_getD_getElem?, e]
      by_cases z1 : x = l
      · rw [if_pos z1, if_pos z1, Array.getD_eq_getD_getElem?]
      · rw [if_neg z1, if_neg z1]
        by_cases z2 : l < x ∧ x ≤ k
        · rw [if_pos z2, if_pos z2, Array.getD_eq_getD_getElem?]
        · rw [if_neg z2, if_neg z2, Array.getD_eq_getD_getElem?]
    rw [at_, at_]
    by_cases z1 : i = l
    · rw [if_pos z1, if_neg (by omega), if_pos (by omega)]
      exact h2 _ (by omega) (by omega)
    · rw [if_neg z1]
      by_cases z2 : l < i
      · rw [if_pos (by omega), if_neg (by omega), if_pos (by omega)]
        exact hu _ _ (by omega) (by omega)
      · rw [if_neg (by omega)]
        by_cases z3 : j = l
        · rw [if_pos z3]
          exact h1 i (by omega)
        · rw [if_neg z3]
          by_cases z4 : l < j
          · rw [if_pos (by omega)]
            exact hu _ _ (by omega) (by omega)
          · rw [if_neg (by omega)]
            exact hu _ _ hij (by omega)
theorem sort_ (h1 : 1 ≤ n) : Ev n r (kas_sort n) (fun p => Ok n p ∧ Up r p n) := by
  unfold kas_sort
  refine Ev.bind ((count_ hr (Array.Perm.refl _) h1).mono fun x h => ?_)
  obtain ⟨a1, a2, ho, hu⟩ := h
  by_cases e : x.1 < n
  · rw [if_pos e, Nat.max_eq_left a1]
    exact bin_ hr (n - x.1) x.1 ho (by omega) hu
  · rw [if_neg e]
    obtain e2 : x.1 = n := by omega
    rw [e2] at hu
    exact ⟨ho, hu⟩
end
end L2.So
namespace L2.So
open PySem PySem.W PySem.Calls PyProof.Rows
/-- a tuple that begins with three numbers -/
def Tr (h : Heap) (v : Value) (a b c : Int) : Prop := ∃ ad o xs k t1 t2 t3 rest, v = .ref ad ∧ h.get? ad = some o ∧ o.cls = .type "tuple" ∧ o.data = .seq xs k ∧ xs.toList = .int a t1 :: .int b t2 :: .int c t3 :: rest
theorem Tr.keep {h h' : Heap} {v : Value} {a b c : Int} (k : ∀ b o, h.get? b = some o → h'.get? b = some o) : Tr h v a b c → Tr h' v a b c
  | ⟨ad, o, xs, n, t1, t2, t3, rest, e1, e2, r⟩ => ⟨ad, o, xs, n, t1, t2, t3, rest, e1, k _ _ e2, r⟩
section
variable {prog : Program} {w : World} {A : Around} {E : Value → Shared → Prop} {s : Shared}
end
end L2.So
namespace L2.So
open PySem PySem.W PySem.Calls PyProof.Rows
section
variable {prog : Program} {w : World} {A : Around} {E : Value → Shared → Prop} {s : Shared} {vs : List Value} {r : Nat → Int} {ka kb kc : Nat → Int}
/-- the keys of the tuples, and the ranks that they come to -/
structure Keys (h : Heap) (vs : List Value) (r ka kb kc : Nat → Int) : Prop where
  tup : ∀ i, i < vs.length → Tr h (vs.getD i Value.none) (ka i) (kb i) (kc i)
  num : ∀ i j, i < vs.length → j < vs.length → i ≠ j → kc i ≠ kc j
  rank : ∀ i j, i < vs.length → j < vs.length → (r i < r j ↔ ka i < ka j ∨ ka i = ka j ∧ (kb i < kb j ∨ kb i = kb j ∧ kc i < kc j))
theorem Keys.keep {h h' : Heap} (k : ∀ b o, h.get? b = some o → h'.get? b = some o) (H : Keys h vs r ka kb kc) : Keys h' vs r ka kb kc := ⟨fun i hi => (H.tup i hi).keep k, H.num, H.rank⟩
theorem Keys.inj {h : Heap} (H : Keys h vs r ka kb kc) : Inj vs.length r := fun i j hi hj hn e => by
  have := H.num i j hi hj hn
  have h1 := H.rank i j hi hj
  have h2 := H.rank j i hj hi
  rcases Int.lt_trichotomy (kc i) (kc j) with z | z | z
  · omega
  · exact this z
  · omega
end
end L2.So
namespace L2
open PySem PySem.Spec PyProof.Rows
theorem vals_cons' {x : V} {xs : List V} {its : List Value} (h : Vals (x :: xs) its) : ∃ u us, its = u :: us ∧ RelV x u ∧ Vals xs us := by
  cases h with
  | cons r t => exact ⟨_, _, rfl, r, t⟩
theorem getD_mem' {α : Type} {l : List α} {i : Nat} {d : α} (h : i < l.length) : l.getD i d ∈ l := by
  rw [List.getD_eq_getElem?_getD, List.getElem?_eq_getElem h]
  exact List.getElem_mem h
theorem range_getD {α : Type} (d : α) (l : List α) : (List.range l.length).map (fun i => l.getD i d) = l := by
  refine List.ext_getElem (by simp) fun i h1 h2 => ?_
  simp [List.getD_eq_getElem?_getD, List.getElem?_eq_getElem h2]
end L2
/-! ## a dict of texts that the module's top wrote, read by a text -/
namespace L2
open PySem PySem.Spec PyProof.Rows
end L2

/-! ## sorted() of any number of such tuples -/
namespace L2.So
open PySem PySem.W PySem.Calls PyProof.Rows
section
variable {prog : Program} {w : World} {A : Around} {E : Value → Shared → Prop} {s : Shared} {vs : List Value}
end
end L2.So
namespace L2
open PySem PySem.Spec PyProof.Rows
end L2

/-! ## tuples of three numbers, the one less than the other -/
namespace L2
open PySem PySem.Spec PyProof.Rows
section
variable {prog : Program} {w : World} {A : Around} {E : Value → Shared → Prop} {s : Shared}
/-- the triple is less, by the first part that differs -/
def lt3 (a b c a' b' c' : Int) : Bool := decide (a < a' ∨ a = a' ∧ (b < b' ∨ b = b' ∧ c < c'))
theorem lt3_tree {p q : Addr} {o o' : Obj} {n n' : Nat} {a b c a' b' c' : Int} {t1 t2 t3 u1 u2 u3 : Tok} {P : PySem.Fin → Shared → Prop} (hp : s.heap.get? p = some o) (dp : o.data = .seq #[.int a t1, .int b t2, .int c t3] n) (hq : s.heap.get? q = some o') (tq : s.TypeIs (.ref q) "tuple") (dq : o'.data = .seq #[.int a' u1, .int b' u2, .int c' u3] n') (hc : ¬ (a = a' ∧ b = b' ∧ c = c'))
    (h : P (.done (.ret (.bool (lt3 a b c a' b' c')))) s) : wpAny (model prog w) A (Builtin.«tuple.__lt__» ⟨[.ref p, .ref q], []⟩) P E s := by
  show wpAny _ _ (isInstance (.ref q) (.type "tuple") >>= _) _ _ s
  refine wpAny_bind (wpAny_isInstance tq isSubtype_tuple_tuple ?_)
  simp only [Bool.not_true, Bool.false_eq_true, if_false]
  refine wpAny_bind (wpAny_tupleItemsOf hp dp (wpAny_bind (wpAny_tupleItemsOf hq dq (wpAny_bind ?_))))
  have gt : ∀ (x y : Int), x ≠ y → (x == y) = false := fun x y h => by simp [h]
  show wpAny _ _ (forIn [(Value.int a t1, Value.int a' u1), (Value.int b t2, Value.int b' u2), (Value.int c t3, Value.int c' u3)] (none, ()) _) _ _ s
  rw [List.forIn_cons]
  refine wpAny_bind (wpAny_bind (wpAny_eqBool_int ?_))
  by_cases ha : a = a'
  · subst ha
    rw [beq_self_eq_true, if_neg (by decide)]
    refine wpAny_pure ?_
    dsimp only
    rw [List.forIn_cons]
    refine wpAny_bind (wpAny_bind (wpAny_eqBool_int ?_))
    by_cases hb : b = b'
    · subst hb
      rw [beq_self_eq_true, if_neg (by decide)]
      refine wpAny_pure ?_
      dsimp only
      rw [List.forIn_cons]
      refine wpAny_bind (wpAny_bind (wpAny_eqBool_int ?_))
      have hcc : c ≠ c' := fun z => hc ⟨rfl, rfl, z⟩
      rw [gt _ _ hcc, if_pos (show (!false) = true from rfl)]
      refine wpAny_bind (wpAny_rule (wpAny_bind (PyProof.Rows.lt_int (wpAny_bind (wpAny_pure (wpAny_pure (wpAny_pure (wpAny_pure ?_))))))))
      rw [show decide (c < c') = lt3 a b c a b c' from decide_eq_decide.mpr (by omega)]
      exact h
    · rw [gt _ _ hb, if_pos (show (!false) = true from rfl)]
      refine wpAny_bind (wpAny_rule (wpAny_bind (PyProof.Rows.lt_int (wpAny_bind (wpAny_pure (wpAny_pure (wpAny_pure (wpAny_pure ?_))))))))
      rw [show decide (b < b') = lt3 a b c a b' c' from decide_eq_decide.mpr (by omega)]
      exact h
  · rw [gt _ _ ha, if_pos (show (!false) = true from rfl)]
    refine wpAny_bind (wpAny_rule (wpAny_bind (PyProof.Rows.lt_int (wpAny_bind (wpAny_pure (wpAny_pure (wpAny_pure (wpAny_pure ?_))))))))
    rw [show decide (a < a') = lt3 a b c a' b' c' from decide_eq_decide.mpr (by omega)]
    exact h
end
end L2

/-! ## sorted() of a list of numbers -/
namespace L2
open PySem PySem.Spec PyProof.Rows
theorem vals_intsAre : ∀ {zs : List Int} {us : List Value}, Vals (zs.map V.int) us → IntsAre us zs
  | [], [], _ => .nil
  | _ :: _, _ :: _, .cons ⟨_, e⟩ t => by subst e; exact .cons _ _ (vals_intsAre t)
theorem intsAre_vals : ∀ {us : List Value} {zs : List Int}, IntsAre us zs → Vals (zs.map V.int) us
  | [], [], _ => .nil
  | _ :: _, _ :: _, h => by
    cases h with
    | cons a b c => exact .cons ⟨_, rfl⟩ (intsAre_vals (by assumption))
theorem call_sortedI {X : Cx} : CallR X (.builtin "sorted") (fun xs H Q => ∃ (p : Addr) (zs : List Int), xs = [.ref p] ∧ H p = some (.lst (zs.map V.int)) ∧ zs.length < 64 ∧ ∀ ws : List Int, ws.Perm zs → ws.Pairwise (· ≤ ·) → New H (.lst (ws.map V.int)) Q) := by
  intro pins s σ H xs us Q I r h
  obtain ⟨p, zs, rfl, hp, h64, q⟩ := h
  obtain ⟨u, rfl, ru⟩ := vals1 r
  obtain rfl : u = Value.ref p := ru
  obtain ⟨hln, its, n, rv, pl⟩ := I.hok _ _ hp
  have il : its.length = zs.length := by rw [← rv.length, List.length_map]
  refine sorted_ints ⟨_, pl, rfl, _, rfl⟩ (vals_intsAre rv) (by rw [il]; exact h64) fun out ns' a1 a2 a3 => ?_
  obtain ⟨ep, at_⟩ := sortedAll_at s.heap its out
  have hf : H (s.heap.objs.size + 1) = none := I.hok.fresh (Nat.le_succ _)
  refine ⟨.ref (s.heap.objs.size + 1), upd H (s.heap.objs.size + 1) (.lst (ns'.map V.int)), I.laid (t' := s.toks) (fun b u e => sortedAll_old e) (Nat.le_succ _) ?_, rfl, (q ns' a2 a3).at hf⟩
  exact ⟨by rw [List.length_map, a2.length_eq]; rw [List.length_map] at hln; exact hln, out.toList, ep, intsAre_vals a1, by rw [Array.toArray_toList]; exact at_⟩
end L2

/-! ## sorted() by a key: what has equal keys stays in its order -/
namespace L2.Sk
open PySem PySem.W PyProof.Rows L2.So
/-- what the tree of questions comes to, each answered by keys -/
def Ek (n : Nat) (k : Nat → Int) {α : Type} : KasT α → (α → Prop) → Prop
  | .ret a, Q => Q a
  | .ask i j f, Q => (i < n ∧ j < n) ∧ Ek n k (f (decide (k i < k j))) Q
theorem Ek.bind {n : Nat} {k : Nat → Int} {α β : Type} {f : α → KasT β} {Q : β → Prop} : ∀ {t : KasT α}, Ek n k t (fun a => Ek n k (f a) Q) → Ek n k (t.bind f) Q
  | .ret _, h => h
  | .ask _ _ g, h => ⟨h.1, Ek.bind (t := g _) h.2⟩
theorem Ek.mono {n : Nat} {k : Nat → Int} {α : Type} {Q Q' : α → Prop} (hq : ∀ a, Q a → Q' a) : ∀ {t : KasT α}, Ek n k t Q → Ek n k t Q'
  | .ret a, h => hq a h
  | .ask _ _ g, h => ⟨h.1, Ek.mono hq (t := g _) h.2⟩
theorem Ek.wp {n : Nat} {k : Nat → Int} {α : Type} {cmp : Nat → Nat → (Bool → Shared → Prop) → Shared → Prop} {s : Shared} (hc : ∀ i j C, i < n → j < n → C (decide (k i < k j)) s → cmp i j C s) {Q : α → Prop} {G : α → Shared → Prop} (hq : ∀ a, Q a → G a s) : ∀ {t : KasT α}, Ek n k t Q → t.kasWp cmp G s
  | .ret a, h => hq a h
  | .ask i j g, h => hc i j _ h.1.1 h.1.2 (Ek.wp hc hq (t := g _) h.2)
theorem Ek.yes {n : Nat} {k : Nat → Int} {α : Type} {i j : Nat} {f : Bool → KasT α} {Q : α → Prop} (hi : i < n) (hj : j < n) (h : k i < k j) (e : Ek n k (f true) Q) : Ek n k (.ask i j f) Q := ⟨⟨hi, hj⟩, by rw [decide_eq_true h]; exact e⟩
theorem Ek.no {n : Nat} {k : Nat → Int} {α : Type} {i j : Nat} {f : Bool → KasT α} {Q : α → Prop} (hi : i < n) (hj : j < n) (h : ¬ k i < k j) (e : Ek n k (f false) Q) : Ek n k (.ask i j f) Q := ⟨⟨hi, hj⟩, by rw [decide_eq_false h]; exact e⟩
/-- the rank: by the key, of equal ones by the place -/
def rk (k : Nat → Int) (i : Nat) : Int := k i * 64 + i
abbrev G0 (p : Array Nat) (x : Nat) : Nat := p.getD x 0
/-- from m on nothing has been moved -/
def Tl (n m : Nat) (p : Array Nat) : Prop := ∀ x, m ≤ x → x < n → G0 p x = x
theorem Tl.up {n m m' : Nat} {p : Array Nat} (h : Tl n m p) (hm : m ≤ m') : Tl n m' p := fun x h1 h2 => h x (Nat.le_trans hm h1) h2
theorem Tl.lt {n m : Nat} {p : Array Nat} (ho : Ok n p) (ht : Tl n m p) (hm : m ≤ n) {x : Nat} (hx : x < m) : G0 p x < m := by
  have h1 : G0 p x < n := ho.lt (show x < n by omega)
  by_cases c : G0 p x < m
  · exact c
  · exact absurd (ht (G0 p x) (by omega) h1).symm (ho.ne (i := x) (j := G0 p x) (by omega) h1)
theorem rev_at {n : Nat} {p : Array Nat} (ho : Ok n p) {a m : Nat} (hm : m ≤ n) (x : Nat) : G0 (kas_rev p a m) x = if a ≤ x ∧ x < m then G0 p (a + m - 1 - x) else G0 p x := by
  have e := getElem?_mirror_all (xs := p) (i := a) (j := m) (by rw [ho.size]; exact hm) x
  unfold G0 kas_rev
  rw [Array.getD_eq_getD_getElem?, e]
  by_cases c : a ≤ x ∧ x < m
  · rw [if_pos c, if_pos c, Array.getD_eq_getD_getElem?]
  · rw [if_neg c, if_neg c, Array.getD_eq_getD_getElem?]
theorem rev_ok' {n : Nat} {p : Array Nat} (ho : Ok n p) (i j : Nat) : Ok n (kas_rev p i j) := (mirror_perm p i j _).trans ho
theorem rev_tl {n m a : Nat} {p : Array Nat} (ho : Ok n p) (hm : m ≤ n) (ht : Tl n m p) : Tl n m (kas_rev p a m) := fun x h1 h2 => by
  rw [rev_at ho hm, if_neg (by omega)]
  exact ht x h1 h2
section
variable {n : Nat} {k : Nat → Int} (h64 : n ≤ 64)
include h64
theorem asc_ {p : Array Nat} (ho : Ok n p) : ∀ (f m : Nat), m + f = n → 1 ≤ m → Tl n m p → Up (rk k) p m → Ek n k (kas_asc p f m) (fun x => 1 ≤ x ∧ m ≤ x ∧ x ≤ n ∧ Up (rk k) p x ∧ (x = n ∨ k (G0 p x) < k (G0 p (x - 1))))
  | 0, m, hm, h1, _, hu => ⟨h1, Nat.le_refl _, by omega, hu, .inl (by omega)⟩
  | f + 1, m, hm, h1, ht, hu => by
    unfold kas_asc
    by_cases c : k (G0 p m) < k (G0 p (m - 1))
    · refine Ek.yes (ho.lt (by omega)) (ho.lt (by omega)) c ?_
      rw [if_pos rfl]
      exact ⟨h1, Nat.le_refl _, by omega, hu, .inr c⟩
    · refine Ek.no (ho.lt (by omega)) (ho.lt (by omega)) c ?_
      rw [if_neg (by decide)]
      have e1 := ht m (Nat.le_refl _) (by omega)
      have e2 := Tl.lt ho ht (by omega) (x := m - 1) (by omega)
      refine (asc_ ho f (m + 1) (by omega) (by omega) (ht.up (by omega)) (hu.one h1 ?_)).mono fun x h => ⟨h.1, by omega, h.2.2⟩
      show rk k (G0 p (m - 1)) < rk k (G0 p m)
      unfold rk
      omega
/-- a fall of ranks up to b, and behind it a block of equal keys as they came -/
structure Fl (n : Nat) (k : Nat → Int) (b m : Nat) (p : Array Nat) : Prop where
  ok : Ok n p
  tl : Tl n m p
  mn : m ≤ n
  bm : b < m
  b0 : ∀ i j, i < j → j < b → rk k (G0 p j) < rk k (G0 p i)
  b1 : ∀ i j, i < b → b ≤ j → j < m → k (G0 p j) < k (G0 p i)
  b2 : ∀ i j, b ≤ i → i < j → j < m → k (G0 p i) = k (G0 p j) ∧ G0 p i < G0 p j
theorem Fl.turn {b m : Nat} {p : Array Nat} (h : Fl n k b m p) : Dn (rk k) (kas_rev p b m) m ∧ (∀ i, i < m → k (G0 p (m - 1)) ≤ k (G0 (kas_rev p b m) i)) := by
  obtain ⟨ok, tl, mn, bm, b0, b1, b2⟩ := h
  have at1 : ∀ i, i < b → G0 (kas_rev p b m) i = G0 p i := fun i hi => by rw [rev_at ok mn, if_neg (by omega)]
  have at2 : ∀ i, b ≤ i → i < m → G0 (kas_rev p b m) i = G0 p (b + m - 1 - i) := fun i h1 h2 => by rw [rev_at ok mn, if_pos ⟨h1, h2⟩]
  refine ⟨fun i j hij hj => ?_, fun i hi => ?_⟩
  · show rk k (G0 _ j) < rk k (G0 _ i)
    by_cases c1 : j < b
    · rw [at1 i (by omega), at1 j c1]
      exact b0 i j hij c1
    · rw [at2 j (by omega) hj]
      by_cases c2 : i < b
      · rw [at1 i c2]
        have q := b1 i (b + m - 1 - j) c2 (by omega) (by omega)
        have l1 := ok.lt (k := i) (by omega)
        have l2 := ok.lt (k := b + m - 1 - j) (by omega)
        unfold rk
        unfold G0 at q ⊢
        omega
      · rw [at2 i (by omega) (by omega)]
        have q := b2 (b + m - 1 - j) (b + m - 1 - i) (by omega) (by omega) (by omega)
        unfold rk
        omega
  · by_cases c : i < b
    · rw [at1 i c]
      exact Int.le_of_lt (b1 i (m - 1) c (by omega) (by omega))
    · rw [at2 i (by omega) hi]
      by_cases e : b + m - 1 - i = m - 1
      · rw [e]; exact Int.le_refl _
      · exact Int.le_of_eq (b2 (b + m - 1 - i) (m - 1) (by omega) (by omega) (by omega)).1.symm
omit h64 in
theorem Fl.flat {b m : Nat} {p : Array Nat} (h : Fl n k b m p) (hb : b + 1 = m) : kas_rev p b m = p := by
  have e : (m - b) / 2 = 0 := by omega
  unfold kas_rev mirror
  rw [e]
  rfl
/-- one more that is less than the last -/
theorem Fl.less {b m : Nat} {p : Array Nat} (h : Fl n k b m p) (hm : m < n) (c : k (G0 p m) < k (G0 p (m - 1))) : Fl n k m (m + 1) (kas_rev p b m) := by
  have t := h.turn h64
  refine ⟨rev_ok' h.ok _ _, (rev_tl h.ok h.mn h.tl).up (by omega), by omega, by omega, fun i j hij hj => t.1 i j hij hj, fun i j hi h1 h2 => ?_, fun i j h1 h2 h3 => by omega⟩
  obtain rfl : j = m := by omega
  have := t.2 i hi
  rw [rev_at h.ok h.mn j, if_neg (by omega)]
  omega
theorem desc_ : ∀ (f m q : Nat) {p : Array Nat}, m + f = n → q + 1 ≤ m → Fl n k (m - (q + 1)) m p → Ek n k (kas_desc f p m q) (fun x => x.2.2 + 1 ≤ x.2.1 ∧ Fl n k (x.2.1 - (x.2.2 + 1)) x.2.1 x.1)
  | 0, m, q, p, hm, hq, h => ⟨hq, h⟩
  | f + 1, m, q, p, hm, hq, h => by
    unfold kas_desc
    have ho := h.ok
    by_cases c : k (G0 p m) < k (G0 p (m - 1))
    · refine Ek.yes (ho.lt (by omega)) (ho.lt (by omega)) c ?_
      rw [if_pos rfl]
      have h' := h.less h64 (by omega) c
      by_cases e : q > 0
      · rw [if_pos e]
        exact desc_ f (m + 1) 0 (by omega) (by omega) h'
      · rw [if_neg e]
        obtain rfl : q = 0 := by omega
        rw [h.flat (by omega)] at h'
        exact desc_ f (m + 1) 0 (by omega) (by omega) h'
    · refine Ek.no (ho.lt (by omega)) (ho.lt (by omega)) c ?_
      rw [if_neg (by decide)]
      by_cases d : k (G0 p (m - 1)) < k (G0 p m)
      · refine Ek.yes (ho.lt (by omega)) (ho.lt (by omega)) d ?_
        rw [if_pos rfl]
        exact ⟨hq, h⟩
      · refine Ek.no (ho.lt (by omega)) (ho.lt (by omega)) d ?_
        rw [if_neg (by decide)]
        refine desc_ f (m + 1) (q + 1) (by omega) (by omega) ?_
        rw [show m + 1 - (q + 1 + 1) = m - (q + 1) by omega]
        have em := h.tl m (Nat.le_refl _) (by omega)
        refine ⟨ho, h.tl.up (by omega), by omega, by omega, h.b0, fun i j hi h1 h2 => ?_, fun i j h1 h2 h3 => ?_⟩
        · by_cases z : j = m
          · subst z
            have := h.b1 i (j - 1) hi (by omega) (by omega)
            omega
          · exact h.b1 i j hi h1 (by omega)
        · by_cases z : j = m
          · subst z
            have lt := Tl.lt ho h.tl h.mn (x := i) (by omega)
            refine ⟨?_, by omega⟩
            by_cases y : i = j - 1
            · subst y; omega
            · have := (h.b2 i (j - 1) h1 (by omega) (by omega)).1
              omega
          · exact h.b2 i j h1 h2 (by omega)
theorem tail_ {p : Array Nat} (ho : Ok n p) {m : Nat} (h1 : 1 ≤ m) (hm : m ≤ n) (ht : Tl n m p) (hd : Dn (rk k) p m) : Ek n k (kas_tail3 m n p) (fun x => 1 ≤ x.1 ∧ x.1 ≤ n ∧ Ok n x.2 ∧ Tl n x.1 x.2 ∧ Up (rk k) x.2 x.1) := by
  unfold kas_tail3
  refine Ek.bind ((asc_ h64 (rev_ok' ho 0 m) (n - m) m (by omega) h1 (rev_tl ho hm ht) fun i j hij hj => ?_).mono fun x h => ⟨h.1, h.2.2.1, rev_ok' ho 0 m, (rev_tl ho hm ht).up h.2.1, h.2.2.2.1⟩)
  show rk k (G0 _ i) < rk k (G0 _ j)
  rw [rev_at ho hm, rev_at ho hm, if_pos (by omega), if_pos (by omega)]
  exact hd _ _ (by omega) (by omega)
theorem part_ {p : Array Nat} {m : Nat} (hm : m + 1 ≤ n) (h : Fl n k m (m + 1) p) : Ek n k (kas_descPart m n p) (fun x => 1 ≤ x.1 ∧ x.1 ≤ n ∧ Ok n x.2 ∧ Tl n x.1 x.2 ∧ Up (rk k) x.2 x.1) := by
  unfold kas_descPart
  refine Ek.bind ((desc_ h64 (n - (m + 1)) (m + 1) 0 (by omega) (by omega) h).mono fun y hy => ?_)
  obtain ⟨y1, y2, y3⟩ := y
  obtain ⟨b1, b2⟩ := hy
  dsimp only at b1 b2 ⊢
  have t := b2.turn h64
  by_cases e : y3 > 0
  · rw [if_pos e]
    exact tail_ h64 (rev_ok' b2.ok _ _) (by omega) b2.mn (rev_tl b2.ok b2.mn b2.tl) t.1
  · rw [if_neg e]
    obtain rfl : y3 = 0 := by omega
    rw [b2.flat (by omega)] at t
    exact tail_ h64 b2.ok (by omega) b2.mn b2.tl t.1
theorem count_ {p : Array Nat} (ho : Ok n p) (h1 : 1 ≤ n) (ht : Tl n 0 p) : Ek n k (kas_count n p) (fun x => 1 ≤ x.1 ∧ x.1 ≤ n ∧ Ok n x.2 ∧ Tl n x.1 x.2 ∧ Up (rk k) x.2 x.1) := by
  unfold kas_count
  refine Ek.bind ((asc_ h64 ho (n - 1) 1 (by omega) (Nat.le_refl _) (ht.up (by omega)) fun i j hij hj => by omega).mono fun x h => ?_)
  obtain ⟨a1, _, a2, hu, hx⟩ := h
  by_cases e : x = n
  · rw [if_pos (by simp [e])]
    exact ⟨a1, a2, ho, ht.up (by omega), hu⟩
  rw [if_neg (by simp [e])]
  have c := hx.resolve_left e
  by_cases e1 : x > 1
  · rw [if_pos e1]
    by_cases d : k (G0 p 0) < k (G0 p (x - 1))
    · refine Ek.yes (ho.lt (by omega)) (ho.lt (by omega)) d ?_
      rw [if_pos rfl]
      exact ⟨a1, a2, ho, ht.up (by omega), hu⟩
    · refine Ek.no (ho.lt (by omega)) (ho.lt (by omega)) d ?_
      rw [if_neg (by decide)]
      have up : ∀ i j, i ≤ j → j < x → k (G0 p i) ≤ k (G0 p j) := fun i j hij hj => by
        by_cases z : i = j
        · rw [z]; exact Int.le_refl _
        · have q : rk k (G0 p i) < rk k (G0 p j) := hu i j (by omega) hj
          have l1 := ho.lt (k := i) (by omega)
          have l2 := ho.lt (k := j) (by omega)
          unfold rk at q
          unfold G0 at q ⊢
          omega
      have eqk : ∀ i, i < x → k (G0 p i) = k (G0 p (x - 1)) := fun i hi => by
        have q1 := up 0 i (by omega) hi
        have q2 := up i (x - 1) (by omega) (by omega)
        omega
      refine part_ h64 (by omega) ⟨rev_ok' ho _ _, (rev_tl ho (by omega) (ht.up (by omega))).up (by omega), by omega, by omega, fun i j hij hj => ?_, fun i j hi h1 h2 => ?_, fun i j h1 h2 h3 => by omega⟩
      · rw [rev_at ho (by omega), rev_at ho (by omega), if_pos (by omega), if_pos (by omega)]
        exact hu _ _ (by omega) (by omega)
      · obtain rfl : j = x := by omega
        rw [rev_at ho (by omega) j, rev_at ho (by omega) i, if_neg (by omega), if_pos (by omega), eqk (0 + j - 1 - i) (by omega)]
        exact c
  rw [if_neg e1]
  obtain rfl : x = 1 := by omega
  refine part_ h64 (by omega) ⟨ho, ht.up (by omega), by omega, by omega, fun i j hij hj => by omega, fun i j hi h1 h2 => ?_, fun i j h1 h2 h3 => by omega⟩
  obtain rfl : j = 1 := by omega
  obtain rfl : i = 0 := by omega
  exact c
theorem place_ {p : Array Nat} (ho : Ok n p) {m : Nat} (hm : m < n) (ht : Tl n m p) (hu : Up (rk k) p m) : ∀ (f a b : Nat), b - a ≤ f → a ≤ b → b ≤ m → (∀ i, i < a → fv (rk k) p i < fv (rk k) p m) → (∀ i, b ≤ i → i < m → fv (rk k) p m < fv (rk k) p i) → Ek n k (kas_place p m f a b) (fun l => l ≤ m ∧ (∀ i, i < l → fv (rk k) p i < fv (rk k) p m) ∧ ∀ i, l ≤ i → i < m → fv (rk k) p m < fv (rk k) p i)
  | 0, a, b, hf, ab, bk, h1, h2 => by
    obtain rfl : a = b := by omega
    exact ⟨bk, h1, h2⟩
  | f + 1, a, b, hf, ab, bk, h1, h2 => by
    unfold kas_place
    by_cases e : a ≥ b
    · rw [if_pos e]
      obtain rfl : a = b := by omega
      exact ⟨bk, h1, h2⟩
    rw [if_neg e]
    have em := ht m (Nat.le_refl _) hm
    have lt := Tl.lt ho ht (by omega) (x := (a + b) / 2) (by omega)
    by_cases c : k (G0 p m) < k (G0 p ((a + b) / 2))
    · refine Ek.yes (ho.lt hm) (ho.lt (by omega)) c ?_
      rw [if_pos rfl]
      have c' : fv (rk k) p m < fv (rk k) p ((a + b) / 2) := by
        show rk k (G0 p m) < rk k (G0 p ((a + b) / 2))
        unfold rk
        omega
      refine place_ ho hm ht hu f a ((a + b) / 2) (by omega) (by omega) (by omega) h1 fun i hi ik => ?_
      by_cases z : i = (a + b) / 2
      · rw [z]; exact c'
      · exact Int.lt_trans c' (hu _ _ (by omega) ik)
    · refine Ek.no (ho.lt hm) (ho.lt (by omega)) c ?_
      rw [if_neg (by decide)]
      have c' : fv (rk k) p ((a + b) / 2) < fv (rk k) p m := by
        show rk k (G0 p ((a + b) / 2)) < rk k (G0 p m)
        unfold rk
        omega
      refine place_ ho hm ht hu f ((a + b) / 2 + 1) b (by omega) (by omega) bk (fun i hi => ?_) h2
      by_cases z : i = (a + b) / 2
      · rw [z]; exact c'
      · exact Int.lt_trans (hu i ((a + b) / 2) (by omega) (by omega)) c'
theorem bin_ : ∀ (f m : Nat) {p : Array Nat}, Ok n p → m + f = n → Tl n m p → Up (rk k) p m → Ek n k (kas_bin f p m) (fun q => Ok n q ∧ Up (rk k) q n)
  | 0, m, p, ho, hk, _, hu => ⟨ho, by
    obtain rfl : m = n := by omega
    exact hu⟩
  | f + 1, m, p, ho, hk, ht, hu => by
    unfold kas_bin
    refine Ek.bind ((place_ h64 ho (by omega) ht hu m 0 m (by omega) (by omega) (Nat.le_refl _) (fun i hi => by omega) fun i h1 h2 => by omega).mono fun l h => ?_)
    obtain ⟨lk, h1, h2⟩ := h
    have ho' : Ok n (bubble p m (m - l)) := (bubble_perm p m _).trans ho
    have gt : ∀ x, G0 (bubble p m (m - l)) x = if x = l then G0 p m else if l < x ∧ x ≤ m then G0 p (x - 1) else G0 p x := fun x => by
      have e := getElem?_bubble (xs := p) (src := m) (by rw [ho.size]; omega) (m - l) (by omega) x
      rw [show m - (m - l) = l by omega] at e
      unfold G0
      rw [Array.getD_eq_getD_getElem?, e]
      by_cases z1 : x = l
      · rw [if_pos z1, if_pos z1, Array.getD_eq_getD_getElem?]
      · rw [if_neg z1, if_neg z1]
        by_cases z2 : l < x ∧ x ≤ m
        · rw [if_pos z2, if_pos z2, Array.getD_eq_getD_getElem?]
        · rw [if_neg z2, if_neg z2, Array.getD_eq_getD_getElem?]
    refine bin_ f (m + 1) ho' (by omega) (fun x a1 a2 => ?_) fun i j hij hj => ?_
    · rw [gt, if_neg (by omega), if_neg (by omega)]
      exact ht x (by omega) a2
    show rk k (G0 _ i) < rk k (G0 _ j)
    rw [gt, gt]
    by_cases z1 : i = l
    · rw [if_pos z1, if_neg (by omega), if_pos (by omega)]
      exact h2 _ (by omega) (by omega)
    · rw [if_neg z1]
      by_cases z2 : l < i
      · rw [if_pos (by omega), if_neg (by omega), if_pos (by omega)]
        exact hu _ _ (by omega) (by omega)
      · rw [if_neg (by omega)]
        by_cases z3 : j = l
        · rw [if_pos z3]
          exact h1 i (by omega)
        · rw [if_neg z3]
          by_cases z4 : l < j
          · rw [if_pos (by omega)]
            exact hu _ _ (by omega) (by omega)
          · rw [if_neg (by omega)]
            exact hu _ _ hij (by omega)
theorem sort_ (h1 : 1 ≤ n) : Ek n k (kas_sort n) (fun p => Ok n p ∧ Up (rk k) p n) := by
  unfold kas_sort
  refine Ek.bind ((count_ h64 (Array.Perm.refl _) h1 fun x _ hx => by simp [G0, Array.getD, hx]).mono fun x h => ?_)
  obtain ⟨a1, a2, ho, ht, hu⟩ := h
  by_cases e : x.1 < n
  · rw [if_pos e, Nat.max_eq_left a1]
    exact bin_ h64 (n - x.1) x.1 ho (by omega) ht hu
  · rw [if_neg e]
    obtain e2 : x.1 = n := by omega
    rw [e2] at hu
    exact ⟨ho, hu⟩
end
end L2.Sk
/-! ## a lambda that takes nothing from where it is made -/
namespace L2
open PySem PySem.Spec PyProof.Rows
abbrev lamObj (qual : Str) (params : Arguments) (body : Expr) (scope : Scope) (pm : Value) (c' : Addr) (ctv : Value) : Obj := PySem.W.kla_obj "<lambda>" qual params body scope [] pm c' ctv
theorem lam_run {CX : CXT} {P : Program} {w : World} {K : PySem.W.Frag} {mg : Str → Option Value} {base : Heap} {k : Nat} {f c' : Addr} {qual : Str} {params : Arguments} {body : Expr} {scope : Scope} {pm ctv : Value} {N ps : List Str} {A : Around} {outer : List Env} {s : Shared} {H : Hp} {vs : List V} {us : List Value} {Q : VK} {E : XK} {te : TE}
    (hr : Room (k + 1) A) (e0 : Env0 P w K mg base A outer s H) (ho : s.heap.get? f = some (lamObj qual params body scope pm c' ctv)) (hcd : s.heap.CodeRec (.ref c') qual) (S : FnScope N ps scope) (hl : vs.length = ps.length)
    (hbind : bindArgs (PySem.W.kla_fn "<lambda>" qual params body scope [] pm (.ref c') ctv) ⟨us, []⟩ = pure (ps.zip us)) (r : Vals vs us)
    (hb : PE (cxOf CX P w K mg base N qual scope f (.ref c') A outer s H E) body te) (q : te (start N vs) H Q) :
    codeAny (model P w) A (.call (.ref f) ⟨us, []⟩) (CR CX outer P w H s Q E) s := by
  have lim : s.heap.NoLimit := e0.mod.nolimit.keeps fun b o e => (e0.bs b o e).1
  have hkind : ∀ y ∈ ps.zip us, scope.names.lookup y.1 = some .local ∨ (scope.names.lookup y.1 = some .cell ∧ ((cellsFrom (s.heap.objs.size + 1) scope.names []).lookup y.1).isSome = true) := fun ⟨n, v⟩ hy => by
    rcases S.par n (List.of_mem_zip hy).1 with q | q
    · exact .inl q
    · exact .inr ⟨q, PySem.W.cellsFrom_some _ _ _ (.inl q)⟩
  refine PySem.W.kla_callFunE hr.depth ho rfl S.co S.gen rfl hcd ?_
  rw [hbind]
  refine wpAny_pure (wpAny_newFunctionEnv_cells S.kind hkind fun env he s1 x => ?_)
  subst he
  refine ⟨lim.keeps x.toInCall.keep, PySem.W.kla_codeExpr ?_⟩
  have I : Inv (cxOf CX P w K mg base N qual scope f (.ref c') A outer s H E) [] (start N vs) H s1 := inv_start S hr.hd e0 hl r x
  refine wpAny_mono (hb [] s1 (start N vs) H _ I q) (fun u s' hs => ?_) fun e s' hs => hs
  obtain ⟨v, H', J, rv, q'⟩ := hs
  exact ⟨v, H', J.os, J.bare, J.base, J.hok, rv, q'⟩
end L2
namespace L2
open PySem PySem.Spec PyProof.Rows
/-- the lambda's object, its code's object -/
def LamE (f : Addr) (qual : Str) (params : Arguments) (body : Expr) (scope : Scope) (c' : Addr) : HO := .ext fun h => ∃ pm ctv, h.get? f = some (lamObj qual params body scope pm c' ctv)
def CodE (c' : Addr) (qual : Str) : HO := .ext fun h => h.CodeRec (.ref c') qual
/-- the table of the codes that a def has made, as far as the lambda at pos is concerned -/
def TabOk (H : Hp) (P : Addr) (pos : Pos) (qual : Str) : Prop := ∃ ps, H P = some (.tbl ps) ∧ TriplesOk ps.toList ∧ (codeAmong pos ps.toList = none ∨ ∃ c', codeAmong pos ps.toList = some (.ref c') ∧ H c' = some (CodE c' qual))
/-- all but the table as it was -/
def Grew (P : Addr) (H H' : Hp) : Prop := ∀ b o, b ≠ P → H b = some o → H' b = some o
theorem Grew.trans {P : Addr} {H H1 H2 : Hp} (a : Grew P H H1) (b : Grew P H1 H2) : Grew P H H2 := fun c o n h => b c o n (a c o n h)
theorem Same.grew {P : Addr} {H H' : Hp} (s : Same H H') : Grew P H H' := fun b o _ h => s b o h
/-- what the start laid of the module builtins -/
def BM (mg : Str → Option Value) (base : Heap) : Prop := ∃ bm ob, mg "__builtins__" = some (.ref bm) ∧ bm ≠ builtinsNs ∧ base.get? bm = some ob ∧ ob.cls = .type "module" ∧ ob.dict = some builtinsNs ∧ ob.data = .plain
theorem lam_ext {H : Hp} {h : Heap} {P : Program} {w : World} {f c' : Addr} {qual : Str} {params : Arguments} {body : Expr} {scope : Scope} {pm ctv : Value} (e : h.get? f = some (lamObj qual params body scope pm c' ctv)) : ObjOk P w H h f (LamE f qual params body scope c') :=
  ⟨⟨pm, ctv, e⟩, ⟨_, e⟩, fun h1 h2 ⟨p, c, q⟩ k => ⟨p, c, k _ q⟩⟩
theorem cod_ext {H : Hp} {h : Heap} {P : Program} {w : World} {c' : Addr} {qual : Str} (e : h.CodeRec (.ref c') qual) : ObjOk P w H h c' (CodE c' qual) := by
  refine ⟨e, ?_, fun h1 h2 q k => ?_⟩
  · obtain ⟨c, oc, vs, tq, e1, e2, _⟩ := e
    cases e1
    exact ⟨oc, e2⟩
  · obtain ⟨c, oc, vs, tq, e1, e2, e3⟩ := q
    cases e1
    exact ⟨_, oc, vs, tq, rfl, k _ e2, e3⟩
section
variable {X : Cx} {pins : List (Addr × Obj)} {σ : St} {H : Hp} {s : Shared}
/-- a table that grew, a code laid -/
theorem Inv.tabbed {P c' : Addr} {ps more : Array Value} {qual : Str} {h' : Heap} {t' : Nat} (I : Inv X pins σ H s) (hP : H P = some (.tbl ps)) (hx : Heap.ExtBut P s.heap h') (hc : s.heap.objs.size ≤ c') (hr : h'.CodeRec (.ref c') qual) (ht : h'.get? P = some (PySem.W.tabObj (ps ++ more))) :
    Inv X pins σ (upd (upd H P (.tbl (ps ++ more))) c' (CodE c' qual)) { s with heap := h', toks := t' } := by
  have hn : H c' = none := I.hok.fresh hc
  have cP : c' ≠ P := fun z => by rw [z, hP] at hn; cases hn
  have at_ : ∀ b, b ≠ P → b ≠ c' → upd (upd H P (.tbl (ps ++ more))) c' (CodE c' qual) b = H b := fun b h1 h2 => by rw [upd_ne h2, upd_ne h1]
  have nP : ∀ b o, H b = some o → (∀ q, o ≠ .tbl q) → b ≠ P := fun b o e n z => by
    rw [z, hP] at e
    exact n _ (Option.some.inj e).symm
  have nC : ∀ b o, H b = some o → b ≠ c' := fun b o e z => by rw [z, hn] at e; cases e
  refine I.un ⟨fun b o e n _ _ => hx b o (fun z => by rw [z, hP] at n; cases n) e, fun b o e n _ _ => ⟨o.slots, hx b o (fun z => by rw [z, hP] at n; cases n) e⟩, fun b o e n _ => ?_, fun b o e _ => ?_, fun b xs e => ?_, fun b o u e => ?_, fun b q e => ?_⟩ (fun b o e => ?_)
  · rw [at_ b (fun z => by rw [z, hP] at n; cases n) (Nat.ne_of_lt (Nat.lt_of_lt_of_le (Heap.lt_size e) hc))]
    exact n
  · by_cases z : b = P
    · rw [z]; exact ⟨_, ht⟩
    · exact ⟨o, hx b o z e⟩
  · rw [at_ b (nP b _ e fun q => by intro z; cases z) (nC b _ e)]
    exact e
  · rw [at_ b (nP b _ e fun q => by intro z; cases z) (nC b _ e)]
    exact e
  · by_cases z : b = P
    · subst z
      rw [hP] at e
      cases e
      exact ⟨more, by rw [upd_ne (Ne.symm cP), upd_same]⟩
    · exact ⟨#[], by rw [at_ b z (nC b _ e), e]; simp⟩
  · by_cases z : b = c'
    · subst z
      rw [upd_same] at e
      cases e
      exact cod_ext hr
    · by_cases y : b = P
      · subst y
        rw [upd_ne z, upd_same] at e
        cases e
        exact ht
      · rw [at_ b y z] at e
        refine (I.hok b o e).stay (fun c v hc' q => hx c v ?_ q) (fun c q => ?_) fun c xs q => ?_
        · rcases hc' with rfl | hc'
          · exact y
          · exact nP c _ hc' fun q => by intro z; cases z
        · rw [at_ c (nP c _ q fun q => by intro z; cases z) (nC c _ q)]
          exact q
        · rw [at_ c (nP c _ q fun q => by intro z; cases z) (nC c _ q)]
          exact q
/-- a lambda is made -/
def tLam (P : Addr) (pos : Pos) (qual : Str) (params : Arguments) (body : Expr) (scope : Scope) : TE := fun _ H Q => TabOk H P pos qual ∧ ∀ f c' H', Grew P H H' → TabOk H' P pos qual → H f = none → H' f = some (LamE f qual params body scope c') → H' c' = some (CodE c' qual) → Q (.ref f) H'
theorem pe_lam {params : Arguments} {body : Expr} {scope : Scope} {pos : Pos} {c P : Addr} (hcode : X.env.code = .ref c) (hB : BM X.mg X.base) (C : ∀ h : Heap, X.K.In h → PySem.W.CodeHd h c P) (hdef : defaultsOf params X.env = ([], []) := by rfl) (hcl : closureFor scope X.env = pure [] := by rfl) :
    PE X (.Lambda params body scope pos) (tLam P pos (X.env.qual ++ "<lambda>") params body scope) := by
  intro pins s σ H Q I h
  obtain ⟨⟨ps, hP, tr, am⟩, q⟩ := h
  have hPs : s.heap.get? P = some (PySem.W.tabObj ps) := I.hok P _ hP
  have hns := I.mod.glob.keeps I.bk
  obtain ⟨bm, ob, b1, b2, b3, b4, b5, b6⟩ := hB
  have b3' := I.bk _ _ b3
  have hgP : mainGlobals ≠ P := fun z => by
    obtain ⟨o, es, ep, e, hd, _⟩ := hns
    rw [z, hPs] at e; cases e; cases hd
  have hbP : bm ≠ P := fun z => by rw [z, hPs] at b3'; cases b3'; cases b4
  have hbG : bm ≠ mainGlobals := fun z => by
    obtain ⟨o, es, ep, e, hd, _⟩ := hns
    rw [z, e] at b3'; cases b3'; rw [hd] at b6; cases b6
  have hb : s.heap.BuiltinsAt X.mg P := ⟨bm, ob, b1, b2, hbG, hbP, b3', b4, b5, b6⟩
  refine PySem.W.kla_eval hdef ?_
  rcases am with hn | ⟨c', hh, hc'⟩
  · refine PySem.W.kla_makeFunction hcl I.ok.glob hns hcode (C _ I.kIn) hPs tr hn hgP hb fun c' ctv h' tk hx hge hlt hrec htb => ?_
    have J := I.tabbed (t' := tk) hP hx hge hrec htb
    have hf : upd (upd H P (.tbl (ps ++ #[rawInt pos.line, rawInt pos.col, .ref c']))) c' (CodE c' (X.env.qual ++ "<lambda>")) h'.objs.size = none := J.hok.fresh (Nat.le_refl _)
    have hn' : H c' = none := I.hok.fresh hge
    have cP : c' ≠ P := fun z => by rw [z, hP] at hn'; cases hn'
    have J2 := J.laid (t' := tk) (a := h'.objs.size) (o := LamE h'.objs.size (X.env.qual ++ "<lambda>") params body scope c') (h' := h'.push (lamObj (X.env.qual ++ "<lambda>") params body scope ((X.mg "__name__").getD .none) c' ctv)) (fun b u e => Heap.get?_push_of_some _ e) (Nat.le_refl _) (lam_ext (Heap.get?_push_size _ rfl))
    have fc : h'.objs.size ≠ c' := Nat.ne_of_gt hlt
    have fP : h'.objs.size ≠ P := Nat.ne_of_gt (Heap.lt_size htb)
    refine ⟨.ref h'.objs.size, _, J2, rfl, q _ c' _ (fun b o n e => ?_) ⟨ps ++ #[rawInt pos.line, rawInt pos.col, .ref c'], ?_, ?_, .inr ⟨c', ?_, ?_⟩⟩ ?_ upd_same ?_⟩
    · have n1 : b ≠ c' := fun z => by rw [z, hn'] at e; cases e
      have n2 : b ≠ h'.objs.size := fun z => by
        rw [z, I.hok.fresh (Nat.le_trans hge (Nat.le_of_lt hlt))] at e
        cases e
      rw [upd_ne n2, upd_ne n1, upd_ne n]
      exact e
    · rw [upd_ne (Ne.symm fP), upd_ne (Ne.symm cP), upd_same]
    · rw [Array.toList_append]
      exact TriplesOk_snoc _ _ _ _ tr
    · rw [Array.toList_append]
      exact codeAmong_snoc _ tr hn
    · rw [upd_ne (Ne.symm fc), upd_same]
    · exact I.hok.fresh (Nat.le_trans hge (Nat.le_of_lt hlt))
    · rw [upd_ne (Ne.symm fc), upd_same]
  · refine PySem.W.kla_makeFunctionHit hcl I.ok.glob hns hcode (C _ I.kIn) hPs tr hh hb fun ctv h' tk hk hsz => ?_
    have J := I.kept (t' := tk) hk
    have hf : H h'.objs.size = none := J.hok.fresh (Nat.le_refl _)
    have J2 := J.laid (t' := tk) (a := h'.objs.size) (o := LamE h'.objs.size (X.env.qual ++ "<lambda>") params body scope c') (h' := h'.push (lamObj (X.env.qual ++ "<lambda>") params body scope ((X.mg "__name__").getD .none) c' ctv)) (fun b u e => Heap.get?_push_of_some _ e) (Nat.le_refl _) (lam_ext (Heap.get?_push_size _ rfl))
    have sm := same_new hf (LamE h'.objs.size (X.env.qual ++ "<lambda>") params body scope c')
    exact ⟨.ref h'.objs.size, _, J2, rfl, q _ c' _ sm.grew ⟨ps, sm _ _ hP, tr, .inr ⟨c', hh, sm _ _ hc'⟩⟩ hf upd_same (sm _ _ hc')⟩
end
end L2
namespace L2
open PySem PySem.Spec PyProof.Rows
/-- what lies behind all that was there -/
structure Fsh (X : Cx) (pins : List (Addr × Obj)) (H : Hp) (a : Addr) : Prop where
  s0 : X.s₀.heap.objs.size ≤ a
  ne : a ≠ X.env.locals
  cl : ∀ x c, X.env.cells.lookup x = some c → c ≠ a
  pi : ∀ p ∈ X.pn ++ pins, p.1 ≠ a
  fs : a ∉ frs X.stack
  hn : H a = none
section
variable {X : Cx} {pins : List (Addr × Obj)} {σ : St} {H : Hp} {s : Shared}
theorem Inv.fsh (I : Inv X pins σ H s) {a : Addr} (h : s.heap.objs.size ≤ a) : Fsh X pins H a := by
  refine ⟨Nat.le_trans I.sz h, Nat.ne_of_gt (Nat.lt_of_lt_of_le I.lt h), fun x c e z => ?_, fun p hp z => ?_, fun hb => ?_, I.hok.fresh h⟩
  · obtain ⟨v, o, ho, _⟩ := I.cell x c e
    exact absurd (Heap.lt_size ho) (Nat.not_lt.mpr (z ▸ h))
  · exact absurd (Heap.lt_size (I.pin p hp).1) (Nat.not_lt.mpr (z ▸ h))
  · rcases List.mem_cons.mp (I.stkSub a hb) with e | hb
    · exact absurd I.lt (Nat.not_lt.mpr (e ▸ h))
    · exact I.nofs h hb
/-- a record of our own was changed -/
theorem Inv.own {it : Addr} {h' : Heap} {t' : Nat} (I : Inv X pins σ H s) (F : Fsh X pins H it) (hs : Heap.SameBut it s.heap h') : Inv X pins σ H { s with heap := h', toks := t' } :=
  I.turned (fun b o n e => (hs.2 b n).trans e) F.hn F.ne (.inr F.s0) F.cl F.pi
/-- a record of our own is taken into the heap that is told of -/
theorem Inv.adopt {a : Addr} {o : HO} {t' : Nat} (I : Inv X pins σ H s) (F : Fsh X pins H a) (new : ObjOk X.prog X.w (upd H a o) s.heap a o) : Inv X pins σ (upd H a o) { s with toks := t' } := by
  have ne : ∀ b u, H b = some u → b ≠ a := fun b u e z => by rw [z, F.hn] at e; cases e
  refine I.step (h' := s.heap) (g' := s.gens) (d' := s.drawn) (ch := [a]) (fun b hb => ?_) (fun b o _ _ _ e _ => e) (fun b o _ _ _ e _ => ⟨o.slots, e⟩) (fun b o hb _ n => ?_) (fun b o _ e => ⟨o, e⟩) (fun b xs e => ?_) (fun b u xs e => ?_) (fun b ps e => ⟨#[], ?_⟩) (fun m h => h) (fun b u e => ?_) I.bare
  · obtain rfl : b = a := by simpa using hb
    exact ⟨.inr F.s0, F.ne, F.cl, F.pi⟩
  · rw [upd_ne (fun z => hb (by simp [z]))]
    exact n
  · rw [upd_ne (ne b _ e)]; exact e
  · rw [upd_ne (ne b _ e)]; exact e
  · rw [upd_ne (ne b _ e), e]; simp
  · by_cases z : b = a
    · subst z
      rw [upd_same] at e
      cases e
      exact new
    · rw [upd_ne z] at e
      exact (I.hok b u e).stay (fun _ _ _ q => q) (fun c q => by rw [upd_ne (ne c _ q)]; exact q) fun c xs q => by rw [upd_ne (ne c _ q)]; exact q
theorem vals_get {xs : List V} {us : List Value} (r : Vals xs us) {j : Nat} {u : Value} (e : us[j]? = some u) : ∃ x, xs[j]? = some x ∧ RelV x u := by
  induction r generalizing j with
  | nil => cases e
  | cons h t ih =>
    cases j with
    | zero =>
      cases e
      exact ⟨_, rfl, h⟩
    | succ j => exact ih e
theorem vals_pick {xs : List V} {us : List Value} (r : Vals xs us) : ∀ ix : List Nat, (∀ i ∈ ix, i < xs.length) → Vals (ix.map fun i => xs.getD i .non) (ix.map fun i => us.getD i Value.none)
  | [], _ => .nil
  | i :: ix, h => by
    refine .cons ?_ (vals_pick r ix fun j hj => h j (List.mem_cons_of_mem _ hj))
    have hi := h i (List.mem_cons_self ..)
    have hu : i < us.length := by rw [← r.length]; exact hi
    obtain ⟨x, e1, e2⟩ := vals_get r (List.getElem?_eq_getElem hu)
    dsimp only
    rw [List.getD_eq_getElem?_getD, e1, List.getD_eq_getElem?_getD, List.getElem?_eq_getElem hu]
    exact e2
theorem ints_getD {ks : List Value} {zs : List Int} (h : IntsAre ks zs) {i : Nat} (hi : i < zs.length) : ∃ t, ks.getD i Value.none = .int (zs.getD i 0) t := by
  obtain ⟨t, e⟩ := h.get i _ (List.getElem?_eq_getElem hi)
  exact ⟨t, by rw [List.getD_eq_getElem?_getD, e, List.getD_eq_getElem?_getD, List.getElem?_eq_getElem hi]; rfl⟩
/-- the numbers of a list's items in the order of the keys, equal ones as they stand -/
def ByKey (kz : List Int) (ix : List Nat) : Prop := ix.Perm (List.range kz.length) ∧ ix.Pairwise fun i j => kz.getD i 0 < kz.getD j 0 ∨ kz.getD i 0 = kz.getD j 0 ∧ i < j
theorem call_sortedK {k : Nat} {qual x : Str} {params : Arguments} {body : Expr} {scope : Scope} {N : List Str} {te : TE} (hr : Room (k + 3) X.A) (S : FnScope N [x] scope)
    (hbind : ∀ pm c' ctv u, bindArgs (PySem.W.kla_fn "<lambda>" qual params body scope [] pm (.ref c') ctv) ⟨[u], []⟩ = pure [(x, u)])
    (hb : ∀ f c' A outer s H, PE (cxOf CX0 X.prog X.w X.K X.mg X.base N qual scope f (.ref c') A outer s H E0) body te) {us kws : List Value} {xs ws : List V} {Q : VK}
    (I : Inv X pins σ H s) (r : Vals xs us) (rk : Vals ws kws)
    (h : ∃ (p f c' : Addr) (vs : List V) (kz : List Int), xs = [.ref p] ∧ ws = [.ref f] ∧ H p = some (.lst vs) ∧ H f = some (LamE f qual params body scope c') ∧ H c' = some (CodE c' qual) ∧ kz.length = vs.length ∧ vs.length < 64 ∧
      (∀ (i : Nat) (v : V) (z : Int), vs[i]? = some v → kz[i]? = some z → te (start N [v]) H (fun y H' => y = .int z ∧ H' = H)) ∧ ∀ ix, ByKey kz ix → New H (.lst (ix.map fun i => vs.getD i .non)) Q) :
    wpAny (model X.prog X.w) X.A (call (.builtin "sorted") us [(Str.ofString "key", kws.getD 0 .none)]) (EP X pins σ Q) X.xe s := by
  obtain ⟨p, f, c', vs, kz, rfl, rfl, hp, hf, hc, hkz, h64, hte, q⟩ := h
  obtain ⟨u, rfl, ru⟩ := vals1 r
  obtain rfl : u = Value.ref p := ru
  obtain ⟨u, rfl, ru⟩ := vals1 rk
  obtain rfl : u = Value.ref f := ru
  obtain ⟨hln, its, n, rv, pl⟩ := I.hok _ _ hp
  have hil : its.length = vs.length := by rw [← rv.length]
  have hl : s.heap.IsList p its.toArray := ⟨_, pl, rfl, _, rfl⟩
  show wpAny _ _ (call (.builtin "sorted") [.ref p] [(Str.ofString "key", .ref f)]) _ _ _
  refine call_function_entry_kw kind_sorted plain_sorted entry_sorted (ksk_s1 _ _) ?_
  unfold Builtin.«sorted»
  refine wpAny_bind (m := checkCount "sorted" 1 1 _) (wpAny_pure ?_)
  refine wpAny_bind (collect_list hl ?_ (by rw [sizeLine_eq]; omega))
  refine wpAny_bind (wpAny_newList ?_ (by rw [sizeLine_eq]; omega))
  have hsz : ((s.heap.push (seqObj "list" #[] 0)).update s.heap.objs.size (Obj.mapSeq (· ++ its.toArray))).objs.size = s.heap.objs.size + 1 := by
    rw [Heap.size_update, size_push']
  have hoL : (((s.heap.push (seqObj "list" #[] 0)).update s.heap.objs.size (Obj.mapSeq (· ++ its.toArray))).push (seqObj "list" its.toArray 0)).get? (s.heap.objs.size + 1) = some (seqObj "list" its.toArray 0) := by
    rw [← hsz]; exact Heap.get?_push_size _ rfl
  have keep : ∀ b o, s.heap.get? b = some o → (((s.heap.push (seqObj "list" #[] 0)).update s.heap.objs.size (Obj.mapSeq (· ++ its.toArray))).push (seqObj "list" its.toArray 0)).get? b = some o := fun b o e => by
    have hlt : b < s.heap.objs.size := Heap.lt_size e
    refine Heap.get?_push_of_some _ ?_
    rw [Heap.get?_update_ne _ _ _ _ (Nat.ne_of_lt hlt)]
    exact Heap.get?_push_of_some _ e
  show wpAny _ _ _ _ _ { s with heap := ((s.heap.push (seqObj "list" #[] 0)).update s.heap.objs.size (Obj.mapSeq (· ++ its.toArray))).push (seqObj "list" its.toArray 0) }
  rw [hsz]
  have Fa : Fsh X pins H (s.heap.objs.size + 1) := I.fsh (Nat.le_succ _)
  have hsz2 : (((s.heap.push (seqObj "list" #[] 0)).update s.heap.objs.size (Obj.mapSeq (· ++ its.toArray))).push (seqObj "list" its.toArray 0)).objs.size = s.heap.objs.size + 2 := by rw [size_push', hsz]
  generalize hh1 : ((s.heap.push (seqObj "list" #[] 0)).update s.heap.objs.size (Obj.mapSeq (· ++ its.toArray))).push (seqObj "list" its.toArray 0) = h1 at hoL keep hsz2
  have I1 : Inv X pins σ H { s with heap := h1 } := I.kept (t' := s.toks) keep
  obtain ⟨a, ha⟩ : ∃ a, a = s.heap.objs.size + 1 := ⟨_, rfl⟩
  rw [← ha] at hoL Fa ⊢
  refine wpAny_bind (wpAny_holding (wpAny_call_entry_kw slot_list_sort ⟨_, hoL, rfl⟩ entry_list_sort ?body (ksk_l1 _ _)))
  show wpAny (model X.prog X.w) X.A.in1.in1 (Builtin.«list.sort» ⟨[.ref a], [(Str.ofString "key", .ref f)]⟩) _ _ _
  rw [ksk_t1]
  unfold ksk_tree
  refine wpAny_bind (listItems_at hoL rfl ?_)
  refine wpAny_bind (listUpdate_at hoL rfl ?_ (by rw [List.size_toArray, sizeLine_eq]; omega) (Nat.zero_le _))
  obtain ⟨e1, ho1⟩ : ∃ e1, (h1.update a (Obj.mapSeq fun _ => (#[] : Array Value))).get? a = some (seqObj "list" #[] e1) := ⟨_, get?_update_seq hoL fun _ => #[]⟩
  have I2 : Inv X pins σ H { s with heap := h1.update a (Obj.mapSeq fun _ => (#[] : Array Value)) } := I1.own (t' := s.toks) Fa (Heap.SameBut.update h1 a _)
  refine wpAny_bind (seqEpoch_at ho1 rfl ?_)
  refine wpAny_bind (wpAny_newTuple ?_ (by show its.length ≤ _; rw [sizeLine_eq]; omega))
  refine wpAny_bind (wpAny_newList ?_ (Nat.zero_le _))
  refine wpAny_holding ?_
  have hsz3 : (h1.update a (Obj.mapSeq fun _ => (#[] : Array Value))).objs.size = s.heap.objs.size + 2 := by rw [Heap.size_update, hsz2]
  show wpAny _ _ _ _ _ { s with heap := ((h1.update a (Obj.mapSeq fun _ => (#[] : Array Value))).push (seqObj "tuple" its.toArray 0)).push (seqObj "list" #[] 0) }
  have I3 : Inv X pins σ H { s with heap := ((h1.update a (Obj.mapSeq fun _ => (#[] : Array Value))).push (seqObj "tuple" its.toArray 0)).push (seqObj "list" #[] 0) } := I2.kept (t' := s.toks) fun b o e => Heap.get?_push_of_some _ (Heap.get?_push_of_some _ e)
  have ho3 : (((h1.update a (Obj.mapSeq fun _ => (#[] : Array Value))).push (seqObj "tuple" its.toArray 0)).push (seqObj "list" #[] 0)).get? a = some (seqObj "list" #[] e1) := Heap.get?_push_of_some _ (Heap.get?_push_of_some _ ho1)
  have hk3 : (((h1.update a (Obj.mapSeq fun _ => (#[] : Array Value))).push (seqObj "tuple" its.toArray 0)).push (seqObj "list" #[] 0)).get? ((h1.update a (Obj.mapSeq fun _ => (#[] : Array Value))).push (seqObj "tuple" its.toArray 0)).objs.size = some (seqObj "list" #[] 0) := Heap.get?_push_size _ rfl
  have hkS : ((h1.update a (Obj.mapSeq fun _ => (#[] : Array Value))).push (seqObj "tuple" its.toArray 0)).objs.size = s.heap.objs.size + 3 := by rw [size_push', hsz3]
  generalize ((h1.update a (Obj.mapSeq fun _ => (#[] : Array Value))).push (seqObj "tuple" its.toArray 0)).push (seqObj "list" #[] 0) = h3 at I3 ho3 hk3 ⊢
  rw [hkS] at hk3 ⊢
  have Fk : Fsh X pins H (s.heap.objs.size + 3) := I.fsh (by omega)
  have kna : s.heap.objs.size + 3 ≠ a := by omega
  generalize s.heap.objs.size + 3 = kS at hk3 Fk kna ⊢
  clear hsz3 hsz2 hh1 I1 I2 ho1 hoL keep ha
  unfold ksk_rest
  refine wpAny_bind (wpAny_rule ?_)
  first
    | rw [List.forIn_toArray]
    | (rw [← Array.forIn_toList]; simp only [List.toList_toArray])
    | rw [← Array.forIn_toList]
  refine wpAny_bind (ksk_fold (fun i s' => ∃ kA e, Inv X pins σ H s' ∧ s'.heap.get? kS = some (seqObj "list" kA e) ∧ s'.heap.get? a = some (seqObj "list" #[] e1) ∧ IntsAre kA.toList (kz.take i)) its 0 _ ⟨#[], 0, I3, hk3, ho3, by simpa using IntsAre.nil⟩ ?step ?done)
  case step =>
    rintro j y s' hy ⟨kA, e, J, hk, ho, hi⟩
    simp only [Nat.zero_add] at hi ⊢
    have hj : j < its.length := (List.getElem?_eq_some_iff.mp hy).1
    obtain ⟨v, hv, rvy⟩ := vals_get rv hy
    obtain ⟨z, hz⟩ : ∃ z, kz[j]? = some z := ⟨_, List.getElem?_eq_getElem (by omega)⟩
    have hsz4 : kA.size ≤ its.length := by
      have h1 := hi.length
      rw [Array.length_toList, List.length_take] at h1
      omega
    obtain ⟨⟨pm, ctv, hfo⟩, _⟩ := J.hok _ _ hf
    obtain ⟨hcd, _⟩ := J.hok _ _ hc
    have run := lam_run (CX := CX0) (E := E0) (N := N) (ps := [x]) (us := [y]) (vs := [v]) (te := te) (hr.in1).in1 J.env0.in1.in1 hfo hcd S rfl (hbind _ _ _ _) (.cons rvy .nil) (hb _ _ _ _ _ _) (hte j v z hv hz)
    refine wpAny_bind (wpAny_attempt (wpAny_call (codeAny_mono run fun r s'' hq => ?_)))
    cases r with
    | error e => exact hq.elim
    | ok fl =>
      cases fl with
      | next => exact False.elim hq
      | brk => exact False.elim hq
      | cont => exact False.elim hq
      | ret u =>
        have J2 := J.after hq
        obtain ⟨v2, H2, os, bare, un, hok, rv2, e2, e3⟩ := hq
        subst e2 e3
        obtain ⟨t2, rfl⟩ : ∃ t2, u = .int z t2 := rv2
        obtain ⟨v3, H3, J3, _, _, rfl⟩ := J2
        have hk2 := un.keep kS _ hk Fk.hn Fk.fs (by simp)
        have ho2 := un.keep a _ ho Fa.hn Fa.fs (by simp)
        dsimp only
        have s1 := Heap.SameBut.update s''.heap kS (Obj.mapSeq (·.push (.int z t2)))
        obtain ⟨c2, hc2⟩ : ∃ c2, (s''.heap.update kS (Obj.mapSeq (·.push (.int z t2)))).get? kS = some (seqObj "list" (kA.push (.int z t2)) c2) := ⟨_, get?_update_seq hk2 (·.push (.int z t2))⟩
        have ek : kz.take (j + 1) = kz.take j ++ [z] := by rw [List.take_add_one, hz]; simp
        have ea : (kA.push (Value.int z t2)).toList = kA.toList ++ [Value.int z t2] := by simp
        refine wpAny_bind (listUpdate_at hk2 rfl ?_ (by rw [sizeLine_eq]; omega) (Nat.le_trans (Nat.le_of_eq (Array.size_push ..)) (by rw [sizeLine_eq]; omega)))
        exact wpAny_pure ⟨rfl, kA.push (.int z t2), c2, J3.own (t' := s''.toks) Fk s1, hc2, (s1.2 a kna.symm).trans ho2, by rw [ea, ek]; exact ksk_snoc hi⟩
  case done =>
    rintro s' ⟨kA, e, J, hk, ho, hi⟩
    have hi' : IntsAre kA.toList kz := by
      have e3 : kz.take (0 + its.length) = kz := List.take_of_length_le (by omega)
      rw [e3] at hi
      exact hi
    have hsz4 : kA.size = its.length := by
      have h1 := hi'.length
      rw [Array.length_toList] at h1
      omega
    refine wpAny_bind (listItems_at hk rfl ?_)
    have tail : ∀ (st : SortSt) (ix : List Nat), ByKey kz ix → (arrOf st).map (·.2) = List.toArray (ix.map fun i => its.getD i Value.none) → failedOf st = none →
        wpAny (model X.prog X.w) X.A.in1.in1 (ksk_tail a false e1 (.ref kS) st) (fun fin s'' => ∃ v, fin = .done (.ret v) ∧ wpAny (model X.prog X.w) X.A.in1 (PySem.ret (.ref a)) (fun fin s' => ∃ v, fin = .done (.ret v) ∧ EP X pins σ Q v s') X.xe s'') X.xe s' := fun st ix hix har hfl => by
      have hixl : ix.length = its.length := by rw [hix.1.length_eq, List.length_range]; omega
      have hout : ((arrOf st).map (·.2)).size = its.length := by rw [har, List.size_toArray, List.length_map, hixl]
      have s1 := Heap.SameBut.update s'.heap kS (Obj.mapSeq fun _ => (#[] : Array Value))
      have na1 : (s'.heap.update kS (Obj.mapSeq fun _ => (#[] : Array Value))).get? a = some (seqObj "list" #[] e1) := (s1.2 a kna.symm).trans ho
      have s2 := Heap.SameBut.update (s'.heap.update kS (Obj.mapSeq fun _ => (#[] : Array Value))) a (Obj.mapSeq fun _ => (arrOf st).map (·.2))
      obtain ⟨c2, hc2⟩ : ∃ c2, ((s'.heap.update kS (Obj.mapSeq fun _ => (#[] : Array Value))).update a (Obj.mapSeq fun _ => (arrOf st).map (·.2))).get? a = some (seqObj "list" ((arrOf st).map (·.2)) c2) := ⟨_, get?_update_seq na1 fun _ => (arrOf st).map (·.2)⟩
      unfold ksk_tail
      dsimp only
      refine wpAny_bind (listUpdate_at hk rfl ?_ (by rw [hsz4, sizeLine_eq]; omega) (Nat.zero_le _))
      refine wpAny_bind (wpAny_letGo ?_)
      refine wpAny_bind (seqEpoch_at na1 rfl ?_)
      refine wpAny_bind (listUpdate_at na1 rfl ?_ (Nat.zero_le _) (Nat.le_trans (Nat.le_of_eq hout) (by rw [sizeLine_eq]; omega)))
      rw [hfl]
      simp only [bne_self_eq_false, Bool.false_eq_true, if_false]
      refine wpAny_pure ⟨_, rfl, wpAny_pure ⟨_, rfl, ?_⟩⟩
      have J1 := J.own (t' := s'.toks) Fk s1
      have J2 := J1.own (t' := s'.toks) Fa s2
      have hc2' := hc2
      rw [show seqObj "list" ((arrOf st).map (·.2)) c2 = seqObj "list" (List.toArray (ix.map fun i => its.getD i Value.none)) c2 by rw [har]] at hc2'
      have inr : ∀ i ∈ ix, i < vs.length := fun i hi => by
        have := List.mem_range.mp (hix.1.mem_iff.mp hi)
        omega
      have new : ObjOk X.prog X.w (upd H a (.lst (ix.map fun i => vs.getD i .non))) ((s'.heap.update kS (Obj.mapSeq fun _ => (#[] : Array Value))).update a (Obj.mapSeq fun _ => (arrOf st).map (·.2))) a (.lst (ix.map fun i => vs.getD i .non)) :=
        ⟨by rw [List.length_map, hixl, hil]; exact hln, _, c2, vals_pick rv ix inr, hc2'⟩
      exact ⟨.ref a, _, J2.adopt (t' := s'.toks) Fa new, rfl, (q ix hix).at Fa.hn⟩
    unfold ksk_end
    (try dsimp only)
    rw [if_neg (by decide)]
    by_cases h2 : its.toArray.size < 2
    · rw [if_pos h2, if_pos h2]
      refine wpAny_bind (wpAny_pure ?_)
      rw [StateT.run_pure]
      refine wpAny_bind (wpAny_pure ?_)
      dsimp only
      rw [List.size_toArray] at h2
      refine tail (SortSt.mk' general' (kA.zip its.toArray) #[] 7 none) (List.range its.length) ⟨by rw [hkz, hil], ?_⟩ ?_ rfl
      · rw [List.pairwise_iff_getElem]
        intro i j hi hj hij
        rw [List.length_range] at hj
        omega
      · show (kA.zip its.toArray).map (·.2) = _
        rw [Array.map_snd_zip (by rw [List.size_toArray]; omega), range_getD]
    · rw [if_neg h2, if_neg h2]
      rw [List.size_toArray] at h2
      rw [ksk_kind hi' (by rw [hsz4]; omega)]
      refine wpAny_bind (wpAny_pure ?_)
      have zk : kA.zip its.toArray = kA.toList.toArray.zip its.toArray := by rw [Array.toArray_toList]
      rw [if_neg (by decide), zk]
      refine wpAny_bind (wpAny_mono (PySem.W.kat_run (ks := kA.toList) (vs := its) (Q := fun st' s2 => s2 = s' ∧ ∃ pm : Array Nat, So.Ok its.length pm ∧ So.Up (Sk.rk fun i => kz.getD i 0) pm its.length ∧ arrOf st' = pm.map (PySem.W.kas_item (kA.toList.toArray.zip its.toArray)) ∧ failedOf st' = none)
        (G := fun pm s2 => s2 = s' ∧ So.Ok its.length pm ∧ So.Up (Sk.rk fun i => kz.getD i 0) pm its.length) (by rw [Array.length_toList, hsz4]) (by omega) (by omega) (fun pm st' s2 a1 a2 a3 a4 => ⟨a4.1, pm, a4.2.1, a4.2.2, a2, a3⟩)
        (Sk.Ek.wp (k := fun i => kz.getD i 0) (n := its.length) (fun i j C hi hj c => ?_) (fun pm h => ⟨rfl, h⟩) (Sk.sort_ (by omega) (by omega)))) ?_ fun _ _ e => e)
      · obtain ⟨t1, E1⟩ := ints_getD hi' (i := i) (by omega)
        obtain ⟨t2, E2⟩ := ints_getD hi' (i := j) (by omega)
        unfold PySem.W.kas_ask
        rw [E1, E2, keyLt'_oneType]
        exact oneLt_int c
      rintro ⟨⟨⟩, st'⟩ s2 ⟨rfl, pm, a1, a2, a3, a4⟩
      dsimp only
      refine tail st' pm.toList ⟨?_, ?_⟩ ?_ a4
      · have := a1.toList
        rw [hkz, ← hil]
        exact this
      · rw [List.pairwise_iff_getElem]
        intro i j hi hj hij
        have e := a2 i j hij (by rw [Array.length_toList, a1.size] at hj; exact hj)
        unfold So.fv Sk.rk at e
        have g : ∀ (k : Nat) (hk : k < pm.toList.length), pm.getD k 0 = pm.toList[k] := fun k hk => by
          have : k < pm.size := by simpa using hk
          simp [Array.getD, this]
        rw [g i hi, g j hj] at e
        dsimp only at e
        have l1 : pm.toList[i] < its.length := by
          have := a1.toList.mem_iff.mp (List.getElem_mem hi)
          simpa using this
        have l2 : pm.toList[j] < its.length := by
          have := a1.toList.mem_iff.mp (List.getElem_mem hj)
          simpa using this
        omega
      · exact PySem.W.kat_snds (ks := kA.toList) (vs := its) (by rw [Array.length_toList, hsz4]) a3
end
end L2
namespace L2
open PySem PySem.Spec PyProof.Rows
section
variable {X : Cx}
/-- sorted(e, key = lambda x: ..) -/
def tSortK (P : Addr) (lpos : Pos) (qual : Str) (N : List Str) (te : TE) (t : TA) : TE := fun σ H Q => t σ H fun xs H1 => TabOk H1 P lpos qual ∧ ∀ H2, Grew P H1 H2 → TabOk H2 P lpos qual → ∃ (p : Addr) (vs : List V) (kz : List Int), xs = [.ref p] ∧ H2 p = some (.lst vs) ∧ kz.length = vs.length ∧ vs.length < 64 ∧
  (∀ (i : Nat) (v : V) (z : Int), vs[i]? = some v → kz[i]? = some z → te (start N [v]) H2 (fun y H' => y = .int z ∧ H' = H2)) ∧ ∀ ix, ByKey kz ix → New H2 (.lst (ix.map fun i => vs.getD i .non)) Q
theorem pe_sortK {k : Nat} {c P : Addr} {x : Str} {e : Expr} {t : TA} {params : Arguments} {body : Expr} {scope : Scope} {p pos lpos kpos : Pos} {N : List Str} {te : TE} (hr : Room (k + 3) X.A) (hg : Gl X "sorted") (hm : X.mg "sorted" = none) (ha : PA X [e] t)
    (hcode : X.env.code = .ref c) (hB : BM X.mg X.base) (C : ∀ h : Heap, X.K.In h → PySem.W.CodeHd h c P) (S : FnScope N [x] scope)
    (hbind : ∀ pm c' ctv u, bindArgs (PySem.W.kla_fn "<lambda>" (X.env.qual ++ "<lambda>") params body scope [] pm (.ref c') ctv) ⟨[u], []⟩ = pure [(x, u)])
    (hb : ∀ f c' A outer s H, PE (cxOf CX0 X.prog X.w X.K X.mg X.base N (X.env.qual ++ "<lambda>") scope f (.ref c') A outer s H E0) body te)
    (hdef : defaultsOf params X.env = ([], []) := by rfl) (hcl : closureFor scope X.env = pure [] := by rfl)
    (he : backTo pos (starEach [e] X.env) = (false, eval e X.env) :: backTo pos (starEach [] X.env) := by rfl) (hpl : (backTo pos (starEach [e] X.env)).any (·.1) = false := by rfl) :
    PE X (.Call (.Name "sorted" p) [e] [⟨some "key", .Lambda params body scope lpos, kpos⟩] pos) (tSortK P lpos (X.env.qual ++ "<lambda>") N te t) := by
  intro pins s σ H Q I h
  refine wpAny_Call_Name_kw (ld_blt I hg hm rfl ?_ (by decide) (by decide))
  refine callWith_kw (thn (ha pos pins s σ H _ I h) fun us s1 ⟨xs, H1, I1, r1, tb, q1⟩ => ?_) he hpl rfl rfl
  refine thn (pk_cons (nm := some "key") (kpos := kpos) (pe_lam (pos := lpos) (body := body) hcode hB C hdef hcl) pk_nil pos pins s1 σ H1 (fun ws H2 => ∃ f c', ws = [.ref f] ∧ Grew P H1 H2 ∧ TabOk H2 P lpos (X.env.qual ++ "<lambda>") ∧ H2 f = some (LamE f (X.env.qual ++ "<lambda>") params body scope c') ∧ H2 c' = some (CodE c' (X.env.qual ++ "<lambda>"))) I1 ⟨tb, fun f c' H2 g tb2 _ e1 e2 => ⟨f, c', rfl, g, tb2, e1, e2⟩⟩) fun kws s2 ⟨ws, H2, I2, rk, f, c', ew, g, tb2, e1, e2⟩ => ?_
  subst ew
  obtain ⟨pl, vs, kz, rfl, hp, hkz, h64, hte, q⟩ := q1 H2 g tb2
  obtain ⟨u, rfl, ru⟩ := vals1 rk
  exact call_sortedK hr S hbind hb I2 r1 (.cons ru .nil) ⟨pl, f, c', vs, kz, rfl, rfl, hp, e1, e2, hkz, h64, hte, q⟩
end
/-! ### a law that calls such a def: the head -/
/-- the def's own code, and the table of the codes that it makes -/
structure TabK (K : PySem.W.Frag) (mg : Str → Option Value) (x : Str) (c P : Addr) : Prop where
  fn : ∃ f oc od fd osl, mg x = some (.ref f) ∧ K.lookup f = some ⟨oc, od, .func fd, osl⟩ ∧ fd.code = .ref c
  cd : ∃ od vs osl file tf flags tg inF text tt, K.lookup c = some ⟨.type "code", od, .fields vs, osl⟩ ∧ vs[11]? = some (.ref P) ∧ vs.getD 11 .none = .ref P ∧ vs.getD 18 .none = .str file tf ∧ vs.getD 7 .none = .int flags tg ∧ vs.getD 9 .none = .bool inF ∧ vs.getD 10 .none = .int text tt
  ne : c ≠ P
  no : K.lookup P = none
theorem TabK.hd {K : PySem.W.Frag} {mg : Str → Option Value} {x : Str} {c P : Addr} {h : Heap} (t : TabK K mg x c P) (X : K.In h) : PySem.W.CodeHd h c P := by
  obtain ⟨od, vs, osl, file, tf, flags, tg, inF, text, tt, e1, e2, e3, e4, e5, e6, e7⟩ := t.cd
  exact ⟨_, vs, file, tf, flags, tg, inF, text, tt, X _ _ e1, rfl, rfl, e2, e3, e4, e5, e6, e7, t.ne⟩
/-- nothing is tracked but the script and the table -/
def OnlyT (P : Addr) (H : Hp) : Prop := H P = some (.tbl #[]) ∧ ∀ b, b ≠ P → H b = none ∨ ∃ o xs, H b = some (.frz o (.lst xs))
theorem law_callT {P : Program} {w : World} {K : PySem.W.Frag} {mg mb : Str → Option Value} {CX : CXT} {k : Nat} {fa a c T : Addr} {fd : FuncData} {x : Str} {sp : Sp} {s₁ : Shared} {vs : List Value} {ns : List Int}
    (KX : K.In s₁.heap) (hns : s₁.heap.Ns mainGlobals mg) (hb : s₁.heap.Ns builtinsNs mb) (hbb : ∀ x : Str, x ≠ "__name__" → mb x = bootBuiltins x) (hlim : s₁.heap.NoLimit) (hg : s₁.gens = #[])
    (ha : s₁.heap.get? a = some { cls := .type "list", data := .seq vs.toArray }) (hi : IntsAre vs ns) (hl : ns.length ≤ sizeLine) (hr : Room k callerA)
    (hC : PySem.W.CodeHd s₁.heap c T) (hT : s₁.heap.get? T = some (PySem.W.tabObj #[])) (hKT : K.lookup T = none) (hTs : T ≠ cStatics) (hBM : BM mg s₁.heap)
    (F : ∀ base : Heap, K.In base → base.Ns mainGlobals mg → BM mg base → FnOk P w K mg base CX k fa fd [x] sp) (hbind : ∀ (s : Shared) (u : Value), BindsTo s fd ⟨[u], []⟩ [(x, u)])
    (hsp : ∀ H : Hp, OnlyT T H → SqL K H a (ns.map V.int) → sp [.ref a] H (fun v _ => v = .bl true) fun _ _ _ => False)
    (hCX : ∀ H e s', CX [] H s₁ (fun _ _ _ => False) e s' → False) :
    codeAny (model P w) callerA (.call (.ref fa) ⟨[.ref a], []⟩) (fun r s' => r = .ok (.ret (.bool true)) ∧ OldK s₁.heap s'.heap ∧ s'.os = s₁.os ∧ AllBare s'.gens) s₁ := by
  have rv := vals_ints hi
  have lenV := hi.length
  have haT : a ≠ T := fun z => by rw [z, hT] at ha; cases ha
  have core : ∀ H : Hp, OnlyT T H → SqL K H a (ns.map V.int) → HOk P w H s₁.heap → (∀ b, H b ≠ none → b = a ∨ b = T) → (H a ≠ none → K.lookup a = none) →
      codeAny (model P w) callerA (.call (.ref fa) ⟨[.ref a], []⟩) (fun r s' => r = .ok (.ret (.bool true)) ∧ OldK s₁.heap s'.heap ∧ s'.os = s₁.os ∧ AllBare s'.gens) s₁ := by
    intro H hO hS hok hA hK
    have base_of : ∀ {b : Addr} {o : Obj}, s₁.heap.get? b = some o → H b = none → (hidT s₁.heap H).get? b = some o := fun e n => hidT_get e n
    have noA : ∀ {b : Addr} {o : Obj}, s₁.heap.get? b = some o → (∀ es ep, o.data ≠ .seq es ep) → (∀ es, o.data ≠ .fields es) → H b = none := fun {b o} e d1 d2 => by
      cases q : H b with
      | none => rfl
      | some u =>
        rcases hA b (by rw [q]; simp) with e' | e'
        · subst e'
          rw [ha] at e; cases e
          exact absurd rfl (d1 _ _)
        · subst e'
          rw [hT] at e; cases e
          exact absurd rfl (d2 _)
    have nsK : ∀ {b : Addr} {m : Str → Option Value}, s₁.heap.Ns b m → (hidT s₁.heap H).Ns b m := fun {b m} ⟨o, es, ep, e, d, r⟩ => ⟨o, es, ep, base_of e (noA e (fun _ _ => by rw [d]; intro z; cases z) (fun _ => by rw [d]; intro z; cases z)), d, r⟩
    have hKb : K.In (hidT s₁.heap H) := fun b o e => base_of (KX b o e) (by
      cases q : H b with
      | none => rfl
      | some u =>
        rcases hA b (by rw [q]; simp) with e' | e'
        · subst e'
          rw [hK (by rw [q]; simp)] at e; cases e
        · subst e'
          rw [hKT] at e; cases e)
    have hM : Mod K mg (hidT s₁.heap H) := ⟨hKb, nsK hns, ⟨mb, nsK hb, hbb⟩, let ⟨mc, h1, h2⟩ := hlim; ⟨mc, nsK h1, h2⟩⟩
    have hB : BM mg (hidT s₁.heap H) := by
      obtain ⟨bm, ob, b1, b2, b3, b4, b5, b6⟩ := hBM
      exact ⟨bm, ob, b1, b2, base_of b3 (noA b3 (fun _ _ => by rw [b6]; intro z; cases z) (fun _ => by rw [b6]; intro z; cases z)), b4, b5, b6⟩
    have e0 : Env0 P w K mg (hidT s₁.heap H) callerA [] s₁ H := ⟨rfl, hM, fun b o e => of_hidT e, Nat.le_of_eq (hidT_size _ _), trivial, fun b hb => absurd (show b ∈ ([] : List Addr) from hb) (by simp), hok, .of_eq hg⟩
    refine codeAny_mono ((F _ hKb (nsK hns) hB).run callerA [] s₁ H ⟨[.ref a], []⟩ [.ref a] [.ref a] _ _ hr e0 (hbind s₁ (.ref a)) (.cons rfl .nil) (hsp H hO hS)) fun r s' h => ?_
    cases r with
    | error e => exact (hCX H e s' h).elim
    | ok fl =>
      cases fl with
      | next => exact False.elim h
      | brk => exact False.elim h
      | cont => exact False.elim h
      | ret u =>
        obtain ⟨v, H', os, bare, un, hok', r', q⟩ := h
        have q' : v = .bl true := q
        subst q'
        obtain rfl : u = Value.bool true := r'
        have hx : Heap.ExtBut T s₁.heap s'.heap := fun b o hbT e => by
          cases q : H b with
          | none => exact un.keep b o e q (by intro z; exact absurd (show b ∈ ([] : List Addr) from z) (by simp)) (by simp)
          | some u =>
            rcases hO.2 b hbT with z | ⟨ob, xs, z⟩
            · rw [q] at z; cases z
            · have z2 := un.frzs b ob _ z
              obtain ⟨e1, _⟩ := hok b _ z
              obtain ⟨e2, _⟩ := hok' b _ z2
              rw [e] at e1; cases e1
              exact e2
        obtain ⟨more, hm⟩ := un.tbls T _ hO.1
        have hT' : s'.heap.get? T = some (PySem.W.tabObj (#[] ++ more)) := hok' T _ hm
        have hC' : PySem.W.CodeHd s'.heap c T := by
          obtain ⟨o, vs, file, tf, flags, tg, inF, text, tt, e1, r1, r2, r3, r4, r5, r6, r7, r8, hne⟩ := hC
          exact ⟨o, vs, file, tf, flags, tg, inF, text, tt, hx c o hne e1, r1, r2, r3, r4, r5, r6, r7, r8, hne⟩
        exact ⟨rfl, (OldK.refl s₁.heap).step_table (hC.tab hT) (hC.tab hT) (hC'.tab hT') hx hTs, os, bare⟩
  have tblOk : ∀ H : Hp, ObjOk P w H s₁.heap T (.tbl #[]) := fun H => hT
  cases hk : K.lookup a with
  | some o =>
    have e := KX a o hk
    rw [ha] at e
    cases e
    refine core (fun b => if b = T then some (.tbl #[]) else none) ⟨if_pos rfl, fun b n => .inl (if_neg n)⟩ (.inr ⟨_, vs.toArray, _, hk, rfl, rfl, rfl, by rw [List.size_toArray, lenV]; exact hl, by simpa using rv⟩) (fun b u z => ?_) (fun b z => ?_) fun z => absurd (if_neg haT) z
    · by_cases hb : b = T
      · have z' := (if_pos hb).symm.trans z
        cases z'
        subst hb
        exact tblOk _
      · have z' := (if_neg hb).symm.trans z
        cases z'
    · by_cases hb : b = T
      · exact .inr hb
      · exact absurd (if_neg hb) z
  | none =>
    obtain ⟨H, hH⟩ : ∃ H : Hp, H = fun b => if b = T then some (.tbl #[]) else if b = a then some (.frz { cls := .type "list", data := .seq vs.toArray } (.lst (ns.map V.int))) else none := ⟨_, rfl⟩
    have h1 : H T = some (.tbl #[]) := by rw [hH]; exact if_pos rfl
    have h2 : H a = some (.frz { cls := .type "list", data := .seq vs.toArray } (.lst (ns.map V.int))) := by rw [hH]; exact (if_neg haT).trans (if_pos rfl)
    have h3 : ∀ b, b ≠ T → b ≠ a → H b = none := fun b n1 n2 => by rw [hH]; exact (if_neg n1).trans (if_neg n2)
    refine core H ⟨h1, fun b n => ?_⟩ (.inl (.inr ⟨_, h2⟩)) (fun b u z => ?_) (fun b z => ?_) fun _ => hk
    · by_cases hb : b = a
      · exact .inr ⟨_, _, hb ▸ h2⟩
      · exact .inl (h3 b n hb)
    · by_cases hbT : b = T
      · subst hbT
        rw [h1] at z; cases z
        exact tblOk _
      · by_cases hb : b = a
        · subst hb
          rw [h2] at z; cases z
          exact ⟨ha, by rw [List.length_map]; exact hl, vs, _, rv, ha⟩
        · rw [h3 b hbT hb] at z; cases z
    · by_cases hbT : b = T
      · exact .inr hbT
      · by_cases hb : b = a
        · exact .inl hb
        · exact absurd (h3 b hbT hb) z
theorem walk_ofT {l : PySem.W.OpenLaw} {n k : Nat} {q : Program} {loose : List Str} {XP : (Str → Option Value) → Heap → Prop} {YP : World → Heap → Prop} {d : DefRec} {K : Params → PySem.W.Frag} {CX : World → CXT} {sp : PySem.W.Frag → Addr → Sp} {x y : Str}
    (hn : l.most = some n) (hn2 : n ≤ sizeLine) (hdf : d.params.defaults = []) (hr : Room k callerA)
    (hY : ∀ (w : World) (h : Heap), YP w h → (K w.params).In h) (hy : ∃ e ∈ recsOf q, e.name = y)
    (F : ∀ (w : World) (mg : Str → Option Value) (fa : Addr) (h : Heap), (K w.params).In h → h.Ns mainGlobals mg → mg d.name = some (.ref fa) →
      ∃ (fd : FuncData) (c T : Addr), TabK (K w.params) mg y c T ∧ (∀ (s : Shared) (u : Value), BindsTo s fd ⟨[u], []⟩ [(x, u)]) ∧
        ∀ base : Heap, (K w.params).In base → base.Ns mainGlobals mg → BM mg base → FnOk l.prog w (K w.params) mg base (CX w) k fa fd [x] (sp (K w.params) T))
    (hsp : ∀ (K : PySem.W.Frag) (T : Addr) (H : Hp) (a : Addr) (ns : List Int), ns.length ≤ n → OnlyT T H → SqL K H a (ns.map V.int) → sp K T [.ref a] H (fun v _ => v = .bl true) fun _ _ _ => False)
    (hCX : ∀ (w : World) (H : Hp) (s : Shared) (e : Value) (s' : Shared), CX w [] H s (fun _ _ _ => False) e s' → False) :
    PySem.W.WalkO q loose XP YP l.row.toRowW d [] (fun f vs => PySem.call f vs) := by
  refine Att.attach_call hn hdf fun w s₀ s₁ mg mb fa o pm cd doc a vs ns G Y ho hd hcd hmg hobj hints hlen hg => ?_
  have KX := hY w _ Y
  obtain ⟨fd, c, T, tk, hb, hF⟩ := F w mg fa _ KX G.T.g hmg
  obtain ⟨e, he, rfl⟩ := hy
  obtain ⟨a1, o1, fd1, c1, P1, t1, t2, t3, t4, t5, t6⟩ := G.T.tab e he
  obtain ⟨f2, oc, od, fd2, osl, u1, u2, u3⟩ := tk.fn
  obtain ⟨od3, vs3, osl3, file, tf, flags, tg, inF, text, tt, w1, w2, _⟩ := tk.cd
  rw [u1] at t1
  cases t1
  rw [KX _ _ u2] at t2
  cases t2
  cases t3
  rw [u3] at t4
  cases t4
  obtain ⟨⟨o4, vs4, x1, x2, x3, x4⟩, x5⟩ := t6
  rw [KX _ _ w1] at x1
  cases x1
  cases x3
  rw [w2] at x4
  cases x4
  have hTs : T ≠ cStatics := fun z => by
    obtain ⟨mc, ⟨o, es, ep, e1, e2, _⟩, _⟩ := G.T.nodigits
    rw [← z, x5] at e1
    cases e1
    cases e2
  exact law_callT KX G.T.g G.T.b G.T.builtins G.T.nolimit hg hobj hints (Nat.le_trans hlen hn2) hr (tk.hd KX) x5 tk.no hTs G.T.bmain hF hb (fun H hO hS => hsp _ T H a ns hlen hO hS) fun H e s' => hCX w H s₁ e s'
end L2
/-! ## for x in d.values() -/
namespace L2
open PySem PySem.Spec PyProof.Rows
/-- the values of the dict at d, which is kept as it is as long as it is walked -/
def Itv (d : Addr) (o : Obj) (kvs : List (Key × V)) : It := ⟨fun i H => i < kvs.length ∧ H d = some (.frz o (.dK kvs)), fun i H x H' => H' = H ∧ ∃ kv, kvs[i]? = some kv ∧ x = kv.2, fun i H => kvs.length ≤ i ∧ H d = some (.frz o (.dK kvs))⟩
theorem lists_vals {d : Addr} {o : Obj} {kvs : List (Key × V)} {H1 : Hp} (h : H1 d = some (.frz o (.dK kvs))) : Lists (Itv d o kvs) H1 (kvs.map (·.2)) where
  go := fun i H2 s hi => ⟨by rw [List.length_map] at hi; exact hi, s _ _ h⟩
  yld := fun i H2 x H3 s hy _ => by
    obtain ⟨rfl, kv, e, rfl⟩ := hy
    exact ⟨rfl, by rw [List.getElem?_map, e]; rfl⟩
  stop := fun H2 s => ⟨by rw [List.length_map]; exact Nat.le_refl _, s _ _ h⟩
theorem turn_vals {P : Program} {w : World} {K : PySem.W.Frag} {tg : Expr} {d : Addr} {o : Obj} {kvs : List (Key × V)} {vs : List (Key × Value)} {ep : Nat} (rel : KV kvs vs) (hat : ∀ h : Heap, h.get? d = some o → h.DictAt (mixKind P w) d vs ep) (it : Addr) : Turn P w K tg (Itv d o kvs) [it] it (fun i h => h.IsValIter it d i vs.length ep) where
  mem := by simp
  obj := fun i h st b hb => by
    have e : b = it := by simpa using hb
    subst e
    obtain ⟨o, e, c, d⟩ := st
    exact ⟨o, e, fun v z => by rw [d] at z; cases z⟩
  keep := fun i h h' st k => st.at fun o e => k it (by simp) o e
  item := by
    intro X hP hw hK hc i pins s σ H E I hf st hg
    subst hP hw hK
    obtain ⟨hi, hd⟩ := hg
    have hl : kvs.length = vs.length := rel.length
    obtain ⟨kv, ekv⟩ : ∃ kv, kvs[i]? = some kv := ⟨_, List.getElem?_eq_getElem hi⟩
    obtain ⟨⟨k, u⟩, ev⟩ : ∃ v, vs[i]? = some v := ⟨_, List.getElem?_eq_getElem (by omega)⟩
    obtain ⟨r1, r2⟩ := kv_val2 rel ekv ev
    obtain ⟨f0, f1, f2, f3, f4, f5⟩ := hf it (by simp)
    refine wpAny_pyNext_values_item st (hat _ (I.hok _ _ hd).1) ev fun h' st' sb => ?_
    have I1 : Inv X pins σ H { s with heap := h' } := I.turned (t' := s.toks) (fun b o hb e => (sb.2 b hb).trans e) f0 f1 f3 f4 f5
    obtain ⟨o, e, c, d⟩ := id st'
    exact ⟨u, rfl, go_of (s := { s with heap := h' }) e c d (by decide) ⟨kv.2, H, I1, r2, ⟨rfl, kv, ekv, rfl⟩, st', fun b hb => (hf b hb).1⟩⟩
  done := by
    intro X hP hw hK hc i pins s σ H E I hf st hg
    subst hP hw hK
    obtain ⟨hi, hd⟩ := hg
    have hl : kvs.length = vs.length := rel.length
    obtain ⟨f0, f1, f2, f3, f4, f5⟩ := hf it (by simp)
    exact wpAny_pyNext_values_end (I.ok.hd hc) st (hat _ (I.hok _ _ hd).1) (List.getElem?_eq_none (by omega)) fun h' eb => ⟨rfl, I.turned (t' := s.toks) (fun b o hb e => eb b o hb e) f0 f1 f3 f4 f5⟩
  self := fun _ _ _ _ _ st h => wpAny_pyIter_valiter st h
def iVals (td : TE) : TI := fun σ H R => td σ H fun x H1 => ∃ d kvs, x = .ref d ∧ H1 d = some (.dK kvs) ∧ ∀ o H2, (∀ b u, b ≠ d → H1 b = some u → H2 b = some u) → (∀ b, b ≠ d → H2 b = H1 b) → H2 d = some (.frz o (.dK kvs)) → R (Itv d o kvs) H2
theorem pi_vals {X : Cx} {tg o : Expr} {td : TE} {ap cp : Pos} (ho : PE X o td) (hb : attributeBase o "values" X.env (eval o X.env) = eval o X.env) (hline : (ap.endLine == cp.line) = true) :
    PI X tg (.Call (.Attribute o "values" ap) [] [] cp) (iVals td) := by
  intro pins s σ H R I h
  refine wpAny_Call_method (T := "dict") (id := "dict.values") hb rfl hline PySem.F.plainAttrs_dict PySem.F.slot_dict_values PySem.F.type_dict_values (thn (ho pins s σ H _ I h) fun u s1 ⟨x, H1, I1, rx, a, kvs, ex, ea, q⟩ => ?_)
  subst ex
  obtain rfl : u = Value.ref a := rx
  obtain ⟨z, hd, vs, rel, dd⟩ := dk_of I1.hok ea
  refine ⟨dd.typeIs, dd.mapOf.noDict, ?_⟩
  show wpAny _ _ (callWith cp (.builtin "dict.values") [.ref a] [] []) _ _ s1
  refine method_meetsIn PySem.F.slot_dict_values PySem.F.entry_dict_values rfl (PySem.evalArgs_none ⟨rfl, dd.typeIs, PySem.F.args_dict_values_1 _, _, meets_dict_values _ a hd, ⟨vs, dd⟩, ?_⟩)
  obtain ⟨ep, hat⟩ := dd.dictAt
  obtain ⟨od, es, hod, hcd, hdd, hk, hp, hn⟩ := id hat
  have I2 : Inv X pins σ (upd H1 a (.frz od (.dK kvs))) s1 := I1.write (t' := s1.toks) (h' := s1.heap) (x := a) (e := a) (o := .frz od (.dK kvs)) (by rw [ea]; trivial) (.inl rfl) (fun _ _ _ e => e) ⟨_, hod⟩ ⟨hod, show ObjOk X.prog X.w H1 s1.heap a (.dK kvs) from I1.hok a _ ea⟩
  have kp0 : ∀ b o, s1.heap.get? b = some o → (s1.heap.push { cls := .type "dict_values", data := .fields #[.ref a] }).get? b = some o := fun b o e => Heap.get?_push_of_some _ e
  have I3 := I2.kept (t' := s1.toks) kp0
  refine wpAny_pyIter_values (knd := mixKind X.prog X.w) (kvs := vs) (ep := ep) ⟨_, Heap.get?_push_size _ rfl, rfl, rfl⟩ (hat.at' fun o e => Heap.get?_push_of_some _ e) ?_
  have I4 := I3.kept (t' := s1.toks) (h' := (s1.heap.push { cls := .type "dict_values", data := .fields #[.ref a] }).push { cls := .type "dict_valueiterator", data := .fields #[.ref a, .int 0 0, .int vs.length 0, .int ep 0] }) fun b o e => Heap.get?_push_of_some _ e
  refine ⟨(s1.heap.push { cls := .type "dict_values", data := .fields #[.ref a] }).objs.size, [(s1.heap.push { cls := .type "dict_values", data := .fields #[.ref a] }).objs.size], _, Itv a od kvs, _, rfl, I4, turn_vals rel (fun h e => hat.at' fun o' e' => by rw [hod] at e'; cases e'; exact e) _, ⟨_, Heap.get?_push_size _ rfl, rfl, rfl⟩, fun b hb => ?_, q od _ (fun b u n e => by rw [upd_ne n]; exact e) (fun b n => upd_ne n) upd_same⟩
  have e : b = (s1.heap.push { cls := .type "dict_values", data := .fields #[.ref a] }).objs.size := by simpa using hb
  subst e
  exact I3.fpOk (Nat.le_refl _) (I3.hok.fresh (Nat.le_refl _))
end L2
/-! ## a def whose own code is known -/
namespace L2
open PySem PySem.Spec PyProof.Rows
theorem Fun.okXC {P : Program} {w : World} {K : PySem.W.Frag} {mg : Str → Option Value} {base : Heap} {x qual : Str} {st : Stmt} {f c : Addr} {fd : FuncData} {N ps : List Str} {k : Nat} {sp : Sp} (F : Fun K x qual st f fd) (hc : fd.code = .ref c) (S : FnScope N ps (defScope st)) (len : ∀ vs H Q E, sp vs H Q E → vs.length = ps.length)
    (hbody : ∀ (A : Around) (outer : List Env) (s : Shared) (H : Hp) (vs : List V) (Q : VK) (E : XK), LvR (cxOf (CXE P w) P w K mg base N qual (defScope st) f (.ref c) A outer s H E) (fun _ => E) → Room k (A.deeper (envOfC qual (defScope st) s.heap.objs.size f (.ref c))) → sp vs H Q E →
      ∃ t, PSs (cxOf (CXE P w) P w K mg base N qual (defScope st) f (.ref c) A outer s H E) (defBody st) t ∧ t { nx := fun _ H' => Q .non H', rt := Q } (start N vs) H) : FnOk P w K mg base (CXE P w) (k + 1) f fd ps sp := by
  obtain ⟨oc, od, kV, doc, pm, an, cdv, ct, osl, rfl, lk, hcd⟩ := F.ex
  obtain rfl : cdv = .ref c := hc
  exact fn_of lk hcd S len fun A outer s H vs Q E hr hsp => hbody A outer s H vs Q E lv_def hr hsp
end L2
theorem L2.recs_any {q : PySem.Program} {y : PySem.Str} (h : ((PyProof.Rows.recsOf q).any fun d => d.name == y) = true) : ∃ e ∈ PyProof.Rows.recsOf q, e.name = y := by
  obtain ⟨e, he, hn⟩ := List.any_eq_true.mp h
  exact ⟨e, he, eq_of_beq hn⟩
/-! ## list.remove of what is told by trees -/
namespace L2
open PySem PySem.Spec PyProof.Rows
theorem remove_loopD {prog : Program} {w : World} {A : Around} {R : Result → Shared → Prop} {s : Shared} (l : Addr) (items : Array Value) (n : Nat) (x : Value) (e : Nat → Bool) (he : ∀ (i : Nat) (hi : i < items.size), SeqAt.EqAt A.in1 s items[i] x (e i)) (j : Nat) (hj : j < items.size)
    (hit : e j = true) (hno : ∀ m, m < j → e m = false) (hs1 : items.size ≤ sizeLine) (hl : s.heap.get? l = some { cls := .type "list", dict := none, data := .seq items n, slots := #[] }) (h : R (.ok (.ret .none)) { s with heap := s.heap.update l (Obj.mapSeq fun xs => xs.eraseIdxIfInBounds j) }) : ∀ k i : Nat, j - i = k → i ≤ j →
    wpAny (model prog w) A.in1 (Builtin.«list.remove.loop» ⟨[.ref l, x, rawInt i], []⟩) (fun fin s' => match fin with | .done f => R (.ok f) s' | .again c' => c'.quiet = true ∧ codeAny (model prog w) A c' R s') (fun e s' => R (.error e) s') s := by
  intro k
  induction k with
  | zero =>
    intro i hk hij
    obtain rfl : i = j := by omega
    obtain ⟨hp, g, d, tk, os⟩ := s
    unfold Builtin.«list.remove.loop»
    wp_walk using wpAny_loadPart' hl
    have hi : items[((i : Nat) : Int).toNat]? = some items[i] := by simp [hj]
    rw [hi]
    refine wpAny_bind (he i hj prog w _ _ ?_)
    rw [hit]
    have hz' : (items.eraseIdxIfInBounds i).size ≤ sizeLine + 1 := Nat.le_trans (MeetsSeq.size_erased items _) (Nat.le_succ_of_le hs1)
    wp_walk using (wpAny_updateSeq hl rfl (hz := hs1) (_hz' := hz')), wpAny_loadPart' hl
    simpa using h
  | succ k ih =>
    intro i hk hij
    have hlt : i < items.size := by omega
    have next := ih (i + 1) (by omega) (by omega)
    obtain ⟨hp, g, d, tk, os⟩ := s
    unfold Builtin.«list.remove.loop»
    wp_walk using wpAny_loadPart' hl
    have hi : items[((i : Nat) : Int).toNat]? = some items[i] := by simp [hlt]
    have hc : ((i : Int) + 1) = ((i + 1 : Nat) : Int) := by push_cast; rfl
    rw [hi]
    refine wpAny_bind (he i hlt prog w _ _ ?_)
    rw [hno i (by omega)]
    wp_walk
    rw [hc]
    exact ⟨plainId_quiet MeetsSeq.plain_remove_loop _, codeAny_builtin MeetsSeq.entry_remove_loop (by
      rw [Around.under_plainId MeetsSeq.plain_remove_loop _]
      exact next)⟩
def rRemoveD (K : PySem.W.Frag) : V → List V → Hp → VK → Prop := fun x vs H Q => ∃ (l : Addr) (xs : List V) (y : V) (n j : Nat) (ds : List D) (d : D), x = .ref l ∧ vs = [y] ∧ H l = some (.lst xs) ∧ all2 (Dp K H n) ds xs ∧ Dp K H n d y ∧ n ≤ 50 ∧ (∀ e ∈ ds, cmpOk n e d) ∧ ds[j]? = some d ∧ (∀ m e, m < j → ds[m]? = some e → eqb n e d = false) ∧ Q .non (upd H l (.lst (xs.eraseIdx j)))
theorem mt_removeD {X : Cx} {k : Nat} (hr : Room k X.A) : MtM X "list.remove" (rRemoveD X.K) := by
  intro pins s σ H x vs v us Q I rx rv h
  obtain ⟨l, xs, y, n, j, ds, d, rfl, rfl, hH, h2, hd, hn, hc, hj, hno, q⟩ := h
  cases rx
  obtain ⟨u, rfl, ru⟩ := rv.one
  obtain ⟨z, its, m, r, hl, e⟩ := I.lstM hH
  have len := r.length
  have dl := all2_len h2
  have jl : j < ds.length := (List.getElem?_eq_some_iff.mp hj).1
  have hu := hr.units
  have eqs : ∀ (A : Around), A.units ≤ X.A.units + 1 → ∀ (i : Nat) (hi : i < its.toArray.size), SeqAt.EqAt A s its.toArray[i] u (eqb n (ds.getD i .non) d) := fun A hA i hi => by
    obtain ⟨x', e1, e2, e3⟩ := all2_at h2 r i hi
    exact eqAt_deep I (hc _ (List.mem_of_getElem? e1)) e2 hd e3 ru (by omega)
  have lam : MeetsIn X.prog X.w (Builtin.«list.remove» ⟨[.ref l, u], []⟩) (fun A R s' => s' = s ∧ A = X.A ∧ R (.ok (.ret .none)) { s with heap := s.heap.update l (Obj.mapSeq fun xs => xs.eraseIdxIfInBounds j) }) := by
    intro A R s' hs
    obtain ⟨rfl, rfl, hR⟩ := hs
    have loop := remove_loopD (prog := X.prog) (w := X.w) (A := X.A) (R := R) (s := s') l its.toArray m u (fun i => eqb n (ds.getD i .non) d) (eqs X.A.in1 (Nat.le_refl _)) j (by rw [List.size_toArray]; omega) (by rw [List.getD_eq_getElem?_getD, hj]; exact eqb_refl hd) (fun i hi => hno i _ hi (by rw [List.getD_eq_getElem?_getD, List.getElem?_eq_getElem (by omega)]; rfl)) (by rw [List.size_toArray, ← len]; exact z) e hR _ 0 rfl (Nat.zero_le _)
    obtain ⟨hp, g, dr, tk, os⟩ := s'
    unfold Builtin.«list.remove»
    wp_walk using wpAny_loadPart' e
    exact ⟨plainId_quiet MeetsSeq.plain_remove_loop _, codeAny_builtin MeetsSeq.entry_remove_loop (by
      rw [Around.under_plainId MeetsSeq.plain_remove_loop _]
      exact loop)⟩
  refine call_meetsIn F.slot_list_remove ⟨_, e, rfl⟩ F.entry_list_remove (F.args_list_remove_2 _ _) lam ⟨rfl, rfl, ?_⟩
  refine ⟨.non, _, I.lset (its' := its.eraseIdx j) hH e ?_ ?_ ?_, rfl, q⟩
  · rw [List.eraseIdxIfInBounds_toArray]
  · exact r.eraseIdx _
  · exact Nat.le_trans (List.length_eraseIdx_le ..) z
end L2
/-! ## triples that may be equal -/
namespace L2
open PySem PySem.Spec PyProof.Rows
section
variable {prog : Program} {w : World} {A : Around} {E : Value → Shared → Prop} {s : Shared}
theorem lt3_tree' {p q : Addr} {o o' : Obj} {n n' : Nat} {a b c a' b' c' : Int} {t1 t2 t3 u1 u2 u3 : Tok} {P : PySem.Fin → Shared → Prop} (hp : s.heap.get? p = some o) (dp : o.data = .seq #[.int a t1, .int b t2, .int c t3] n) (hq : s.heap.get? q = some o') (tq : s.TypeIs (.ref q) "tuple") (dq : o'.data = .seq #[.int a' u1, .int b' u2, .int c' u3] n')
    (h : P (.done (.ret (.bool (lt3 a b c a' b' c')))) s) : wpAny (model prog w) A (Builtin.«tuple.__lt__» ⟨[.ref p, .ref q], []⟩) P E s := by
  by_cases hc : a = a' ∧ b = b' ∧ c = c'
  · obtain ⟨rfl, rfl, rfl⟩ := hc
    show wpAny _ _ (isInstance (.ref q) (.type "tuple") >>= _) _ _ s
    refine wpAny_bind (wpAny_isInstance tq isSubtype_tuple_tuple ?_)
    simp only [Bool.not_true, Bool.false_eq_true, if_false]
    refine wpAny_bind (wpAny_tupleItemsOf hp dp (wpAny_bind (wpAny_tupleItemsOf hq dq (wpAny_bind ?_))))
    show wpAny _ _ (forIn [(Value.int a t1, Value.int a u1), (Value.int b t2, Value.int b u2), (Value.int c t3, Value.int c u3)] (none, ()) _) _ _ s
    rw [List.forIn_cons]
    refine wpAny_bind (wpAny_bind (wpAny_eqBool_int ?_))
    rw [beq_self_eq_true, if_neg (by decide)]
    refine wpAny_pure ?_
    dsimp only
    rw [List.forIn_cons]
    refine wpAny_bind (wpAny_bind (wpAny_eqBool_int ?_))
    rw [beq_self_eq_true, if_neg (by decide)]
    refine wpAny_pure ?_
    dsimp only
    rw [List.forIn_cons]
    refine wpAny_bind (wpAny_bind (wpAny_eqBool_int ?_))
    rw [beq_self_eq_true, if_neg (by decide)]
    refine wpAny_pure ?_
    dsimp only
    rw [List.forIn_nil]
    refine wpAny_pure ?_
    have e : lt3 a b c a b c = false := decide_eq_false (by omega)
    rw [e] at h
    first
      | exact wpAny_pure h
      | exact wpAny_bind (wpAny_pure (wpAny_pure h))
      | exact wpAny_bind (wpAny_rule (wpAny_pure h))
  · exact lt3_tree hp dp hq tq dq hc h
end
def rLt3E (K : PySem.W.Frag) : R2 := fun x y H Q => ∃ (p q : Addr) (a b c a' b' c' : Int), x = .ref p ∧ y = .ref q ∧ H p = some (.tup [.int a, .int b, .int c]) ∧ H q = some (.tup [.int a', .int b', .int c']) ∧ Q (.bl (lt3 a b c a' b' c')) H
theorem op_lt3E {X : Cx} {k : Nat} (hr : Room k X.A) : OpR X (compareOp .Lt) (rLt3E X.K) := by
  intro pins s σ H x y v u Q I rx ry h
  obtain ⟨p, q, a, b, c, a', b', c', rfl, rfl, hp, hq, hQ⟩ := h
  obtain rfl : v = Value.ref p := rx
  obtain rfl : u = Value.ref q := ry
  obtain ⟨_, ts, tv, o, e1, e2, k1, e3⟩ := I.hok _ _ hp
  obtain ⟨x1, ts1, rfl, ⟨t1, rfl⟩, tv1⟩ := vals_cons' tv
  obtain ⟨x2, ts2, rfl, ⟨t2, rfl⟩, tv2⟩ := vals_cons' tv1
  obtain ⟨x3, ts3, rfl, ⟨t3, rfl⟩, tv3⟩ := vals_cons' tv2
  cases tv3
  obtain ⟨_, us, uv, o', f1, f2, k2, f3⟩ := I.hok _ _ hq
  obtain ⟨y1, us1, rfl, ⟨u1, rfl⟩, uv1⟩ := vals_cons' uv
  obtain ⟨y2, us2, rfl, ⟨u2, rfl⟩, uv2⟩ := vals_cons' uv1
  obtain ⟨y3, us3, rfl, ⟨u3, rfl⟩, uv3⟩ := vals_cons' uv2
  cases uv3
  have tq : s.TypeIs (.ref q) "tuple" := ⟨_, f1, f2⟩
  exact wpAny_richCompare_same_room (op := .Lt) ⟨_, e1, e2⟩ tq F.slot_tuple_lt (wpAny_call_entry F.slot_tuple_lt ⟨_, e1, e2⟩ F.entry_tuple_lt (lt3_tree' e1 e3 f1 tq f3 ⟨_, rfl, (fun e => nomatch e), ⟨.bl _, H, I, rfl, hQ⟩⟩) (F.args_tuple_lt_2 _ _)) (by have := hr.units; omega)
end L2
/-! ## isinstance of a tuple that may be one of the module's -/
namespace L2
open PySem PySem.Spec PyProof.Rows
inductive TyQ (K : PySem.W.Frag) (H : Hp) : V → Value → Prop where
  | x {v : V} {t : Value} (h : TyX K H v t) : TyQ K H v t
  | sq {a : Addr} {ys : List V} (h : SqT K H a ys) : TyQ K H (.ref a) (.type "tuple")
theorem call_isinstQ {X : Cx} : CallR X (.builtin "isinstance") (fun xs H Q => ∃ x c t cv b, xs = [x, c] ∧ TyQ X.K H x t ∧ RelV c cv ∧ PySem.W.kitOne X.K t cv = some b ∧ Q (.bl b) H) := by
  intro pins s σ H xs us Q I r h
  obtain ⟨x, c, t, cv, b, rfl, ty, rc, e, q⟩ := h
  cases ty with
  | x h => exact call_isinst pins s σ H _ us Q I r ⟨_, c, _, cv, b, rfl, h, rc, e, q⟩
  | @sq a ys hs =>
    obtain ⟨u, u2, rfl, r1, r2⟩ := vals2 r
    have e2 : u2 = cv := by
      cases c <;> first
        | exact r2.trans rc.symm
        | (exfalso
           obtain ⟨t2, z⟩ := rc
           subst z
           revert e
           unfold PySem.W.kitOne PySem.W.kitCls
           simp)
    subst e2
    cases (show u = Value.ref a from r1)
    obtain ⟨its, rv, p, hz⟩ := I.tuple hs
    obtain ⟨o, h1, h2, _⟩ := p
    exact PySem.W.kia_one PySem.W.kitx_tuple I.kIn ⟨o, h1, h2⟩ e (fun z => nomatch z) fun tk => ⟨.bl b, H, I.tok tk, rfl, q⟩
end L2

namespace Cal
/-- 1 in a year that has a 29 February, else 0 -/
def lp (y : Int) : Int := if y % 4 = 0 ∧ (y % 100 ≠ 0 ∨ y % 400 = 0) then 1 else 0
def dim (y m : Int) : Int := if m = 2 then 28 + lp y else if m = 4 ∨ m = 6 ∨ m = 9 ∨ m = 11 then 30 else 31
def ahead (y : Int) : Int := (y - 1) * 365 + (y - 1) / 4 - (y - 1) / 100 + (y - 1) / 400
/-- the days of a year ahead of a month's first -/
def cum (y m : Int) : Int :=
  if m ≤ 1 then 0 else if m = 2 then 31 else if m = 3 then 59 + lp y else if m = 4 then 90 + lp y else if m = 5 then 120 + lp y
  else if m = 6 then 151 + lp y else if m = 7 then 181 + lp y else if m = 8 then 212 + lp y else if m = 9 then 243 + lp y
  else if m = 10 then 273 + lp y else if m = 11 then 304 + lp y else if m = 12 then 334 + lp y else 365 + lp y
def num (y m d : Int) : Int := ahead y + cum y m + d - 1
def Valid (y m d : Int) : Prop := 1 ≤ y ∧ y ≤ 9999 ∧ 1 ≤ m ∧ m ≤ 12 ∧ 1 ≤ d ∧ d ≤ dim y m
theorem lp_01 (y : Int) : 0 ≤ lp y ∧ lp y ≤ 1 := by unfold lp; split <;> decide
theorem dim_bounds (y m : Int) : 28 ≤ dim y m ∧ dim y m ≤ 31 := by
  have := lp_01 y
  unfold dim
  repeat' split
  all_goals omega
theorem cum_one (y : Int) : cum y 1 = 0 := rfl
theorem cum_succ {y m : Int} (h1 : 1 ≤ m) (h2 : m ≤ 12) : cum y (m + 1) = cum y m + dim y m := by
  have q : m = 1 ∨ m = 2 ∨ m = 3 ∨ m = 4 ∨ m = 5 ∨ m = 6 ∨ m = 7 ∨ m = 8 ∨ m = 9 ∨ m = 10 ∨ m = 11 ∨ m = 12 := by omega
  rcases q with rfl | rfl | rfl | rfl | rfl | rfl | rfl | rfl | rfl | rfl | rfl | rfl <;> simp [cum, dim] <;> omega
theorem cum_13 (y : Int) : cum y 13 = 365 + lp y := by simp [cum]
theorem cum_nonneg (y m : Int) : 0 ≤ cum y m := by
  have l := lp_01 y
  by_cases c : m ≤ 1
  · unfold cum; rw [if_pos c]; exact Int.le_refl 0
  · by_cases c2 : m ≤ 12
    · have q : m = 2 ∨ m = 3 ∨ m = 4 ∨ m = 5 ∨ m = 6 ∨ m = 7 ∨ m = 8 ∨ m = 9 ∨ m = 10 ∨ m = 11 ∨ m = 12 := by omega
      rcases q with rfl | rfl | rfl | rfl | rfl | rfl | rfl | rfl | rfl | rfl | rfl <;> simp [cum] <;> omega
    · have e : cum y m = 365 + lp y := by
        unfold cum
        rw [if_neg c, if_neg (by omega), if_neg (by omega), if_neg (by omega), if_neg (by omega), if_neg (by omega), if_neg (by omega), if_neg (by omega), if_neg (by omega), if_neg (by omega), if_neg (by omega), if_neg (by omega)]
      omega
theorem ahead_succ (y : Int) : ahead (y + 1) = ahead y + 365 + lp y := by
  unfold ahead lp
  split <;> omega
theorem ahead_mono {y z : Int} (h : y < z) : ahead y + 365 + lp y ≤ ahead z := by
  rw [← ahead_succ]
  unfold ahead
  omega
/-- months ahead of a later one -/
theorem cum_up {y m : Int} (h1 : 1 ≤ m) : ∀ j : Nat, m + 1 + (j : Int) ≤ 13 → cum y (m + 1) ≤ cum y (m + 1 + (j : Int))
  | 0, _ => Int.le_of_eq (by rw [show m + 1 + ((0 : Nat) : Int) = m + 1 from Int.add_zero _])
  | j + 1, h => by
    have a := cum_up (y := y) h1 j (by omega)
    have b := cum_succ (y := y) (m := m + 1 + (j : Int)) (by omega) (by omega)
    have c := (dim_bounds y (m + 1 + (j : Int))).1
    rw [show m + 1 + ((j + 1 : Nat) : Int) = m + 1 + (j : Int) + 1 by omega, b]
    omega
theorem cum_mono {y m k : Int} (h1 : 1 ≤ m) (h : m < k) (h2 : k ≤ 13) : cum y m + dim y m ≤ cum y k := by
  rw [← cum_succ h1 (by omega)]
  have := cum_up (y := y) h1 (k - (m + 1)).toNat (by omega)
  rw [show m + 1 + ((k - (m + 1)).toNat : Int) = k by omega] at this
  exact this
theorem in_year {y m d : Int} (h : Valid y m d) : 0 ≤ cum y m + d - 1 ∧ cum y m + d ≤ 365 + lp y := by
  obtain ⟨_, _, h3, h4, h5, h6⟩ := h
  have a := cum_nonneg y m
  have b := cum_mono (y := y) h3 (show m < 13 by omega) (by omega)
  rw [cum_13] at b
  omega
theorem num_inj {y m d z k e : Int} (h : Valid y m d) (g : Valid z k e) (q : num y m d = num z k e) : y = z ∧ m = k ∧ d = e := by
  have a := in_year h
  have b := in_year g
  obtain ⟨_, _, h3, h4, h5, h6⟩ := h
  obtain ⟨_, _, g3, g4, g5, g6⟩ := g
  unfold num at q
  have yz : y = z := by
    rcases Int.lt_trichotomy y z with c | c | c
    · have := ahead_mono c; omega
    · exact c
    · have := ahead_mono c; omega
  subst yz
  have mk : m = k := by
    rcases Int.lt_trichotomy m k with c | c | c
    · have := cum_mono (y := y) h3 c (by omega); omega
    · exact c
    · have := cum_mono (y := y) g3 c (by omega); omega
  subst mk
  exact ⟨rfl, rfl, by omega⟩
theorem num_range {y m d : Int} (h : Valid y m d) : 0 ≤ num y m d ∧ num y m d ≤ 3652058 := by
  have a := in_year h
  obtain ⟨h1, h2, _⟩ := h
  have e1 : ahead 1 = 0 := by decide
  have e2 : ahead 10000 = 3652059 := by decide
  have b := ahead_mono (y := y) (z := 10000) (by omega)
  have c : ahead 1 ≤ ahead y := by unfold ahead; omega
  unfold num
  omega
theorem lp_in {R h f : Int} (f0 : 0 ≤ f) (f1 : f < 24) : lp (R * 400 + h * 100 + f * 4 + 3 + 1) = 1 := by
  unfold lp
  rw [if_pos]
  exact ⟨by omega, Or.inl (by omega)⟩
theorem lp_end (R : Int) : lp (R * 400 + 3 * 100 + 24 * 4 + 3 + 1) = 1 := by
  unfold lp
  rw [if_pos]
  exact ⟨by omega, Or.inr (by omega)⟩
/-- the year in which a day lies, as the program reckons it -/
def yearOf (n : Int) : Int :=
  let r := n % 146097
  let h := min (r / 36524) 3
  let r2 := r - h * 36524
  let c := r2 % 1461
  n / 146097 * 400 + h * 100 + r2 / 1461 * 4 + min (c / 365) 3 + 1
theorem yearOf_spec {n : Int} (h0 : 0 ≤ n) (h1 : n ≤ 3652058) : 1 ≤ yearOf n ∧ yearOf n ≤ 9999 ∧ ahead (yearOf n) ≤ n ∧ n < ahead (yearOf n) + 365 + lp (yearOf n) := by
  obtain ⟨R, eR⟩ : ∃ R, R = n / 146097 := ⟨_, rfl⟩
  obtain ⟨a, ea⟩ : ∃ a, a = n % 146097 := ⟨_, rfl⟩
  obtain ⟨h, eh⟩ : ∃ h, h = min (a / 36524) 3 := ⟨_, rfl⟩
  obtain ⟨b, eb⟩ : ∃ b, b = a - h * 36524 := ⟨_, rfl⟩
  obtain ⟨f, ef⟩ : ∃ f, f = b / 1461 := ⟨_, rfl⟩
  obtain ⟨c, ec⟩ : ∃ c, c = b % 1461 := ⟨_, rfl⟩
  obtain ⟨o, eo⟩ : ∃ o, o = min (c / 365) 3 := ⟨_, rfl⟩
  have ey : yearOf n = R * 400 + h * 100 + f * 4 + o + 1 := by
    unfold yearOf
    simp only [← ea, ← eR, ← eh, ← eb, ← ef, ← ec, ← eo]
  rw [ey]
  have b1 : 0 ≤ a ∧ a < 146097 ∧ n = 146097 * R + a := by omega
  have b2 : 0 ≤ h ∧ h ≤ 3 ∧ 0 ≤ b ∧ b ≤ 36524 ∧ (h < 3 → b < 36524) := by omega
  have b3 : 0 ≤ f ∧ f ≤ 24 ∧ 0 ≤ c ∧ c < 1461 ∧ b = 1461 * f + c := by omega
  have b4 : 0 ≤ o ∧ o ≤ 3 ∧ 365 * o ≤ c ∧ (o < 3 → c < 365 * o + 365) := by omega
  have b5 : 0 ≤ R ∧ R ≤ 24 := by omega
  clear eR ea eh ef ec eo ey
  have q4 : (R * 400 + h * 100 + f * 4 + o + 1 - 1) / 4 = 100 * R + 25 * h + f := by omega
  have q100 : (R * 400 + h * 100 + f * 4 + o + 1 - 1) / 100 = 4 * R + h := by omega
  have q400 : (R * 400 + h * 100 + f * 4 + o + 1 - 1) / 400 = R := by omega
  have eA : ahead (R * 400 + h * 100 + f * 4 + o + 1) = 146097 * R + 36524 * h + 1461 * f + 365 * o := by
    unfold ahead
    rw [q4, q100, q400]
    omega
  rw [eA]
  have l := lp_01 (R * 400 + h * 100 + f * 4 + o + 1)
  refine ⟨by omega, by omega, by omega, ?_⟩
  by_cases z : o < 3
  · omega
  · by_cases z2 : c < 1460
    · omega
    · obtain rfl : o = 3 := by omega
      have c0 : c = 1460 := by omega
      by_cases z3 : f < 24
      · rw [lp_in b3.1 z3]
        omega
      · obtain rfl : f = 24 := by omega
        obtain rfl : h = 3 := by omega
        rw [lp_end]
        omega
/-- the month and the day, from the rest within the year -/
theorem month_below {y r : Int} (h0 : 0 ≤ r) : ∀ k : Nat, k < 13 → r < cum y ((k : Int) + 1) → ∃ m, 1 ≤ m ∧ m ≤ 12 ∧ cum y m ≤ r ∧ r < cum y m + dim y m
  | 0, _, h => by
    have e : cum y (((0 : Nat) : Int) + 1) = 0 := rfl
    omega
  | k + 1, hk, h => by
    by_cases c : r < cum y ((k : Int) + 1)
    · exact month_below h0 k (by omega) c
    · have s := cum_succ (y := y) (m := (k : Int) + 1) (by omega) (by omega)
      have e : ((k + 1 : Nat) : Int) + 1 = (k : Int) + 1 + 1 := by omega
      rw [e, s] at h
      exact ⟨(k : Int) + 1, by omega, by omega, by omega, h⟩
theorem month_exists {y r : Int} (h0 : 0 ≤ r) (h1 : r < 365 + lp y) : ∃ m, 1 ≤ m ∧ m ≤ 12 ∧ cum y m ≤ r ∧ r < cum y m + dim y m :=
  month_below h0 12 (by decide) (by have e : cum y (((12 : Nat) : Int) + 1) = 365 + lp y := cum_13 y
                                    omega)
theorem date_exists {n : Int} (h0 : 0 ≤ n) (h1 : n ≤ 3652058) : ∃ y m d, Valid y m d ∧ num y m d = n := by
  obtain ⟨a, b, c, d⟩ := yearOf_spec h0 h1
  obtain ⟨m, m1, m2, m3, m4⟩ := month_exists (y := yearOf n) (r := n - ahead (yearOf n)) (by omega) (by omega)
  exact ⟨yearOf n, m, n - ahead (yearOf n) - cum (yearOf n) m + 1, ⟨a, b, m1, m2, by omega, by omega⟩, by unfold num; omega⟩
end Cal
namespace Cal
end Cal
namespace Cal
/-- so many months on: the month is there; its year, its month, its day -/
def MonOk (y m k : Int) : Prop := 1 ≤ (y * 12 + m - 1 + k) / 12 ∧ (y * 12 + m - 1 + k) / 12 ≤ 9999
def monY (y m k : Int) : Int := (y * 12 + m - 1 + k) / 12
def monM (y m k : Int) : Int := (y * 12 + m - 1 + k) % 12 + 1
def monD (y m d k : Int) : Int := if dim (monY y m k) (monM y m k) < d then dim (monY y m k) (monM y m k) else d
theorem mon_valid {y m d k : Int} (h : Valid y m d) (g : MonOk y m k) : Valid (monY y m k) (monM y m k) (monD y m d k) := by
  obtain ⟨_, _, _, _, h5, h6⟩ := h
  obtain ⟨g1, g2⟩ := g
  have b := dim_bounds (monY y m k) (monM y m k)
  refine ⟨g1, g2, by unfold monM; omega, by unfold monM; omega, ?_, ?_⟩
  · unfold monD; split <;> omega
  · unfold monD; split <;> omega
end Cal

namespace Cal
theorem num_lt {y m d z k e : Int} (h : Valid y m d) (g : Valid z k e) (q : y * 12 + m < z * 12 + k) : num y m d < num z k e := by
  have a := in_year h
  have b := in_year g
  obtain ⟨h1, h2, h3, h4, h5, h6⟩ := h
  obtain ⟨g1, g2, g3, g4, g5, g6⟩ := g
  unfold num
  by_cases c : y < z
  · have := ahead_mono c
    omega
  · obtain rfl : y = z := by omega
    have := cum_mono (y := y) h3 (show m < k by omega) (by omega)
    omega
theorem year_le {y m d : Int} (h : Valid y m d) (g : num y m d ≤ 3500000) : y ≤ 9600 := by
  have a := in_year h
  unfold num at g
  unfold ahead at g
  omega
theorem mon_ok {y m d k : Int} (h : Valid y m d) (g : num y m d ≤ 3500000) (k0 : 0 ≤ k) (k1 : k ≤ 720) : MonOk y m k := by
  have := year_le h g
  obtain ⟨h1, h2, h3, h4, h5, h6⟩ := h
  exact ⟨by omega, by omega⟩
open Classical in
/-- the day that is so many months on from a day -/
noncomputable def mon (n k : Int) : Int :=
  if h : ∃ p : Int × Int × Int, Valid p.1 p.2.1 p.2.2 ∧ num p.1 p.2.1 p.2.2 = n then
    num (monY (choose h).1 (choose h).2.1 k) (monM (choose h).1 (choose h).2.1 k) (monD (choose h).1 (choose h).2.1 (choose h).2.2 k) else 0
theorem mon_eq {y m d k : Int} (h : Valid y m d) : mon (num y m d) k = num (monY y m k) (monM y m k) (monD y m d k) := by
  have ex : ∃ p : Int × Int × Int, Valid p.1 p.2.1 p.2.2 ∧ num p.1 p.2.1 p.2.2 = num y m d := ⟨(y, m, d), h, rfl⟩
  unfold mon
  rw [dif_pos ex]
  obtain ⟨v, e⟩ := Classical.choose_spec ex
  obtain ⟨e1, e2, e3⟩ := num_inj v h e
  rw [e1, e2, e3]
theorem mon_zero {n : Int} (h0 : 0 ≤ n) (h1 : n ≤ 3652058) : mon n 0 = n := by
  obtain ⟨y, m, d, va, rfl⟩ := date_exists h0 h1
  rw [mon_eq va]
  obtain ⟨v1, v2, v3, v4, v5, v6⟩ := id va
  have e1 : monY y m 0 = y := by unfold monY; omega
  have e2 : monM y m 0 = m := by unfold monM; omega
  have e3 : monD y m d 0 = d := by unfold monD; rw [e1, e2, if_neg (by omega)]
  rw [e1, e2, e3]
theorem mon_lt {n k j : Int} (h0 : 0 ≤ n) (h1 : n ≤ 3500000) (k0 : 0 ≤ k) (kj : k < j) (j1 : j ≤ 720) : mon n k < mon n j := by
  obtain ⟨y, m, d, va, rfl⟩ := date_exists h0 (by omega)
  rw [mon_eq va, mon_eq va]
  refine num_lt (mon_valid va (mon_ok va h1 k0 (by omega))) (mon_valid va (mon_ok va h1 (by omega) j1)) ?_
  unfold monY monM
  omega
/-- where span k begins: dy: a cycle of days, else of months -/
noncomputable def beg (f : Int) (dy : Bool) (c k : Int) : Int := if dy = true then f + k * c else mon f (k * c)
/-- a cycle's bounds -/
def CycOk (dy : Bool) (c : Int) : Prop := 1 ≤ c ∧ c ≤ if dy = true then 400 else 12
theorem beg_zero {f c : Int} {dy : Bool} (h0 : 0 ≤ f) (h1 : f ≤ 3500000) : beg f dy c 0 = f := by
  unfold beg
  rw [Int.zero_mul]
  split
  · omega
  · exact mon_zero h0 (by omega)
theorem mul_bound {c k : Int} (c0 : 1 ≤ c) (c1 : c ≤ 12) (k0 : 0 ≤ k) (k1 : k ≤ 60) : 0 ≤ k * c ∧ k * c ≤ 720 := by
  constructor
  · exact Int.mul_nonneg k0 (by omega)
  · have := Int.mul_le_mul k1 c1 (by omega) (by omega)
    omega
theorem beg_lt {f c k j : Int} {dy : Bool} (h0 : 0 ≤ f) (h1 : f ≤ 3500000) (hc : CycOk dy c) (k0 : 0 ≤ k) (kj : k < j) (j1 : j ≤ 60) : beg f dy c k < beg f dy c j := by
  obtain ⟨c0, c1⟩ := hc
  have m := Int.mul_lt_mul_of_pos_right kj (show 0 < c by omega)
  unfold beg
  cases dy with
  | true => rw [if_pos rfl, if_pos rfl]; omega
  | false =>
    rw [if_neg (by decide)] at c1
    rw [if_neg (by decide), if_neg (by decide)]
    exact mon_lt h0 h1 (mul_bound c0 c1 k0 (by omega)).1 m (mul_bound c0 c1 (by omega) j1).2
theorem cyc_days {c : Int} (a : 1 ≤ c) (b : c ≤ 400) : CycOk true c := ⟨a, by rw [if_pos rfl]; exact b⟩
theorem cyc_months {c : Int} (a : 1 ≤ c) (b : c ≤ 12) : CycOk false c := ⟨a, by rw [if_neg (by decide)]; exact b⟩
theorem beg_le {f c k j : Int} {dy : Bool} (h0 : 0 ≤ f) (h1 : f ≤ 3500000) (hc : CycOk dy c) (k0 : 0 ≤ k) (kj : k ≤ j) (j1 : j ≤ 60) : beg f dy c k ≤ beg f dy c j := by
  by_cases e : k = j
  · rw [e]; exact Int.le_refl _
  · exact Int.le_of_lt (beg_lt h0 h1 hc k0 (by omega) j1)
end Cal

/-! ## the latest of the terms that count -/
namespace L2
open PySem
/-- a term: its sort, the day from which it counts, its rank, what it tells -/
abbrev Rt := Nat × Int × Int × D
def Bst (rs : List Rt) (day : Int) (kd : Nat) : Option Rt → Prop
  | none => ∀ t ∈ rs, t.1 = kd → day < t.2.1
  | some t => t ∈ rs ∧ t.1 = kd ∧ t.2.1 ≤ day ∧ ∀ u ∈ rs, u.1 = kd → u.2.1 ≤ day → u.2.2.1 ≤ t.2.2.1
section
variable {rs rs' : List Rt} {day : Int} {kd : Nat} {o o' : Option Rt} {r t : Rt}
theorem Bst.one (inj : ∀ t ∈ rs, ∀ u ∈ rs, t.2.2.1 = u.2.2.1 → t = u) (m : ∀ t, t ∈ rs' ↔ t ∈ rs) (h : Bst rs day kd o) (h' : Bst rs' day kd o') : o = o' := by
  match o, o', h, h' with
  | none, none, _, _ => rfl
  | none, some t, h, h' => have := h t ((m t).mp h'.1) h'.2.1; have := h'.2.2.1; omega
  | some t, none, h, h' => have := h' t ((m t).mpr h.1) h.2.1; have := h.2.2.1; omega
  | some t, some u, h, h' =>
    have a := h.2.2.2 u ((m u).mp h'.1) h'.2.1 h'.2.2.1
    have b := h'.2.2.2 t ((m t).mpr h.1) h.2.1 h.2.2.1
    rw [inj t h.1 u ((m u).mp h'.1) (by omega)]
theorem Bst.stay (h : Bst rs day kd (some t)) (b : r.2.2.1 ≤ t.2.2.1) : Bst (rs ++ [r]) day kd (some t) := by
  refine ⟨List.mem_append_left _ h.1, h.2.1, h.2.2.1, fun u hu e l => ?_⟩
  rcases List.mem_append.mp hu with z | z
  · exact h.2.2.2 u z e l
  · rw [List.mem_singleton.mp z]; exact b
end
def chK : Ch → Nat
  | .plan _ _ => 0
  | .seats _ _ => 1
  | _ => 2
def chDay : Ch → Int
  | .plan d _ => d
  | .seats d _ => d
  | .word _ d => d
  | _ => 0
def wordT : Nat → List Nat
  | 0 => [104, 101, 108, 100]
  | 1 => [111, 110]
  | _ => [111, 102, 102]
def chVal : Ch → D
  | .plan _ nm => .str nm
  | .seats _ n => .int n
  | .word w _ => .str (wordT w)
  | _ => .non
def isLast : Ch → Bool
  | .word w _ => decide (3 ≤ w)
  | _ => false
/-- the begin of the next span -/
noncomputable def nb (f : Int) (dy : Bool) (c d : Int) : Int := open Classical in if h : ∃ k : Int, 0 ≤ k ∧ k < 60 ∧ Cal.beg f dy c k ≤ d ∧ d < Cal.beg f dy c (k + 1) then Cal.beg f dy c (h.choose + 1) else 0
noncomputable def cntF (f : Int) (dy : Bool) (c : Int) (ch : Ch) : Int := if isLast ch = true then nb f dy c (chDay ch) else chDay ch
/-- a term of these numbers -/
noncomputable def rtF (f : Int) (dy : Bool) (c : Int) (n : Int) (ch : Ch) : Rt := (chK ch, cntF f dy c ch, (cntF f dy c ch * 4000000 + chDay ch) * 64 + n, chVal ch)
end L2

/-! ## rows of days, each of one state -/
namespace L2
open PySem
section
variable {rs rs' : List Rt} {day d2 : Int} {kd : Nat} {o : Option Rt}
theorem Bst.mem (m : ∀ t, t ∈ rs' ↔ t ∈ rs) (h : Bst rs day kd o) : Bst rs' day kd o := by
  match o, h with
  | none, h => exact fun t ht => h t ((m t).mp ht)
  | some t, h => exact ⟨(m t).mpr h.1, h.2.1, h.2.2.1, fun u hu => h.2.2.2 u ((m u).mp hu)⟩
end
/-- a row: from, to, its state -/
abbrev Rw := Int × Int × List D
def Rws (G : Int → List D) : Int → List Rw → Int → Prop
  | b, [], e => b = e
  | b, x :: r, e => x.1 = b ∧ b < x.2.1 ∧ (∀ d, b ≤ d → d < x.2.1 → G d = x.2.2) ∧ (∀ y, r.head? = some y → x.2.2 ≠ y.2.2) ∧ Rws G x.2.1 r e
theorem Rws.le {G : Int → List D} : ∀ {xs : List Rw} {b e : Int}, Rws G b xs e → b ≤ e
  | [], _, _, h => Int.le_of_eq h
  | x :: r, b, e, h => by have := Rws.le h.2.2.2.2; have := h.2.1; omega
theorem Rws.snoc {G : Int → List D} {z : Rw} : ∀ {xs : List Rw} {b o : Int}, Rws G b xs o → z.1 = o → o < z.2.1 → (∀ d, o ≤ d → d < z.2.1 → G d = z.2.2) → (∀ x, xs.getLast? = some x → x.2.2 ≠ z.2.2) → Rws G b (xs ++ [z]) z.2.1
  | [], b, o, h, h1, h2, h3, _ => by
    obtain rfl : b = o := h
    exact ⟨h1, h2, h3, (fun _ h => nomatch h), rfl⟩
  | x :: r, b, o, h, h1, h2, h3, h4 => by
    refine ⟨h.1, h.2.1, h.2.2.1, fun y hy => ?_, Rws.snoc h.2.2.2.2 h1 h2 h3 fun y hy => h4 y ?_⟩
    · cases r with
      | nil => cases hy; exact h4 x rfl
      | cons y' r' => exact h.2.2.2.1 y hy
    · cases r with
      | nil => cases hy
      | cons a b => rw [List.getLast?_cons_cons]; exact hy
theorem Rws.cut {G : Int → List D} {x y : Rw} {r s : List Rw} {b e : Int} (h : Rws G b (x :: r) e) (g : Rws G b (y :: s) e) (st : x.2.2 = y.2.2) (z : x.2.1 < y.2.1) : False := by
  have g1 := Rws.le g.2.2.2.2
  have hx := h.2.2.2.2
  cases r with
  | nil => have : x.2.1 = e := hx; omega
  | cons w r' =>
    have n := h.2.2.2.1 w rfl
    have e1 := hx.2.2.1 x.2.1 (Int.le_refl _) hx.2.1
    have e2 := g.2.2.1 x.2.1 (by have := h.2.1; omega) z
    exact n (by rw [st, ← e2, e1])
theorem Rws.one {G : Int → List D} : ∀ {xs ys : List Rw} {b e : Int}, Rws G b xs e → Rws G b ys e → xs = ys
  | [], [], _, _, _, _ => rfl
  | [], y :: s, b, e, h, g => by have z : b = e := h; have := Rws.le g.2.2.2.2; have := g.2.1; omega
  | x :: r, [], b, e, h, g => by have z : b = e := g; have := Rws.le h.2.2.2.2; have := h.2.1; omega
  | (x0, x1, x2) :: r, (y0, y1, y2) :: s, b, e, h, g => by
    have st : x2 = y2 := (h.2.2.1 b (Int.le_refl _) h.2.1).symm.trans (g.2.2.1 b (Int.le_refl _) g.2.1)
    have en : x1 = y1 := by
      rcases Int.lt_trichotomy x1 y1 with z | z | z
      · exact (Rws.cut h g st z).elim
      · exact z
      · exact (Rws.cut g h st.symm z).elim
    have h0 : x0 = b := h.1
    have g0 : y0 = b := g.1
    subst st en h0 g0
    rw [Rws.one h.2.2.2.2 g.2.2.2.2]
theorem Rws.next {G : Int → List D} : ∀ {xs : List Rw} {b e : Int} {j : Nat} {x y : Rw}, Rws G b xs e → xs[j]? = some x → xs[j + 1]? = some y → x.2.2 ≠ y.2.2
  | [], _, _, _, _, _, _, h, _ => by rw [List.getElem?_nil] at h; cases h
  | x :: r, b, e, 0, _, y, h, h1, h2 => by
    cases h1
    exact h.2.2.2.1 y (by rw [List.head?_eq_getElem?]; exact h2)
  | x :: r, b, e, j + 1, _, y, h, h1, h2 => Rws.next h.2.2.2.2 h1 h2
/-- a state's tree -/
def ScD (d : D) : Prop := d = .non ∨ (∃ i, d = .int i) ∨ ∃ cs, d = .str cs
theorem dp_sv {K : PySem.W.Frag} {H : Hp} {n : Nat} {d : D} (h : ScD d) : Dp K H n d (sv d) := by
  rcases h with rfl | ⟨i, rfl⟩ | ⟨cs, rfl⟩
  · exact Dp_non
  · exact Dp_int
  · exact Dp_str
def StD (d : List D) : Prop := ∃ d0 n wd, ScD d0 ∧ d = [d0, .int n, .str wd]
theorem StD.dp {K : PySem.W.Frag} {H : Hp} {n : Nat} {a : Addr} {d : List D} (h : StD d) (e : H a = some (.tup (d.map sv))) : Dp K H (n + 1) (.tup d) (.ref a) := by
  obtain ⟨d0, n, wd, h0, rfl⟩ := h
  exact Dp_tup (SqT.of e) ⟨dp_sv h0, Dp_int, Dp_str, trivial⟩
theorem StD.sc {d : List D} (h : StD d) : ∀ x ∈ d, ScD x := by
  obtain ⟨d0, n, wd, h0, rfl⟩ := h
  intro x hx
  simp only [List.mem_cons, List.not_mem_nil, or_false] at hx
  rcases hx with rfl | rfl | rfl
  · exact h0
  · exact .inr (.inl ⟨_, rfl⟩)
  · exact .inr (.inr ⟨_, rfl⟩)
/-- the rows as they lie -/
def RwAt (H : Hp) (z : Addr × Rw) : Prop := ∃ s, H z.1 = some (.tup [.int z.2.1, .int z.2.2.1, .ref s]) ∧ H s = some (.tup (z.2.2.2.map sv)) ∧ StD z.2.2.2
def RwsAt (H : Hp) (r : Addr) (zs : List (Addr × Rw)) : Prop := H r = some (.lst (zs.map fun z => V.ref z.1)) ∧ ∀ z ∈ zs, RwAt H z
theorem RwAt.same {H H' : Hp} {z : Addr × Rw} (h : RwAt H z) (s : Same H H') : RwAt H' z := let ⟨a, h1, h2, h3⟩ := h; ⟨a, s _ _ h1, s _ _ h2, h3⟩
theorem RwAt.put {H : Hp} {z : Addr × Rw} {l : Addr} {xs ys : List V} (h : RwAt H z) (e : H l = some (.lst xs)) : RwAt (upd H l (.lst ys)) z := by
  obtain ⟨a, h1, h2, h3⟩ := h
  refine ⟨a, ?_, ?_, h3⟩
  · rw [upd_ne (fun y => by rw [y, e] at h1; cases h1)]; exact h1
  · rw [upd_ne (fun y => by rw [y, e] at h2; cases h2)]; exact h2
theorem RwsAt.same {H H' : Hp} {r : Addr} {zs : List (Addr × Rw)} (h : RwsAt H r zs) (s : Same H H') : RwsAt H' r zs := ⟨s _ _ h.1, fun z hz => (h.2 z hz).same s⟩
theorem Same.none {H H' : Hp} {a : Addr} (s : Same H H') (h : H' a = none) : H a = none := by
  rcases hh : H a with _ | o
  · rfl
  · rw [s _ _ hh] at h; cases h
end L2

/-! ## entries in their time -/
namespace L2
open PySem
abbrev Row := Int × Int × Int × Ch
/-- by day, then terms ahead of the others, then by number -/
def rLt (r s : Row) : Prop := r.1 < s.1 ∨ r.1 = s.1 ∧ (r.2.1 < s.2.1 ∨ r.2.1 = s.2.1 ∧ r.2.2.1 < s.2.2.1)
def rc (r : Row) : Int × Ch := (r.1, r.2.2.2)
theorem rLt_irr (r : Row) : ¬ rLt r r := by unfold rLt; omega
theorem rLt_asymm {r s : Row} (h : rLt r s) : ¬ rLt s r := by unfold rLt at *; omega
theorem sorted_uniq {α : Type} {lt : α → α → Prop} (irr : ∀ a b, lt a b → ¬ lt b a) : ∀ {xs ys : List α}, xs.Perm ys → xs.Pairwise lt → ys.Pairwise lt → xs = ys
  | [], ys, p, _, _ => (List.nil_perm.mp p).symm
  | x :: xs, [], p, _, _ => absurd p.length_eq (by simp)
  | x :: xs, y :: ys, p, hx, hy => by
    obtain ⟨x1, x2⟩ := List.pairwise_cons.mp hx
    obtain ⟨y1, y2⟩ := List.pairwise_cons.mp hy
    have e : x = y := by
      rcases List.mem_cons.mp (p.mem_iff.mp (List.mem_cons_self ..)) with e | e
      · exact e
      · rcases List.mem_cons.mp (p.mem_iff.mpr (List.mem_cons_self ..)) with e' | e'
        · exact e'.symm
        · exact absurd (x1 y e') (irr _ _ (y1 x e))
    subst e
    rw [sorted_uniq irr (List.Perm.cons_inv p) x2 y2]
def isOth : Ch → Bool
  | .grant _ => true
  | .back => true
  | _ => false
theorem oth_tm (c : Ch) (h : isOth c = true) : isTm c = false := by cases c <;> first | rfl | cases h
theorem chW_oth (c : Ch) : decide (chW c ∈ [[103, 114, 97, 110, 116], [98, 97, 99, 107]]) = isOth c := by
  cases c with
  | plan => rfl
  | seats => rfl
  | word w _ =>
    match w with
    | 0 => rfl
    | 1 => rfl
    | 2 => rfl
    | n + 3 => rfl
  | undo => rfl
  | grant => rfl
  | back => rfl
/-- when and what -/
def ce (z : En) : Int × Ch := (z.2.2.1, z.2.2.2)
def rowT (cs : List Ch) (gs : List Int) (i : Nat) : Option Row := match cs[i]? with
  | some c => if (isTm c && !decide ((i : Int) ∈ gs)) = true then some (chDay c, 0, i, c) else none
  | none => none
def rowO (es : List (Int × Ch)) (i : Nat) : Option Row := match es[i]? with
  | some e => if isOth e.2 = true then some (e.1, 1, i, e.2) else none
  | none => none
def rowA (es : List (Int × Ch)) (i : Nat) : Option Row := match rowO es i with
  | some r => some r
  | none => rowT (es.map (·.2)) (goneF (es.map (·.2))) i
def rowsN (es : List (Int × Ch)) (n : Nat) : List Row := (List.range n).filterMap (rowA es)
def rowsF (es : List (Int × Ch)) : List Row := rowsN es es.length
theorem rowsN_succ (es : List (Int × Ch)) (n : Nat) : rowsN es (n + 1) = rowsN es n ++ (rowA es n).toList := by
  unfold rowsN
  rw [List.range_succ, List.filterMap_append]
  cases q : rowA es n <;> simp [List.filterMap_cons, q]
theorem filterMap_split {α β : Type} {f g h : α → Option β} (hh : ∀ x, (f x = g x ∧ h x = none) ∨ (f x = h x ∧ g x = none)) : ∀ l : List α, (l.filterMap f).Perm (l.filterMap g ++ l.filterMap h)
  | [] => .refl _
  | x :: l => by
    have ih := filterMap_split hh l
    rcases hh x with ⟨e1, e2⟩ | ⟨e1, e2⟩
    · cases q : g x with
      | none => simp only [List.filterMap_cons, e1, e2, q]; exact ih
      | some y => simp only [List.filterMap_cons, e1, e2, q, List.cons_append]; exact ih.cons y
    · cases q : h x with
      | none => simp only [List.filterMap_cons, e1, e2, q]; exact ih
      | some y =>
        simp only [List.filterMap_cons, e1, e2, q]
        exact (ih.cons y).trans List.perm_middle.symm
/-- the terms that stand, then the others -/
def usR (es : List (Int × Ch)) : List Row := (List.range es.length).filterMap (rowT (es.map (·.2)) (goneF (es.map (·.2)))) ++ (List.range es.length).filterMap (rowO es)
theorem rows_us (es : List (Int × Ch)) : (rowsF es).Perm (usR es) := by
  refine filterMap_split (fun i => ?_) _
  unfold rowA
  cases q : rowO es i with
  | none => exact .inl ⟨rfl, rfl⟩
  | some r =>
    refine .inr ⟨rfl, ?_⟩
    unfold rowO at q
    unfold rowT
    rw [List.getElem?_map]
    cases e : es[i]? with
    | none => rw [e] at q; cases q
    | some x =>
      rw [e] at q
      dsimp only at q
      by_cases o : isOth x.2 = true
      · show (if (isTm x.2 && _) = true then _ else _) = none
        rw [oth_tm _ o, Bool.false_and, if_neg (by decide)]
      · rw [if_neg o] at q; cases q
theorem rowT_at {cs : List Ch} {gs : List Int} {i : Nat} {r : Row} (h : rowT cs gs i = some r) : r.2.1 = 0 ∧ r.2.2.1 = i ∧ r.1 = chDay r.2.2.2 ∧ cs[i]? = some r.2.2.2 ∧ isTm r.2.2.2 = true ∧ (i : Int) ∉ gs := by
  unfold rowT at h
  cases e : cs[i]? with
  | none => rw [e] at h; cases h
  | some c =>
    rw [e] at h
    dsimp only at h
    by_cases o : (isTm c && !decide ((i : Int) ∈ gs)) = true
    · rw [if_pos o] at h
      cases h
      rw [Bool.and_eq_true] at o
      exact ⟨rfl, rfl, rfl, rfl, o.1, by simpa using o.2⟩
    · rw [if_neg o] at h; cases h
theorem rowO_at {es : List (Int × Ch)} {i : Nat} {r : Row} (h : rowO es i = some r) : r.2.1 = 1 ∧ r.2.2.1 = i ∧ es[i]? = some (rc r) ∧ isOth r.2.2.2 = true := by
  unfold rowO at h
  cases e : es[i]? with
  | none => rw [e] at h; cases h
  | some c =>
    rw [e] at h
    dsimp only at h
    by_cases o : isOth c.2 = true
    · rw [if_pos o] at h
      cases h
      exact ⟨rfl, rfl, rfl, o⟩
    · rw [if_neg o] at h; cases h
theorem fm_pair {β : Type} {f : Nat → Option β} {R : β → β → Prop} (hr : ∀ i j x y, i < j → f i = some x → f j = some y → R x y) (n : Nat) : ((List.range n).filterMap f).Pairwise R := by
  rw [List.pairwise_filterMap]
  exact List.pairwise_lt_range.imp fun {i j} hij x hx y hy => hr i j x y hij hx hy
/-- behind one another in us: by kind and number -/
theorem us_pair (es : List (Int × Ch)) : (usR es).Pairwise fun r s => r.2.1 < s.2.1 ∨ r.2.1 = s.2.1 ∧ r.2.2.1 < s.2.2.1 := by
  unfold usR
  rw [List.pairwise_append]
  refine ⟨fm_pair (fun i j x y hij hx hy => ?_) _, fm_pair (fun i j x y hij hx hy => ?_) _, fun x hx y hy => ?_⟩
  · have a := rowT_at hx
    have b := rowT_at hy
    exact .inr ⟨by omega, by omega⟩
  · have a := rowO_at hx
    have b := rowO_at hy
    exact .inr ⟨by omega, by omega⟩
  · obtain ⟨i, _, hi⟩ := List.mem_filterMap.mp hx
    obtain ⟨j, _, hj⟩ := List.mem_filterMap.mp hy
    have a := rowT_at hi
    have b := rowO_at hj
    exact .inl (by omega)
/-- the order in time -/
def IsTime (es : List (Int × Ch)) (so : List Row) : Prop := so.Perm (rowsF es) ∧ so.Pairwise rLt
theorem IsTime.uniq {es : List (Int × Ch)} {a b : List Row} (h : IsTime es a) (g : IsTime es b) : a = b := sorted_uniq (fun _ _ => rLt_asymm) (h.1.trans g.1.symm) h.2 g.2
theorem byKey_time {es : List (Int × Ch)} {ix : List Nat} (h : ByKey ((usR es).map (·.1)) ix) : IsTime es (ix.map fun i => (usR es).getD i (0, 0, 0, .back)) := by
  obtain ⟨h1, h2⟩ := h
  rw [List.length_map] at h1
  have kz : ∀ i, i < (usR es).length → ((usR es).map (·.1)).getD i 0 = ((usR es).getD i (0, 0, 0, .back)).1 := fun i hi => by
    rw [List.getD_eq_getElem?_getD, List.getElem?_map, List.getD_eq_getElem?_getD, List.getElem?_eq_getElem hi]
    rfl
  refine ⟨?_, ?_⟩
  · have := h1.map fun i => (usR es).getD i (0, 0, 0, .back)
    rw [range_getD] at this
    exact this.trans (rows_us es).symm
  · rw [List.pairwise_map]
    refine h2.imp_of_mem fun {i j} hi hj hr => ?_
    have li := List.mem_range.mp (h1.mem_iff.mp hi)
    have lj := List.mem_range.mp (h1.mem_iff.mp hj)
    rw [kz i li, kz j lj] at hr
    rcases hr with hr | ⟨e, hij⟩
    · exact .inl hr
    · refine .inr ⟨e, ?_⟩
      have := List.pairwise_iff_getElem.mp (us_pair es) i j li lj hij
      rw [List.getD_eq_getElem?_getD, List.getElem?_eq_getElem li, List.getD_eq_getElem?_getD, List.getElem?_eq_getElem lj]
      exact this
theorem rowA_at {es : List (Int × Ch)} {i : Nat} {r : Row} (h : rowA es i = some r) : r.2.2.1 = i ∧ ((r.2.1 = 1 ∧ es[i]? = some (rc r) ∧ isOth r.2.2.2 = true) ∨ (r.2.1 = 0 ∧ r.1 = chDay r.2.2.2 ∧ isTm r.2.2.2 = true ∧ (es.map (·.2))[i]? = some r.2.2.2 ∧ (i : Int) ∉ goneF (es.map (·.2)))) := by
  unfold rowA at h
  cases q : rowO es i with
  | none =>
    rw [q] at h
    have a := rowT_at h
    exact ⟨a.2.1, .inr ⟨a.1, a.2.2.1, a.2.2.2.2.1, a.2.2.2.1, a.2.2.2.2.2⟩⟩
  | some s =>
    rw [q] at h
    cases h
    have a := rowO_at q
    exact ⟨a.2.1, .inl ⟨a.1, a.2.2.1, a.2.2.2⟩⟩
theorem gone_nil : ∀ {cs : List Ch}, (∀ c ∈ cs, isTm c = true ∨ isOth c = true) → goneF cs = []
  | [], _ => rfl
  | c :: cs, h => by
    have ih := gone_nil (cs := cs) fun x hx => h x (List.mem_cons_of_mem _ hx)
    rw [show c :: cs = [c] ++ cs from rfl, gone_append, ih, List.append_nil]
    have := h c (List.mem_cons_self ..)
    cases c <;> first | rfl | (rcases this with z | z <;> cases z)
/-- what is in order stays as it is -/
theorem time_again {es : List (Int × Ch)} {so so2 : List Row} (h : IsTime es so) (g : IsTime (so.map rc) so2) : so2.map rc = so.map rc := by
  have rows : ∀ r ∈ so, (r.2.1 = 1 ∧ isOth r.2.2.2 = true) ∨ (r.2.1 = 0 ∧ r.1 = chDay r.2.2.2 ∧ isTm r.2.2.2 = true) := fun r hr => by
    obtain ⟨i, _, hi⟩ := List.mem_filterMap.mp (h.1.mem_iff.mp hr)
    rcases (rowA_at hi).2 with a | a
    · exact .inl ⟨a.1, a.2.2⟩
    · exact .inr ⟨a.1, a.2.1, a.2.2.1⟩
  have gn : goneF ((so.map rc).map (·.2)) = [] := gone_nil fun c hc => by
    rw [List.map_map] at hc
    obtain ⟨r, hr, rfl⟩ := List.mem_map.mp hc
    rcases rows r hr with a | a
    · exact .inr a.2
    · exact .inl a.2.2
  have at_ : ∀ (i : Nat) r, so[i]? = some r → rowA (so.map rc) i = some (r.1, r.2.1, (i : Int), r.2.2.2) := fun i r e => by
    unfold rowA rowO
    rw [List.getElem?_map, e]
    dsimp only [Option.map_some]
    rcases rows r (List.mem_of_getElem? e) with a | a
    · rw [if_pos (show isOth (rc r).2 = true from a.2), a.1]
      rfl
    · rw [if_neg (show ¬ isOth (rc r).2 = true from fun z => by have := oth_tm _ z; rw [show isTm (rc r).2 = true from a.2.2] at this; cases this)]
      dsimp only
      unfold rowT
      rw [gn, List.getElem?_map, List.getElem?_map, e]
      dsimp only [Option.map_some]
      rw [if_pos (by rw [show isTm (rc r).2 = true from a.2.2]; simp), a.1]
      show some (chDay r.2.2.2, (0 : Int), (i : Int), r.2.2.2) = some (r.1, 0, (i : Int), r.2.2.2)
      rw [a.2.1]
  have eqr : ∀ n, n ≤ so.length → rowsN (so.map rc) n = (List.range n).map (fun i => ((so.getD i (0, 0, 0, .back)).1, (so.getD i (0, 0, 0, .back)).2.1, (i : Int), (so.getD i (0, 0, 0, .back)).2.2.2)) := fun n => by
    induction n with
    | zero => intro _; rfl
    | succ n ih =>
      intro hn
      rw [rowsN_succ, ih (by omega), List.range_succ, List.map_append, at_ n so[n] (List.getElem?_eq_getElem (by omega))]
      simp [List.getD_eq_getElem?_getD, List.getElem?_eq_getElem (show n < so.length by omega)]
  have mine : IsTime (so.map rc) ((List.range so.length).map (fun i => ((so.getD i (0, 0, 0, .back)).1, (so.getD i (0, 0, 0, .back)).2.1, (i : Int), (so.getD i (0, 0, 0, .back)).2.2.2))) := by
    refine ⟨by unfold rowsF; rw [List.length_map, eqr _ (Nat.le_refl _)], ?_⟩
    rw [List.pairwise_map, List.pairwise_iff_getElem]
    intro i j hi hj hij
    rw [List.length_range] at hi hj
    have p := List.pairwise_iff_getElem.mp h.2 i j hi hj hij
    simp only [List.getElem_range, List.getD_eq_getElem?_getD, List.getElem?_eq_getElem hi, List.getElem?_eq_getElem hj, Option.getD_some]
    unfold rLt at p ⊢
    dsimp only
    omega
  rw [g.uniq mine, List.map_map]
  have := congrArg (List.map rc) (range_getD (0, 0, 0, Ch.back) so)
  rw [List.map_map] at this
  exact this
end L2
namespace L2
open PySem
theorem rowT_due (cs : List Ch) (gs : List Int) : ∀ n, ((List.range n).filterMap (rowT cs gs)).map (fun r => r.2.2.1) = dueF cs gs n
  | 0 => rfl
  | n + 1 => by
    rw [due_succ, List.range_succ, List.filterMap_append, List.map_append, rowT_due cs gs n]
    congr 1
    unfold rowT
    cases e : cs[n]? with
    | none => simp [List.filterMap_cons, e, isTmO]
    | some c =>
      by_cases o : (isTm c && !decide ((n : Int) ∈ gs)) = true
      · rw [if_pos (show (isTmO (some c) && _) = true from o)]
        simp only [List.filterMap_cons, e, if_pos o, List.filterMap_nil, List.map_cons, List.map_nil]
      · rw [if_neg (show ¬ (isTmO (some c) && _) = true from o)]
        simp only [List.filterMap_cons, e, if_neg o, List.filterMap_nil, List.map_nil]
theorem stand_rows {cs : List Ch} (ok : UndoOk cs) : standF cs = ((List.range cs.length).filterMap (rowT cs (goneF cs))).map (fun r => r.2.2.1) := by
  rw [rowT_due]
  have := (stand_due cs ok cs.length (Nat.le_refl _)).1
  rw [List.take_length] at this
  exact this
theorem rowO_succ (es : List (Int × Ch)) (n : Nat) : (List.range (n + 1)).filterMap (rowO es) = (List.range n).filterMap (rowO es) ++ (rowO es n).toList := by
  rw [List.range_succ, List.filterMap_append]
  cases q : rowO es n <;> simp [List.filterMap_cons, q]
end L2
namespace L2
open PySem
theorem rowA_of {es : List (Int × Ch)} {i : Nat} {e : Int × Ch} (h : es[i]? = some e) : rowA es i = if isOth e.2 = true then some (e.1, 1, (i : Int), e.2) else if (isTm e.2 && !decide ((i : Int) ∈ goneF (es.map (·.2)))) = true then some (chDay e.2, 0, (i : Int), e.2) else none := by
  unfold rowA rowO rowT
  rw [List.getElem?_map, h]
  dsimp only [Option.map_some]
  by_cases o : isOth e.2 = true
  · rw [if_pos o, if_pos o]
  · rw [if_neg o, if_neg o]
theorem gone_len : ∀ cs : List Ch, (goneF cs).length ≤ cs.length
  | [] => Nat.le_refl _
  | c :: cs => by
    have ih := gone_len cs
    rw [show c :: cs = [c] ++ cs from rfl, gone_append, List.length_append, List.length_append]
    have : (goneF [c]).length ≤ 1 := by cases c <;> first | exact Nat.le_refl _ | exact Nat.zero_le _
    rw [List.length_singleton]
    omega
theorem rowsN_len (es : List (Int × Ch)) (n : Nat) : (rowsN es n).length ≤ n := by
  have := List.length_filterMap_le (rowA es) (List.range n)
  rw [List.length_range] at this
  exact this
theorem rowsN_num (es : List (Int × Ch)) (n : Nat) : (rowsN es n).Pairwise fun r s => r.2.2.1 < s.2.2.1 := fm_pair (fun i j x y hij hx hy => by
  have a := (rowA_at hx).1
  have b := (rowA_at hy).1
  omega) n
theorem rLt_total {r s : Row} (h : r.2.2.1 ≠ s.2.2.1) (n : ¬ rLt s r) : rLt r s := by unfold rLt at *; omega
theorem rLt_trans {r s u : Row} (h : rLt r s) (g : rLt s u) : rLt r u := by unfold rLt at *; omega
/-- a row as a tree -/
def rowD (r : Row) : D := .tup [.int r.1, .int r.2.1, .int r.2.2.1, .tup (chD r.2.2.2)]
theorem chD_flat (c : Ch) : ∀ d ∈ chD c, isSeq d = false := by
  intro d hd
  cases c <;> (simp only [chD, List.mem_cons, List.not_mem_nil, or_false] at hd; first | (rcases hd with rfl | rfl | rfl <;> rfl) | (rcases hd with rfl | rfl <;> rfl) | (subst hd; rfl))
theorem rowD_cmp (r s : Row) : cmpOk 2 (rowD r) (rowD s) := by
  show ∀ (j : Nat) (x y : D), _ → _ → cmpOk 1 x y
  intro j x y hx hy
  match j, hx, hy with
  | 0, hx, hy => cases hx; cases hy; exact ⟨rfl, rfl⟩
  | 1, hx, hy => cases hx; cases hy; exact ⟨rfl, rfl⟩
  | 2, hx, hy => cases hx; cases hy; exact ⟨rfl, rfl⟩
  | 3, hx, hy =>
    cases hx
    cases hy
    show ∀ (j : Nat) (x y : D), _ → _ → cmpOk 0 x y
    intro j x y h1 h2
    have a := chD_flat _ x (List.mem_of_getElem? h1)
    have b := chD_flat _ y (List.mem_of_getElem? h2)
    cases x <;> cases y <;> first | exact ⟨rfl, rfl⟩ | exact absurd (show true = false from a) (by decide) | exact absurd (show true = false from b) (by decide)
  | n + 4, hx, _ => cases hx
theorem rowD_ne {r s : Row} (h : r.2.2.1 ≠ s.2.2.1) : eqb 2 (rowD r) (rowD s) = false := by
  show all2b (eqb 1) [.int r.1, .int r.2.1, .int r.2.2.1, .tup (chD r.2.2.2)] [.int s.1, .int s.2.1, .int s.2.2.1, .tup (chD s.2.2.2)] = false
  have e : (r.2.2.1 == s.2.2.1) = false := beq_false_of_ne h
  show ((r.1 == s.1) && ((r.2.1 == s.2.1) && ((r.2.2.1 == s.2.2.1) && _))) = false
  rw [e, Bool.false_and, Bool.and_false, Bool.and_false]
/-- the row's tuple, its change's -/
abbrev Rx := Addr × Addr × Row
def RowAt (K : PySem.W.Frag) (H : Hp) (x : Rx) : Prop := H x.1 = some (.tup [.int x.2.2.1, .int x.2.2.2.1, .int x.2.2.2.2.1, .ref x.2.1]) ∧ SqT K H x.2.1 ((chD x.2.2.2.2.2).map sv)
def RowsAt (K : PySem.W.Frag) (H : Hp) (xs : List Rx) : Prop := ∀ x ∈ xs, RowAt K H x
theorem RowsAt.same {K : PySem.W.Frag} {H H' : Hp} {xs : List Rx} (h : RowsAt K H xs) (s : Same H H') : RowsAt K H' xs := fun x hx => ⟨s _ _ (h x hx).1, s.sqT (h x hx).2⟩
theorem RowsAt.off {K : PySem.W.Frag} {H : Hp} {xs : List Rx} {l : Addr} {ys zs : List V} (h : RowsAt K H xs) (e : H l = some (.lst ys)) : RowsAt K (upd H l (.lst zs)) xs := fun x hx => by
  refine ⟨?_, sqT_off2 (h x hx).2 e e fun b o n _ q => by rw [upd_ne n]; exact q⟩
  have h1 := (h x hx).1
  rw [upd_ne (fun y => by rw [y, e] at h1; cases h1)]
  exact h1
theorem RowsAt.all2 {K : PySem.W.Frag} {H : Hp} : ∀ {xs : List Rx}, RowsAt K H xs → all2 (Dp K H 2) (xs.map fun x => rowD x.2.2) (xs.map fun x => V.ref x.1)
  | [], _ => trivial
  | x :: xs, h => ⟨Dp_tup (SqT.of (h x (List.mem_cons_self ..)).1) ⟨Dp_int, Dp_int, Dp_int, Dp_tup (h x (List.mem_cons_self ..)).2 (chD_all2 _), trivial⟩, RowsAt.all2 fun y hy => h y (List.mem_cons_of_mem _ hy)⟩
theorem slT3 {K : PySem.W.Frag} {H : Hp} {a : Addr} {u v w x : V} {Q : VK} (h : SqT K H a [u, v, w, x]) (q : New H (.tup [u, v, w]) Q) : rSlT K (.ref a) none (some 3) H Q :=
  ⟨a, _, rfl, h, by intro z; exact absurd (show HT.sIx 4 4 (some 3) = 4 from z.2) (by decide), fun p hp => by rw [show cutV [u, v, w, x] none (some 3) = [u, v, w] from cut_min _ 3]; exact q.at hp⟩
end L2
namespace L2
open PySem
theorem lt3_row (r s : Row) : lt3 r.1 r.2.1 r.2.2.1 s.1 s.2.1 s.2.2.1 = true ↔ rLt r s := by
  unfold lt3 rLt
  exact decide_eq_true_iff
theorem erase_mapF {α β : Type} (f : α → β) : ∀ (l : List α) (j : Nat), (l.map f).eraseIdx j = (l.eraseIdx j).map f
  | [], _ => rfl
  | _ :: _, 0 => rfl
  | x :: l, j + 1 => by
    show f x :: (l.map f).eraseIdx j = f x :: (l.eraseIdx j).map f
    rw [erase_mapF f l j]
theorem perm_erase {α : Type} : ∀ {l : List α} {j : Nat} {w : α}, l[j]? = some w → l.Perm (w :: l.eraseIdx j)
  | x :: l, 0, w, h => by cases h; exact .refl _
  | x :: l, j + 1, w, h => by
    have h' : l[j]? = some w := by simpa using h
    show (x :: l).Perm (w :: x :: l.eraseIdx j)
    exact ((perm_erase h').cons x).trans (.swap w x _)
end L2

namespace K70
open PySem L2
seal L2.PE L2.PA L2.PS L2.PSs L2.PT L2.PW L2.PG L2.PGs L2.PI L2.PK L2.PO L2.PIf L2.PEt L2.PAt L2.PSt L2.PSst L2.PTt L2.PWt L2.PEm L2.PSm L2.PC
def top (i : Nat) : Stmt := PySem.Challenge.pw_paidspan_k70_entries_in_their_time.main.body.getD i (.Pass ⟨0, 0, 0, 0⟩)
abbrev s_has_leap_day : Stmt := top 14
abbrev s_days_in : Stmt := top 15
abbrev s_days_ahead_of_year : Stmt := top 16
abbrev s_day_of : Stmt := top 17
abbrev s_year_of : Stmt := top 18
abbrev s_date_of : Stmt := top 19
abbrev s_months_on : Stmt := top 20
abbrev s_begin_of : Stmt := top 23
abbrev s_is_whole : Stmt := top 25
abbrev s_is_whole_between : Stmt := top 26
abbrev s_end_of_account : Stmt := top 28
abbrev s_is_day_of : Stmt := top 29
abbrev s_is_term : Stmt := top 34
abbrev s_names_of : Stmt := top 35
abbrev s_fits_term : Stmt := top 36
abbrev s_fits_grant : Stmt := top 37
abbrev s_fits_undo : Stmt := top 38
abbrev s_fits : Stmt := top 39
abbrev s_standing_terms : Stmt := top 40
abbrev s_check_entries : Stmt := top 41
abbrev s_in_time : Stmt := top 43
abbrev s_xL_cell_at : Stmt := top 45
abbrev s_xL_mixed : Stmt := top 46
abbrev s_xL_plan_names : Stmt := top 47
abbrev s_xL_account : Stmt := top 48
abbrev s_xL_change : Stmt := top 49
abbrev s_xL_entries : Stmt := top 50
abbrev s_xL_due : Stmt := top 51
abbrev s_law : Stmt := top 52
theorem st_4 : Str.ofString "months" = SL [109, 111, 110, 116, 104, 115] := by decide +kernel
theorem st_7 : Str.ofString "plan" = SL [112, 108, 97, 110] := by decide +kernel
theorem st_8 : Str.ofString "seats" = SL [115, 101, 97, 116, 115] := by decide +kernel
theorem st_9 : Str.ofString "grant" = SL [103, 114, 97, 110, 116] := by decide +kernel
theorem st_10 : Str.ofString "undo" = SL [117, 110, 100, 111] := by decide +kernel
theorem st_11 : Str.ofString "back" = SL [98, 97, 99, 107] := by decide +kernel
theorem st_13 : Str.ofString "abcdefghijklmnopqrstuvwxyz" = SL [97, 98, 99, 100, 101, 102, 103, 104, 105, 106, 107, 108, 109, 110, 111, 112, 113, 114, 115, 116, 117, 118, 119, 120, 121, 122] := by decide +kernel
theorem st_14 : Str.ofString "" = SL [] := by decide +kernel
theorem st_15 : Str.ofString "days" = SL [100, 97, 121, 115] := by decide +kernel
theorem st_16 : Str.ofString "hold" = SL [104, 111, 108, 100] := by decide +kernel
theorem st_17 : Str.ofString "go" = SL [103, 111] := by decide +kernel
theorem st_18 : Str.ofString "stop" = SL [115, 116, 111, 112] := by decide +kernel
theorem st_19 : Str.ofString "last" = SL [108, 97, 115, 116] := by decide +kernel
/-- where things stand -/
structure Adr where
  a_has_leap_day : Addr
  d_has_leap_day : FuncData
  a_days_in : Addr
  d_days_in : FuncData
  a_days_ahead_of_year : Addr
  d_days_ahead_of_year : FuncData
  a_day_of : Addr
  d_day_of : FuncData
  a_year_of : Addr
  d_year_of : FuncData
  a_date_of : Addr
  d_date_of : FuncData
  a_months_on : Addr
  d_months_on : FuncData
  a_begin_of : Addr
  d_begin_of : FuncData
  a_is_whole : Addr
  d_is_whole : FuncData
  a_is_whole_between : Addr
  d_is_whole_between : FuncData
  a_end_of_account : Addr
  d_end_of_account : FuncData
  a_is_day_of : Addr
  d_is_day_of : FuncData
  a_is_term : Addr
  d_is_term : FuncData
  a_names_of : Addr
  d_names_of : FuncData
  a_fits_term : Addr
  d_fits_term : FuncData
  a_fits_grant : Addr
  d_fits_grant : FuncData
  a_fits_undo : Addr
  d_fits_undo : FuncData
  a_fits : Addr
  d_fits : FuncData
  a_standing_terms : Addr
  d_standing_terms : FuncData
  a_check_entries : Addr
  d_check_entries : FuncData
  a_in_time : Addr
  d_in_time : FuncData
  k_in_time : Addr
  p_in_time : Addr
  a_xL_cell_at : Addr
  d_xL_cell_at : FuncData
  a_xL_mixed : Addr
  d_xL_mixed : FuncData
  a_xL_plan_names : Addr
  d_xL_plan_names : FuncData
  a_xL_account : Addr
  d_xL_account : FuncData
  a_xL_change : Addr
  d_xL_change : FuncData
  a_xL_entries : Addr
  d_xL_entries : FuncData
  a_xL_due : Addr
  d_xL_due : FuncData
  a_law : Addr
  d_law : FuncData
  c_SpanError : Addr
  c_NoDate : Addr
  c_NoSpan : Addr
  c_TooLong : Addr
  c_NoEntry : Addr
/-- what stands there -/
structure Txt (K : PySem.W.Frag) (mg : Str → Option Value) (t : Adr) : Prop where
  mg_has_leap_day : mg "has_leap_day" = some (.ref t.a_has_leap_day)
  fn_has_leap_day : Fun K "has_leap_day" "has_leap_day" s_has_leap_day t.a_has_leap_day t.d_has_leap_day
  b_has_leap_day : Binds K t.d_has_leap_day ["year"] []
  mg_days_in : mg "days_in" = some (.ref t.a_days_in)
  fn_days_in : Fun K "days_in" "days_in" s_days_in t.a_days_in t.d_days_in
  b_days_in : Binds K t.d_days_in ["year", "month"] []
  mg_days_ahead_of_year : mg "days_ahead_of_year" = some (.ref t.a_days_ahead_of_year)
  fn_days_ahead_of_year : Fun K "days_ahead_of_year" "days_ahead_of_year" s_days_ahead_of_year t.a_days_ahead_of_year t.d_days_ahead_of_year
  b_days_ahead_of_year : Binds K t.d_days_ahead_of_year ["year"] []
  mg_day_of : mg "day_of" = some (.ref t.a_day_of)
  fn_day_of : Fun K "day_of" "day_of" s_day_of t.a_day_of t.d_day_of
  b_day_of : Binds K t.d_day_of ["year", "month", "day"] []
  mg_year_of : mg "year_of" = some (.ref t.a_year_of)
  fn_year_of : Fun K "year_of" "year_of" s_year_of t.a_year_of t.d_year_of
  b_year_of : Binds K t.d_year_of ["number"] []
  mg_date_of : mg "date_of" = some (.ref t.a_date_of)
  fn_date_of : Fun K "date_of" "date_of" s_date_of t.a_date_of t.d_date_of
  b_date_of : Binds K t.d_date_of ["number"] []
  mg_months_on : mg "months_on" = some (.ref t.a_months_on)
  fn_months_on : Fun K "months_on" "months_on" s_months_on t.a_months_on t.d_months_on
  b_months_on : Binds K t.d_months_on ["number", "many"] []
  mg_begin_of : mg "begin_of" = some (.ref t.a_begin_of)
  fn_begin_of : Fun K "begin_of" "begin_of" s_begin_of t.a_begin_of t.d_begin_of
  b_begin_of : Binds K t.d_begin_of ["first", "cycle", "k"] []
  mg_is_whole : mg "is_whole" = some (.ref t.a_is_whole)
  fn_is_whole : Fun K "is_whole" "is_whole" s_is_whole t.a_is_whole t.d_is_whole
  b_is_whole : Binds K t.d_is_whole ["value"] []
  mg_is_whole_between : mg "is_whole_between" = some (.ref t.a_is_whole_between)
  fn_is_whole_between : Fun K "is_whole_between" "is_whole_between" s_is_whole_between t.a_is_whole_between t.d_is_whole_between
  b_is_whole_between : Binds K t.d_is_whole_between ["value", "least", "greatest"] []
  mg_end_of_account : mg "end_of_account" = some (.ref t.a_end_of_account)
  fn_end_of_account : Fun K "end_of_account" "end_of_account" s_end_of_account t.a_end_of_account t.d_end_of_account
  b_end_of_account : Binds K t.d_end_of_account ["account"] []
  mg_is_day_of : mg "is_day_of" = some (.ref t.a_is_day_of)
  fn_is_day_of : Fun K "is_day_of" "is_day_of" s_is_day_of t.a_is_day_of t.d_is_day_of
  b_is_day_of : Binds K t.d_is_day_of ["account", "value"] []
  mg_is_term : mg "is_term" = some (.ref t.a_is_term)
  fn_is_term : Fun K "is_term" "is_term" s_is_term t.a_is_term t.d_is_term
  b_is_term : Binds K t.d_is_term ["change"] []
  mg_names_of : mg "names_of" = some (.ref t.a_names_of)
  fn_names_of : Fun K "names_of" "names_of" s_names_of t.a_names_of t.d_names_of
  b_names_of : Binds K t.d_names_of ["account"] []
  mg_fits_term : mg "fits_term" = some (.ref t.a_fits_term)
  fn_fits_term : Fun K "fits_term" "fits_term" s_fits_term t.a_fits_term t.d_fits_term
  b_fits_term : Binds K t.d_fits_term ["account", "change"] []
  mg_fits_grant : mg "fits_grant" = some (.ref t.a_fits_grant)
  fn_fits_grant : Fun K "fits_grant" "fits_grant" s_fits_grant t.a_fits_grant t.d_fits_grant
  b_fits_grant : Binds K t.d_fits_grant ["change"] []
  mg_fits_undo : mg "fits_undo" = some (.ref t.a_fits_undo)
  fn_fits_undo : Fun K "fits_undo" "fits_undo" s_fits_undo t.a_fits_undo t.d_fits_undo
  b_fits_undo : Binds K t.d_fits_undo ["change", "standing"] []
  mg_fits : mg "fits" = some (.ref t.a_fits)
  fn_fits : Fun K "fits" "fits" s_fits t.a_fits t.d_fits
  b_fits : Binds K t.d_fits ["account", "ahead", "change"] []
  mg_standing_terms : mg "standing_terms" = some (.ref t.a_standing_terms)
  fn_standing_terms : Fun K "standing_terms" "standing_terms" s_standing_terms t.a_standing_terms t.d_standing_terms
  b_standing_terms : Binds K t.d_standing_terms ["entries"] []
  mg_check_entries : mg "check_entries" = some (.ref t.a_check_entries)
  fn_check_entries : Fun K "check_entries" "check_entries" s_check_entries t.a_check_entries t.d_check_entries
  b_check_entries : Binds K t.d_check_entries ["account", "entries"] []
  mg_in_time : mg "in_time" = some (.ref t.a_in_time)
  fn_in_time : Fun K "in_time" "in_time" s_in_time t.a_in_time t.d_in_time
  b_in_time : Binds K t.d_in_time ["entries"] []
  cc_in_time : t.d_in_time.code = .ref t.k_in_time
  tb_in_time : TabK K mg "in_time" t.k_in_time t.p_in_time
  mg_xL_cell_at : mg "_law_cell_at" = some (.ref t.a_xL_cell_at)
  fn_xL_cell_at : Fun K "_law_cell_at" "_law_cell_at" s_xL_cell_at t.a_xL_cell_at t.d_xL_cell_at
  b_xL_cell_at : Binds K t.d_xL_cell_at ["_law_script", "_law_k"] []
  mg_xL_mixed : mg "_law_mixed" = some (.ref t.a_xL_mixed)
  fn_xL_mixed : Fun K "_law_mixed" "_law_mixed" s_xL_mixed t.a_xL_mixed t.d_xL_mixed
  b_xL_mixed : Binds K t.d_xL_mixed ["_law_cell", "_law_k"] []
  mg_xL_plan_names : mg "_law_plan_names" = some (.ref t.a_xL_plan_names)
  fn_xL_plan_names : Fun K "_law_plan_names" "_law_plan_names" s_xL_plan_names t.a_xL_plan_names t.d_xL_plan_names
  b_xL_plan_names : Binds K t.d_xL_plan_names ["_law_cell", "_law_many"] []
  mg_xL_account : mg "_law_account" = some (.ref t.a_xL_account)
  fn_xL_account : Fun K "_law_account" "_law_account" s_xL_account t.a_xL_account t.d_xL_account
  b_xL_account : Binds K t.d_xL_account ["_law_script"] []
  mg_xL_change : mg "_law_change" = some (.ref t.a_xL_change)
  fn_xL_change : Fun K "_law_change" "_law_change" s_xL_change t.a_xL_change t.d_xL_change
  b_xL_change : Binds K t.d_xL_change ["_law_account_here", "_law_n", "_law_own", "_law_free"] []
  mg_xL_entries : mg "_law_entries" = some (.ref t.a_xL_entries)
  fn_xL_entries : Fun K "_law_entries" "_law_entries" s_xL_entries t.a_xL_entries t.d_xL_entries
  b_xL_entries : Binds K t.d_xL_entries ["_law_script", "_law_account_here", "_law_start"] []
  mg_xL_due : mg "_law_due" = some (.ref t.a_xL_due)
  fn_xL_due : Fun K "_law_due" "_law_due" s_xL_due t.a_xL_due t.d_xL_due
  b_xL_due : Binds K t.d_xL_due ["_law_entries_here"] []
  mg_law : mg "law" = some (.ref t.a_law)
  fn_law : Fun K "law" "law" s_law t.a_law t.d_law
  b_law : Binds K t.d_law ["_law_script"] []
  mg_SpanError : mg "SpanError" = some (.ref t.c_SpanError)
  mg_NoDate : mg "NoDate" = some (.ref t.c_NoDate)
  mg_NoSpan : mg "NoSpan" = some (.ref t.c_NoSpan)
  mg_TooLong : mg "TooLong" = some (.ref t.c_TooLong)
  mg_NoEntry : mg "NoEntry" = some (.ref t.c_NoEntry)
  ex_NoDate : Exc K t.c_NoDate
  ex_NoSpan : Exc K t.c_NoSpan
  ex_TooLong : Exc K t.c_TooLong
  k_LAST_YEAR : ∃ u, mg "LAST_YEAR" = some u ∧ RelV (.int 9999) u
  k_LAST_DAY : ∃ u, mg "LAST_DAY" = some u ∧ RelV (.int 3652058) u
  k_MONTH_DAYS : ∃ a, mg "MONTH_DAYS" = some (.ref a) ∧ ∀ H, SqT K H a [.int 31, .int 28, .int 31, .int 30, .int 31, .int 30, .int 31, .int 31, .int 30, .int 31, .int 30, .int 31]
  k_ROUND_DAYS : ∃ u, mg "ROUND_DAYS" = some u ∧ RelV (.int 146097) u
  k_HUNDRED_YEARS_DAYS : ∃ u, mg "HUNDRED_YEARS_DAYS" = some u ∧ RelV (.int 36524) u
  k_FOUR_YEARS_DAYS : ∃ u, mg "FOUR_YEARS_DAYS" = some u ∧ RelV (.int 1461) u
  k_YEAR_DAYS : ∃ u, mg "YEAR_DAYS" = some u ∧ RelV (.int 365) u
  k_SPANS : ∃ u, mg "SPANS" = some u ∧ RelV (.int 60) u
  k_MOST_ENTRIES : ∃ u, mg "MOST_ENTRIES" = some u ∧ RelV (.int 40) u
  k_MOST_SEATS : ∃ u, mg "MOST_SEATS" = some u ∧ RelV (.int 1000000) u
  k_TERMS : ∃ a, mg "TERMS" = some (.ref a) ∧ ∀ H, SqT K H a [.str (SL [112, 108, 97, 110]), .str (SL [115, 101, 97, 116, 115]), .str (SL [104, 111, 108, 100]), .str (SL [103, 111]), .str (SL [115, 116, 111, 112]), .str (SL [108, 97, 115, 116])]
  no_range : mg "range" = none
  no_divmod : mg "divmod" = none
  no_min : mg "min" = none
  no_isinstance : mg "isinstance" = none
  no_int : mg "int" = none
  no_bool : mg "bool" = none
  no_len : mg "len" = none
  no_enumerate : mg "enumerate" = none
  no_sorted : mg "sorted" = none
  no_list : mg "list" = none
  no_tuple : mg "tuple" = none
  cl_SpanError : ClsOk K t.c_SpanError
  cl_NoDate : ClsOk K t.c_NoDate
  cl_NoSpan : ClsOk K t.c_NoSpan
  cl_TooLong : ClsOk K t.c_TooLong
  cl_NoEntry : ClsOk K t.c_NoEntry
section
local macro_rules | `(tactic| open_k0) => `(tactic| simp only [tSortK, iVals, tDNewS, tDIn, tDNotIn, sDPut, tDPop1, tDGet2, tDGet, tCallKX, kwG_one, tEither, tTupS, tLstS, comp_K, capσ, sub_nil, sub_none, sub_some, tYes, List.replicate, Option.join_some, Option.join_none, SL_inj, iStr, tPart, tNoPart, tSl, tLst, tTup, cx_K, slT, CDiv, Int.reduceLT, Int.reduceLE, Int.reduceToNat, Int.reduceNeg, Int.reduceAdd, Int.reduceSub, Int.reduceMul, forall_const, tSeq, tNext, tIfS, tRet, tRetN, tDrop, tAsg, gName, gCons, gNil, tVar, tC, tOp, rI, rI0, tUn, rU, tTest, tB, tAnd, tOr, tNot, tAndV, tOrV, tNotV, tIf, tCons, tNil, tCallX, tCallL, tCB, sRaise, rEq, rNe, scal_ii, scal_bb, scal_ss, scal_ni, scal_in, tChain, tAug, ipI, L2.start, List.map_cons, List.map_nil, List.length_cons, List.length_nil, List.cons_append, List.nil_append, List.append_nil, List.replicate_succ, List.replicate_zero, Nat.reduceAdd, Nat.reduceSub, List.getElem?_cons_zero, List.getElem?_cons_succ, List.set_cons_zero, List.set_cons_succ, Option.some.injEq, V.int.injEq, V.bl.injEq, V.ref.injEq, V.str.injEq, exists_eq_left', exists_eq_left, exists_eq', exists_and_left, List.cons.injEq, and_true, true_and, and_self, and_assoc, decide_eq_true_eq, if_true, if_false, Bool.true_eq_false, Bool.false_eq_true, Bool.not_eq_true', Bool.not_true, Bool.not_false, decide_eq_false_iff_not, ite_true, ite_false, reduceCtorEq, false_and, exists_false, false_or, or_false, and_false, Nat.reduceLeDiff])
local macro_rules | `(tactic| lge_open0) => `(tactic| simp only [tSortK, iVals, tDNewS, tDIn, tDNotIn, sDPut, tDPop1, tDGet2, tDGet, tCallKX, kwG_one, tEither, tTupS, tLstS, comp_K, capσ, sub_nil, sub_none, sub_some, tYes, List.replicate, Option.join_some, Option.join_none, SL_inj, iStr, tPart, tNoPart, tSl, tLst, tTup, cx_K, slT, CDiv, Int.reduceLT, Int.reduceLE, Int.reduceToNat, Int.reduceNeg, Int.reduceAdd, Int.reduceSub, Int.reduceMul, forall_const, tSeq, tNext, tIfS, tRet, tRetN, tDrop, tAsg, gName, gCons, gNil, tVar, tC, tOp, rI, rI0, tUn, rU, tTest, tB, tAnd, tOr, tNot, tAndV, tOrV, tNotV, tIf, tCons, tNil, tCallX, tCallL, tCB, sRaise, rEq, rNe, scal_ii, scal_bb, scal_ss, scal_ni, scal_in, tChain, tAug, ipI, L2.start, List.map_cons, List.map_nil, List.length_cons, List.length_nil, List.cons_append, List.nil_append, List.append_nil, List.replicate_succ, List.replicate_zero, Nat.reduceAdd, Nat.reduceSub, List.getElem?_cons_zero, List.getElem?_cons_succ, List.set_cons_zero, List.set_cons_succ, Option.some.injEq, V.int.injEq, V.bl.injEq, V.ref.injEq, V.str.injEq, exists_eq_left', exists_eq_left, exists_eq', exists_and_left, List.cons.injEq, and_true, true_and, and_self, and_assoc, decide_eq_true_eq, if_true, if_false, Bool.true_eq_false, Bool.false_eq_true, Bool.not_eq_true', Bool.not_true, Bool.not_false, decide_eq_false_iff_not, ite_true, ite_false, reduceCtorEq, false_and, exists_false, false_or, or_false, and_false, List.nil_append])
local macro_rules | `(tactic| lgec_open0) => `(tactic| simp only [tSortK, iVals, tDNewS, tDIn, tDNotIn, sDPut, tDPop1, tDGet2, tDGet, tCallKX, kwG_one, tEither, tTupS, tLstS, comp_K, capσ, sub_nil, sub_none, sub_some, tYes, List.replicate, Option.join_some, Option.join_none, SL_inj, iStr, tPart, tNoPart, tSl, tLst, tTup, cx_K, slT, CDiv, Int.reduceLT, Int.reduceLE, Int.reduceToNat, Int.reduceNeg, Int.reduceAdd, Int.reduceSub, Int.reduceMul, forall_const, tSeq, tNext, tIfS, tRet, tRetN, tDrop, tAsg, gName, gCons, gNil, tVar, tC, tOp, rI, rI0, tUn, rU, tTest, tB, tAnd, tOr, tNot, tAndV, tOrV, tNotV, tIf, tCons, tNil, tCallX, tCallL, tCB, sRaise, rEq, rNe, scal_ii, scal_bb, scal_ss, scal_ni, scal_in, tChain, tAug, ipI, L2.start, List.map_cons, List.map_nil, List.length_cons, List.length_nil, List.cons_append, List.nil_append, List.append_nil, List.replicate_succ, List.replicate_zero, Nat.reduceAdd, Nat.reduceSub, List.getElem?_cons_zero, List.getElem?_cons_succ, List.set_cons_zero, List.set_cons_succ, Option.some.injEq, V.int.injEq, V.bl.injEq, V.ref.injEq, V.str.injEq, exists_eq_left', exists_eq_left, exists_eq', exists_and_left, List.cons.injEq, and_true, true_and, and_self, and_assoc, decide_eq_true_eq, if_true, if_false, Bool.true_eq_false, Bool.false_eq_true, Bool.not_eq_true', Bool.not_true, Bool.not_false, decide_eq_false_iff_not, ite_true, ite_false, reduceCtorEq, false_and, exists_false, false_or, or_false, and_false, tBM, Nat.reduceLeDiff])
local macro_rules | `(tactic| w_why) => `(tactic| simp only [tSortK, iVals, tDNewS, tDIn, tDNotIn, sDPut, tDPop1, tDGet2, tDGet, tCallKX, kwG_one, tEither, tTupS, tLstS, comp_K, capσ, sub_nil, sub_none, sub_some, tYes, List.replicate, Option.join_some, Option.join_none, SL_inj, iStr, tPart, tNoPart, tSl, tLst, tTup, cx_K, slT, CDiv, Int.reduceLT, Int.reduceLE, Int.reduceToNat, Int.reduceNeg, Int.reduceAdd, Int.reduceSub, Int.reduceMul, forall_const, tSeq, tNext, tIfS, tRet, tRetN, tDrop, tAsg, gName, gCons, gNil, tVar, tC, tOp, rI, rI0, tUn, rU, tTest, tB, tAnd, tOr, tNot, tAndV, tOrV, tNotV, tIf, tCons, tNil, tCallX, tCallL, tCB, sRaise, rEq, rNe, scal_ii, scal_bb, scal_ss, scal_ni, scal_in, tChain, tAug, ipI, L2.start, List.map_cons, List.map_nil, List.length_cons, List.length_nil, List.cons_append, List.nil_append, List.append_nil, List.replicate_succ, List.replicate_zero, Nat.reduceAdd, Nat.reduceSub, List.getElem?_cons_zero, List.getElem?_cons_succ, List.set_cons_zero, List.set_cons_succ, Option.some.injEq, V.int.injEq, V.bl.injEq, V.ref.injEq, V.str.injEq, exists_eq_left', exists_eq_left, exists_eq', exists_and_left, List.cons.injEq, and_true, true_and, and_self, and_assoc, decide_eq_true_eq, if_true, if_false, Bool.true_eq_false, Bool.false_eq_true, Bool.not_eq_true', Bool.not_true, Bool.not_false, decide_eq_false_iff_not, ite_true, ite_false, reduceCtorEq, false_and, exists_false, false_or, or_false, and_false, iList, iTup, iZip, iRng1, iRng2, Nat.reduceLeDiff])
variable {P : Program} {w : World} {K : PySem.W.Frag} {mg : Str → Option Value} {base : Heap} {t : Adr}
def spLeap : Sp := fun vs H Q _ => ∃ y : Int, vs = [.int y] ∧ Q (.bl (decide (Cal.lp y = 1))) H
theorem sc_has_leap_day : FnScope ["year"] ["year"] (defScope s_has_leap_day) := ⟨rfl, rfl, rfl, by decide +kernel, rfl, by decide +kernel, by decide +kernel⟩
theorem ok_has_leap_day (T : Txt K mg t) : FnOk P w K mg base (CXE P w) 1 t.a_has_leap_day t.d_has_leap_day ["year"] spLeap := by
  refine T.fn_has_leap_day.okX sc_has_leap_day (fun vs H Q E h => ?_) (fun cdv A outer s H vs Q E L hr h => ?_)
  · obtain ⟨y, rfl, _⟩ := h
    rfl
  obtain ⟨y, rfl, q⟩ := h
  have nd := sc_has_leap_day.nd
  refine ⟨_, (pss_one (ps_ret (pe_and (pe_cmpR op_eq (pe_op op_mod (pv 0) pe_int) pe_int (nomark _)) (pe_one (pe_or (pe_cmpR op_ne (pe_op op_mod (pv 0) pe_int) pe_int (nomark _)) (pe_one (pe_cmpR op_eq (pe_op op_mod (pv 0) pe_int) pe_int (nomark _)))))))), ?_⟩
  simp only [tSortK, iVals, tDNewS, tDIn, tDNotIn, sDPut, tDPop1, tDGet2, tDGet, tCallKX, kwG_one, tEither, tTupS, tLstS, comp_K, capσ, sub_nil, sub_none, sub_some, tYes, List.replicate, Option.join_some, Option.join_none, SL_inj, iStr, tPart, tNoPart, tSl, tLst, tTup, cx_K, slT, CDiv, Int.reduceLT, Int.reduceLE, Int.reduceToNat, Int.reduceNeg, Int.reduceAdd, Int.reduceSub, Int.reduceMul, forall_const, tSeq, tNext, tIfS, tRet, tRetN, tDrop, tAsg, gName, gCons, gNil, tVar, tC, tOp, rI, rI0, tUn, rU, tTest, tB, tAnd, tOr, tNot, tAndV, tOrV, tNotV, tIf, tCons, tNil, tCallX, tCallL, tCB, sRaise, rEq, rNe, scal_ii, scal_bb, scal_ss, scal_ni, scal_in, tChain, tAug, ipI, L2.start, List.map_cons, List.map_nil, List.length_cons, List.length_nil, List.cons_append, List.nil_append, List.append_nil, List.replicate_succ, List.replicate_zero, Nat.reduceAdd, Nat.reduceSub, List.getElem?_cons_zero, List.getElem?_cons_succ, List.set_cons_zero, List.set_cons_succ, Option.some.injEq, V.int.injEq, V.bl.injEq, V.ref.injEq, V.str.injEq, exists_eq_left', exists_eq_left, exists_eq', exists_and_left, List.cons.injEq, and_true, true_and, and_self, and_assoc, decide_eq_true_eq, if_true, if_false, Bool.true_eq_false, Bool.false_eq_true, Bool.not_eq_true', Bool.not_true, Bool.not_false, decide_eq_false_iff_not, ite_true, ite_false, reduceCtorEq, false_and, exists_false, false_or, or_false, and_false]
  have e : ∀ b, b = decide (Cal.lp y = 1) → Q (.bl b) H := fun b z => by rw [z]; exact q
  split
  · split
    · exact e _ (by simp [Cal.lp, *])
    · refine e _ ?_
      by_cases c : y % 400 = 0 <;> simp [Cal.lp, *]
  · exact e _ (by simp [Cal.lp, *])
def InYear (y m : Int) : Prop := 1 ≤ y ∧ y ≤ 9999 ∧ 1 ≤ m ∧ m ≤ 12
def spDays (t : Adr) : Sp := fun vs H Q E => ∃ y m : Int, vs = [.int y, .int m] ∧ (InYear y m → Q (.int (Cal.dim y m)) H) ∧ (¬ InYear y m → E (.ref t.c_NoDate) none H)
theorem month_days {m : Int} (h1 : 1 ≤ m) (h2 : m ≤ 12) : atI [V.int 31, V.int 28, V.int 31, V.int 30, V.int 31, V.int 30, V.int 31, V.int 31, V.int 30, V.int 31, V.int 30, V.int 31] (m - 1) = some (.int (if m = 2 then 28 else if m = 4 ∨ m = 6 ∨ m = 9 ∨ m = 11 then 30 else 31)) := by
  have q : m = 1 ∨ m = 2 ∨ m = 3 ∨ m = 4 ∨ m = 5 ∨ m = 6 ∨ m = 7 ∨ m = 8 ∨ m = 9 ∨ m = 10 ∨ m = 11 ∨ m = 12 := by omega
  rcases q with rfl | rfl | rfl | rfl | rfl | rfl | rfl | rfl | rfl | rfl | rfl | rfl <;> rfl
theorem sc_days_in : FnScope ["year", "month"] ["year", "month"] (defScope s_days_in) := ⟨rfl, rfl, rfl, by decide +kernel, rfl, by decide +kernel, by decide +kernel⟩
theorem ok_days_in (T : Txt K mg t) : FnOk P w K mg base (CXE P w) 2 t.a_days_in t.d_days_in ["year", "month"] (spDays t) := by
  refine T.fn_days_in.okX sc_days_in (fun vs H Q E h => ?_) (fun cdv A outer s H vs Q E L hr h => ?_)
  · obtain ⟨y, m, rfl, _⟩ := h
    rfl
  obtain ⟨y, m, rfl, q1, q2⟩ := h
  have nd := sc_days_in.nd
  obtain ⟨a_MONTH_DAYS, h_MONTH_DAYS, q_MONTH_DAYS⟩ := T.k_MONTH_DAYS
  have r_MONTH_DAYS : RelV (.ref a_MONTH_DAYS) (.ref a_MONTH_DAYS) := rfl
  obtain ⟨u_LAST_YEAR, h_LAST_YEAR, r_LAST_YEAR⟩ := T.k_LAST_YEAR
  refine ⟨_, (pss_cons (ps_if (pw_or (pt_cmpR op_lt (pv 0) pe_int (nomark _)) (pw_or1 (pt_cmpR op_gt (pv 0) (pe_glob (by rfl) h_LAST_YEAR r_LAST_YEAR) (nomark _)))).pt (pss_one (ps_raise L T.ex_NoDate (by rfl) (by rfl) T.mg_NoDate (pa_cons pe_str pa_nil))) pss_nil) (pss_cons (ps_if (pw_or (pt_cmpR op_lt (pv 1) pe_int (nomark _)) (pw_or1 (pt_cmpR op_gt (pv 1) pe_int (nomark _)))).pt (pss_one (ps_raise L T.ex_NoDate (by rfl) (by rfl) T.mg_NoDate (pa_cons pe_str pa_nil))) pss_nil) (pss_cons (ps_if (pw_and (pt_cmpR op_eq (pv 1) pe_int (nomark _)) (pw_and1 (pt_val (pe_callX L.toLv (ok_has_leap_day T) (hr.mono (by decide)) (by rfl) T.mg_has_leap_day T.fn_has_leap_day.kp T.b_has_leap_day .nil (pa_cons (pv 0) pa_nil))))).pt (pss_one (ps_ret pe_int)) pss_nil) (pss_one (ps_ret (pe_ix ix_tup (pe_glob (by rfl) h_MONTH_DAYS r_MONTH_DAYS) (pe_op op_sub (pv 1) pe_int) (fun _ _ => rfl))))))), ?_⟩
  open_k0
  split
  · exact q2 (fun z => by obtain ⟨_, _, _, _⟩ := z; omega)
  split
  · exact q2 (fun z => by obtain ⟨_, _, _, _⟩ := z; omega)
  split
  · exact q2 (fun z => by obtain ⟨_, _, _, _⟩ := z; omega)
  split
  · exact q2 (fun z => by obtain ⟨_, _, _, _⟩ := z; omega)
  have ok : InYear y m := ⟨by omega, by omega, by omega, by omega⟩
  have q := q1 ok
  split
  · rename_i h2
    subst h2
    refine ⟨y, rfl, _, rfl, ?_⟩
    have l := Cal.lp_01 y
    have e : Cal.dim y 2 = 28 + Cal.lp y := rfl
    rw [e] at q
    split
    · rename_i c
      have z : Cal.lp y = 1 := of_decide_eq_true c
      rw [z] at q
      exact q
    · rename_i c
      have z : Cal.lp y ≠ 1 := of_decide_eq_false (Bool.eq_false_iff.mpr c)
      refine ixT (q_MONTH_DAYS _) (month_days (by omega) (by omega)) ?_
      have z0 : Cal.lp y = 0 := by omega
      rw [z0] at q
      exact q
  · rename_i h2
    refine ixT (q_MONTH_DAYS _) (month_days (by omega) (by omega)) ?_
    rw [if_neg h2]
    unfold Cal.dim at q
    rw [if_neg h2] at q
    exact q
def spAhead : Sp := fun vs H Q _ => ∃ y : Int, vs = [.int y] ∧ Q (.int (Cal.ahead y)) H
theorem sc_days_ahead_of_year : FnScope ["year", "past"] ["year"] (defScope s_days_ahead_of_year) := ⟨rfl, rfl, rfl, by decide +kernel, rfl, by decide +kernel, by decide +kernel⟩
theorem ok_days_ahead_of_year (T : Txt K mg t) : FnOk P w K mg base (CXE P w) 1 t.a_days_ahead_of_year t.d_days_ahead_of_year ["year"] spAhead := by
  refine T.fn_days_ahead_of_year.okX sc_days_ahead_of_year (fun vs H Q E h => ?_) (fun cdv A outer s H vs Q E L hr h => ?_)
  · obtain ⟨y, rfl, _⟩ := h
    rfl
  obtain ⟨y, rfl, q⟩ := h
  have nd := sc_days_ahead_of_year.nd
  obtain ⟨u_YEAR_DAYS, h_YEAR_DAYS, r_YEAR_DAYS⟩ := T.k_YEAR_DAYS
  refine ⟨_, (pss_cons (ps_set (i := 1) nd rfl (Or.inl rfl) (pe_op op_sub (pv 0) pe_int)) (pss_one (ps_ret (pe_op op_add (pe_op op_sub (pe_op op_add (pe_op op_mul (pv 1) (pe_glob (by rfl) h_YEAR_DAYS r_YEAR_DAYS)) (pe_op op_fdiv (pv 1) pe_int)) (pe_op op_fdiv (pv 1) pe_int)) (pe_op op_fdiv (pv 1) pe_int))))), ?_⟩
  open_k0
  exact ⟨Or.inr ⟨by decide, by decide⟩, q⟩
def spDayOf (t : Adr) : Sp := fun vs H Q E => ∃ y m d : Int, vs = [.int y, .int m, .int d] ∧ (Cal.Valid y m d → Q (.int (Cal.num y m d)) H) ∧ (¬ Cal.Valid y m d → E (.ref t.c_NoDate) none H)
theorem sc_day_of : FnScope ["year", "month", "day", "ahead", "earlier"] ["year", "month", "day"] (defScope s_day_of) := ⟨rfl, rfl, rfl, by decide +kernel, rfl, by decide +kernel, by decide +kernel⟩
theorem ok_day_of (T : Txt K mg t) : FnOk P w K mg base (CXE P w) 3 t.a_day_of t.d_day_of ["year", "month", "day"] (spDayOf t) := by
  refine T.fn_day_of.okX sc_day_of (fun vs H Q E h => ?_) (fun cdv A outer s H vs Q E L hr h => ?_)
  · obtain ⟨y, m, d, rfl, _⟩ := h
    rfl
  obtain ⟨y, m, d, rfl, q1, q2⟩ := h
  have nd := sc_day_of.nd
  refine ⟨_, (pss_cons (ps_if (pw_or (pt_cmpR op_lt (pv 2) pe_int (nomark _)) (pw_or1 (pt_cmpR op_gt (pv 2) (pe_callX L.toLv (ok_days_in T) (hr.mono (by decide)) (by rfl) T.mg_days_in T.fn_days_in.kp T.b_days_in .nil (pa_cons (pv 0) (pa_cons (pv 1) pa_nil star_Name) star_Name)) (nomark _)))).pt (pss_one (ps_raise L T.ex_NoDate (by rfl) (by rfl) T.mg_NoDate (pa_cons pe_str pa_nil))) pss_nil) (pss_cons (ps_set (i := 3) nd rfl (Or.inl rfl) (pe_callX L.toLv (ok_days_ahead_of_year T) (hr.mono (by decide)) (by rfl) T.mg_days_ahead_of_year T.fn_days_ahead_of_year.kp T.b_days_ahead_of_year .nil (pa_cons (pv 0) pa_nil))) (pss_cons (ps_for (by passes_own) rfl (pi_range2 (by rfl) T.no_range (pa_cons pe_int (pa_cons (pv 1) pa_nil star_Name) star_Constant)) (pg_name (i := 4) nd rfl (Or.inl rfl)) (pss_one (ps_aug (i := 3) nd rfl (Or.inl rfl) (pe_callX L.toLv (ok_days_in T) (hr.mono (by decide)) (by rfl) T.mg_days_in T.fn_days_in.kp T.b_days_in .nil (pa_cons (pv 0) (pa_cons (pv 4) pa_nil star_Name) star_Name)) ip_add))) (pss_one (ps_ret (pe_op op_sub (pe_op op_add (pv 3) (pv 2)) pe_int)))))), ?_⟩
  open_k0
  split
  · exact q2 (fun z => by obtain ⟨_, _, _, _, _, _⟩ := z; omega)
  refine ⟨y, m, rfl, fun ok => ?_, fun no => q2 (fun z => no ⟨z.1, z.2.1, z.2.2.1, z.2.2.2.1⟩)⟩
  obtain ⟨o1, o2, o3, o4⟩ := ok
  simp only [tSortK, iVals, tDNewS, tDIn, tDNotIn, sDPut, tDPop1, tDGet2, tDGet, tCallKX, kwG_one, tEither, tTupS, tLstS, comp_K, capσ, sub_nil, sub_none, sub_some, tYes, List.replicate, Option.join_some, Option.join_none, SL_inj, iStr, tPart, tNoPart, tSl, tLst, tTup, cx_K, slT, CDiv, Int.reduceLT, Int.reduceLE, Int.reduceToNat, Int.reduceNeg, Int.reduceAdd, Int.reduceSub, Int.reduceMul, forall_const, tSeq, tNext, tIfS, tRet, tRetN, tDrop, tAsg, gName, gCons, gNil, tVar, tC, tOp, rI, rI0, tUn, rU, tTest, tB, tAnd, tOr, tNot, tAndV, tOrV, tNotV, tIf, tCons, tNil, tCallX, tCallL, tCB, sRaise, rEq, rNe, scal_ii, scal_bb, scal_ss, scal_ni, scal_in, tChain, tAug, ipI, L2.start, List.map_cons, List.map_nil, List.length_cons, List.length_nil, List.cons_append, List.nil_append, List.append_nil, List.replicate_succ, List.replicate_zero, Nat.reduceAdd, Nat.reduceSub, List.getElem?_cons_zero, List.getElem?_cons_succ, List.set_cons_zero, List.set_cons_succ, Option.some.injEq, V.int.injEq, V.bl.injEq, V.ref.injEq, V.str.injEq, exists_eq_left', exists_eq_left, exists_eq', exists_and_left, List.cons.injEq, and_true, true_and, and_self, and_assoc, decide_eq_true_eq, if_true, if_false, Bool.true_eq_false, Bool.false_eq_true, Bool.not_eq_true', Bool.not_true, Bool.not_false, decide_eq_false_iff_not, ite_true, ite_false, reduceCtorEq, false_and, exists_false, false_or, or_false, and_false]
  split
  · exact q2 (fun z => by obtain ⟨_, _, _, _, _, _⟩ := z; omega)
  have va : Cal.Valid y m d := ⟨o1, o2, o3, o4, by omega, by omega⟩
  have q := q1 va
  refine ⟨y, rfl, ?_⟩
  refine ⟨_, rfl, 1, m, rfl, ⟨by decide, by decide, by omega, by omega⟩, ?_⟩
  refine for_range (fun i σ1 H1 => H1 = H ∧ ∃ e, σ1 = [some (.int y), some (.int m), some (.int d), some (.int (Cal.ahead y + Cal.cum y ((i : Int) + 1))), e]) ⟨rfl, none, ?_⟩ (fun i σ1 H1 hi h => ?_) (fun σ1 H1 h => ?_)
  · have e : Cal.ahead y + Cal.cum y (((0 : Nat) : Int) + 1) = Cal.ahead y := by
      rw [show (((0 : Nat) : Int) + 1) = 1 from rfl, Cal.cum_one]
      omega
    rw [e]
  · obtain ⟨rfl, e, rfl⟩ := h
    simp only [tSortK, iVals, tDNewS, tDIn, tDNotIn, sDPut, tDPop1, tDGet2, tDGet, tCallKX, kwG_one, tEither, tTupS, tLstS, comp_K, capσ, sub_nil, sub_none, sub_some, tYes, List.replicate, Option.join_some, Option.join_none, SL_inj, iStr, tPart, tNoPart, tSl, tLst, tTup, cx_K, slT, CDiv, Int.reduceLT, Int.reduceLE, Int.reduceToNat, Int.reduceNeg, Int.reduceAdd, Int.reduceSub, Int.reduceMul, forall_const, tSeq, tNext, tIfS, tRet, tRetN, tDrop, tAsg, gName, gCons, gNil, tVar, tC, tOp, rI, rI0, tUn, rU, tTest, tB, tAnd, tOr, tNot, tAndV, tOrV, tNotV, tIf, tCons, tNil, tCallX, tCallL, tCB, sRaise, rEq, rNe, scal_ii, scal_bb, scal_ss, scal_ni, scal_in, tChain, tAug, ipI, L2.start, List.map_cons, List.map_nil, List.length_cons, List.length_nil, List.cons_append, List.nil_append, List.append_nil, List.replicate_succ, List.replicate_zero, Nat.reduceAdd, Nat.reduceSub, List.getElem?_cons_zero, List.getElem?_cons_succ, List.set_cons_zero, List.set_cons_succ, Option.some.injEq, V.int.injEq, V.bl.injEq, V.ref.injEq, V.str.injEq, exists_eq_left', exists_eq_left, exists_eq', exists_and_left, List.cons.injEq, and_true, true_and, and_self, and_assoc, decide_eq_true_eq, if_true, if_false, Bool.true_eq_false, Bool.false_eq_true, Bool.not_eq_true', Bool.not_true, Bool.not_false, decide_eq_false_iff_not, ite_true, ite_false, reduceCtorEq, false_and, exists_false, false_or, or_false, and_false]
    refine ⟨y, 1 + (i : Int), rfl, fun _ => ?_, fun no => absurd ⟨o1, o2, by omega, by omega⟩ no⟩
    refine ⟨_, rfl, rfl, ?_⟩
    have s := Cal.cum_succ (y := y) (m := (i : Int) + 1) (by omega) (by omega)
    have e1 : ((i + 1 : Nat) : Int) + 1 = (i : Int) + 1 + 1 := by omega
    have e2 : (1 : Int) + (i : Int) = (i : Int) + 1 := by omega
    rw [e1, s, e2, Int.add_assoc]
  · obtain ⟨rfl, e, rfl⟩ := h
    simp only [tSortK, iVals, tDNewS, tDIn, tDNotIn, sDPut, tDPop1, tDGet2, tDGet, tCallKX, kwG_one, tEither, tTupS, tLstS, comp_K, capσ, sub_nil, sub_none, sub_some, tYes, List.replicate, Option.join_some, Option.join_none, SL_inj, iStr, tPart, tNoPart, tSl, tLst, tTup, cx_K, slT, CDiv, Int.reduceLT, Int.reduceLE, Int.reduceToNat, Int.reduceNeg, Int.reduceAdd, Int.reduceSub, Int.reduceMul, forall_const, tSeq, tNext, tIfS, tRet, tRetN, tDrop, tAsg, gName, gCons, gNil, tVar, tC, tOp, rI, rI0, tUn, rU, tTest, tB, tAnd, tOr, tNot, tAndV, tOrV, tNotV, tIf, tCons, tNil, tCallX, tCallL, tCB, sRaise, rEq, rNe, scal_ii, scal_bb, scal_ss, scal_ni, scal_in, tChain, tAug, ipI, L2.start, List.map_cons, List.map_nil, List.length_cons, List.length_nil, List.cons_append, List.nil_append, List.append_nil, List.replicate_succ, List.replicate_zero, Nat.reduceAdd, Nat.reduceSub, List.getElem?_cons_zero, List.getElem?_cons_succ, List.set_cons_zero, List.set_cons_succ, Option.some.injEq, V.int.injEq, V.bl.injEq, V.ref.injEq, V.str.injEq, exists_eq_left', exists_eq_left, exists_eq', exists_and_left, List.cons.injEq, and_true, true_and, and_self, and_assoc, decide_eq_true_eq, if_true, if_false, Bool.true_eq_false, Bool.false_eq_true, Bool.not_eq_true', Bool.not_true, Bool.not_false, decide_eq_false_iff_not, ite_true, ite_false, reduceCtorEq, false_and, exists_false, false_or, or_false, and_false]
    have e1 : (((m - 1).toNat : Nat) : Int) + 1 = m := by omega
    rw [e1]
    exact q
def spYearOf : Sp := fun vs H Q _ => ∃ n : Int, vs = [.int n] ∧ ∀ H', Same H H' → Q (.int (Cal.yearOf n)) H'
theorem sc_year_of : FnScope ["number", "rounds", "rest", "hundreds", "fours", "ones"] ["number"] (defScope s_year_of) := ⟨rfl, rfl, rfl, by decide +kernel, rfl, by decide +kernel, by decide +kernel⟩
theorem ok_year_of (T : Txt K mg t) : FnOk P w K mg base (CXE P w) 1 t.a_year_of t.d_year_of ["number"] spYearOf := by
  refine T.fn_year_of.okX sc_year_of (fun vs H Q E h => ?_) (fun cdv A outer s H vs Q E L hr h => ?_)
  · obtain ⟨n, rfl, _⟩ := h
    rfl
  obtain ⟨n, rfl, q⟩ := h
  have nd := sc_year_of.nd
  obtain ⟨u_ROUND_DAYS, h_ROUND_DAYS, r_ROUND_DAYS⟩ := T.k_ROUND_DAYS
  obtain ⟨u_HUNDRED_YEARS_DAYS, h_HUNDRED_YEARS_DAYS, r_HUNDRED_YEARS_DAYS⟩ := T.k_HUNDRED_YEARS_DAYS
  obtain ⟨u_FOUR_YEARS_DAYS, h_FOUR_YEARS_DAYS, r_FOUR_YEARS_DAYS⟩ := T.k_FOUR_YEARS_DAYS
  obtain ⟨u_YEAR_DAYS, h_YEAR_DAYS, r_YEAR_DAYS⟩ := T.k_YEAR_DAYS
  refine ⟨_, (pss_cons (ps_asg (pe_callB call_divmod (by rfl) T.no_divmod bb_divmod (pa_cons (pv 0) (pa_cons (pe_glob (by rfl) h_ROUND_DAYS r_ROUND_DAYS) pa_nil star_Name) star_Name)) (pg_tup (n := 2) rfl (pgs_cons (pg_name (i := 1) nd rfl (Or.inl rfl)) (pgs_cons (pg_name (i := 2) nd rfl (Or.inl rfl)) pgs_nil)))) (pss_cons (ps_set (i := 3) nd rfl (Or.inl rfl) (pe_callB (call_min2 (by rfl)) (by rfl) T.no_min bb_min (pa_cons (pe_op op_fdiv (pv 2) (pe_glob (by rfl) h_HUNDRED_YEARS_DAYS r_HUNDRED_YEARS_DAYS)) (pa_cons pe_int pa_nil star_Constant) star_BinOp))) (pss_cons (ps_aug (i := 2) nd rfl (Or.inl rfl) (pe_op op_mul (pv 3) (pe_glob (by rfl) h_HUNDRED_YEARS_DAYS r_HUNDRED_YEARS_DAYS)) ip_sub) (pss_cons (ps_asg (pe_callB call_divmod (by rfl) T.no_divmod bb_divmod (pa_cons (pv 2) (pa_cons (pe_glob (by rfl) h_FOUR_YEARS_DAYS r_FOUR_YEARS_DAYS) pa_nil star_Name) star_Name)) (pg_tup (n := 2) rfl (pgs_cons (pg_name (i := 4) nd rfl (Or.inl rfl)) (pgs_cons (pg_name (i := 2) nd rfl (Or.inl rfl)) pgs_nil)))) (pss_cons (ps_set (i := 5) nd rfl (Or.inl rfl) (pe_callB (call_min2 (by rfl)) (by rfl) T.no_min bb_min (pa_cons (pe_op op_fdiv (pv 2) (pe_glob (by rfl) h_YEAR_DAYS r_YEAR_DAYS)) (pa_cons pe_int pa_nil star_Constant) star_BinOp))) (pss_one (ps_ret (pe_op op_add (pe_op op_add (pe_op op_add (pe_op op_add (pe_op op_mul (pv 1) pe_int) (pe_op op_mul (pv 3) pe_int)) (pe_op op_mul (pv 4) pe_int)) (pv 5)) pe_int)))))))), ?_⟩
  open_k0
  intro p hp
  refine ⟨p, _, rfl, SqT.of upd_same, rfl, ?_⟩
  simp only [tSortK, iVals, tDNewS, tDIn, tDNotIn, sDPut, tDPop1, tDGet2, tDGet, tCallKX, kwG_one, tEither, tTupS, tLstS, comp_K, capσ, sub_nil, sub_none, sub_some, tYes, List.replicate, Option.join_some, Option.join_none, SL_inj, iStr, tPart, tNoPart, tSl, tLst, tTup, cx_K, slT, CDiv, Int.reduceLT, Int.reduceLE, Int.reduceToNat, Int.reduceNeg, Int.reduceAdd, Int.reduceSub, Int.reduceMul, forall_const, tSeq, tNext, tIfS, tRet, tRetN, tDrop, tAsg, gName, gCons, gNil, tVar, tC, tOp, rI, rI0, tUn, rU, tTest, tB, tAnd, tOr, tNot, tAndV, tOrV, tNotV, tIf, tCons, tNil, tCallX, tCallL, tCB, sRaise, rEq, rNe, scal_ii, scal_bb, scal_ss, scal_ni, scal_in, tChain, tAug, ipI, L2.start, List.map_cons, List.map_nil, List.length_cons, List.length_nil, List.cons_append, List.nil_append, List.append_nil, List.replicate_succ, List.replicate_zero, Nat.reduceAdd, Nat.reduceSub, List.getElem?_cons_zero, List.getElem?_cons_succ, List.set_cons_zero, List.set_cons_succ, Option.some.injEq, V.int.injEq, V.bl.injEq, V.ref.injEq, V.str.injEq, exists_eq_left', exists_eq_left, exists_eq', exists_and_left, List.cons.injEq, and_true, true_and, and_self, and_assoc, decide_eq_true_eq, if_true, if_false, Bool.true_eq_false, Bool.false_eq_true, Bool.not_eq_true', Bool.not_true, Bool.not_false, decide_eq_false_iff_not, ite_true, ite_false, reduceCtorEq, false_and, exists_false, false_or, or_false, and_false]
  refine ⟨Or.inr ⟨by decide, by decide⟩, fun p2 hp2 => ⟨p2, _, rfl, SqT.of upd_same, rfl, ?_⟩⟩
  simp only [tSortK, iVals, tDNewS, tDIn, tDNotIn, sDPut, tDPop1, tDGet2, tDGet, tCallKX, kwG_one, tEither, tTupS, tLstS, comp_K, capσ, sub_nil, sub_none, sub_some, tYes, List.replicate, Option.join_some, Option.join_none, SL_inj, iStr, tPart, tNoPart, tSl, tLst, tTup, cx_K, slT, CDiv, Int.reduceLT, Int.reduceLE, Int.reduceToNat, Int.reduceNeg, Int.reduceAdd, Int.reduceSub, Int.reduceMul, forall_const, tSeq, tNext, tIfS, tRet, tRetN, tDrop, tAsg, gName, gCons, gNil, tVar, tC, tOp, rI, rI0, tUn, rU, tTest, tB, tAnd, tOr, tNot, tAndV, tOrV, tNotV, tIf, tCons, tNil, tCallX, tCallL, tCB, sRaise, rEq, rNe, scal_ii, scal_bb, scal_ss, scal_ni, scal_in, tChain, tAug, ipI, L2.start, List.map_cons, List.map_nil, List.length_cons, List.length_nil, List.cons_append, List.nil_append, List.append_nil, List.replicate_succ, List.replicate_zero, Nat.reduceAdd, Nat.reduceSub, List.getElem?_cons_zero, List.getElem?_cons_succ, List.set_cons_zero, List.set_cons_succ, Option.some.injEq, V.int.injEq, V.bl.injEq, V.ref.injEq, V.str.injEq, exists_eq_left', exists_eq_left, exists_eq', exists_and_left, List.cons.injEq, and_true, true_and, and_self, and_assoc, decide_eq_true_eq, if_true, if_false, Bool.true_eq_false, Bool.false_eq_true, Bool.not_eq_true', Bool.not_true, Bool.not_false, decide_eq_false_iff_not, ite_true, ite_false, reduceCtorEq, false_and, exists_false, false_or, or_false, and_false]
  refine ⟨Or.inr ⟨by decide, by decide⟩, Or.inr ⟨by decide, by decide⟩, Or.inr ⟨by decide, by decide⟩, ?_⟩
  have e : ∀ r : Int, r = Cal.yearOf n → Q (.int r) (upd (upd H p (.tup [.int (n / 146097), .int (n % 146097)])) p2 (.tup [.int ((n % 146097 - (if 3 < n % 146097 / 36524 then 3 else n % 146097 / 36524) * 36524) / 1461), .int ((n % 146097 - (if 3 < n % 146097 / 36524 then 3 else n % 146097 / 36524) * 36524) % 1461)])) := fun r z => by
    rw [z]
    exact q _ ((same_new hp _).trans (same_new hp2 _))
  refine e _ ?_
  unfold Cal.yearOf
  have m1 : ∀ a : Int, min a 3 = if 3 < a then 3 else a := fun a => by split <;> omega
  simp only [m1]
def spDateOf (t : Adr) : Sp := fun vs H Q E => ∃ n : Int, vs = [.int n] ∧
  (0 ≤ n ∧ n ≤ 3652058 → ∀ y m d p H', Cal.Valid y m d → Cal.num y m d = n → Same H H' → H' p = some (.tup [.int y, .int m, .int d]) → Q (.ref p) H') ∧ (¬ (0 ≤ n ∧ n ≤ 3652058) → E (.ref t.c_NoDate) none H)
theorem sc_date_of : FnScope ["number", "year", "rest", "month"] ["number"] (defScope s_date_of) := ⟨rfl, rfl, rfl, by decide +kernel, rfl, by decide +kernel, by decide +kernel⟩
theorem ok_date_of (T : Txt K mg t) : FnOk P w K mg base (CXE P w) 3 t.a_date_of t.d_date_of ["number"] (spDateOf t) := by
  refine T.fn_date_of.okX sc_date_of (fun vs H Q E h => ?_) (fun cdv A outer s H vs Q E L hr h => ?_)
  · obtain ⟨n, rfl, _⟩ := h
    rfl
  obtain ⟨n, rfl, q1, q2⟩ := h
  have nd := sc_date_of.nd
  obtain ⟨u_LAST_DAY, h_LAST_DAY, r_LAST_DAY⟩ := T.k_LAST_DAY
  refine ⟨_, (pss_cons (ps_if (pw_or (pt_cmpR op_lt (pv 0) pe_int (nomark _)) (pw_or1 (pt_cmpR op_gt (pv 0) (pe_glob (by rfl) h_LAST_DAY r_LAST_DAY) (nomark _)))).pt (pss_one (ps_raise L T.ex_NoDate (by rfl) (by rfl) T.mg_NoDate (pa_cons pe_str pa_nil))) pss_nil) (pss_cons (ps_set (i := 1) nd rfl (Or.inl rfl) (pe_callX L.toLv (ok_year_of T) (hr.mono (by decide)) (by rfl) T.mg_year_of T.fn_year_of.kp T.b_year_of .nil (pa_cons (pv 0) pa_nil))) (pss_cons (ps_set (i := 2) nd rfl (Or.inl rfl) (pe_op op_sub (pv 0) (pe_callX L.toLv (ok_days_ahead_of_year T) (hr.mono (by decide)) (by rfl) T.mg_days_ahead_of_year T.fn_days_ahead_of_year.kp T.b_days_ahead_of_year .nil (pa_cons (pv 1) pa_nil)))) (pss_cons (ps_set (i := 3) nd rfl (Or.inl rfl) pe_int) (pss_cons (ps_while (by passes_own) (pt_cmpR op_ge (pv 2) (pe_callX L.toLv (ok_days_in T) (hr.mono (by decide)) (by rfl) T.mg_days_in T.fn_days_in.kp T.b_days_in .nil (pa_cons (pv 1) (pa_cons (pv 3) pa_nil star_Name) star_Name)) (nomark _)) (pss_cons (ps_aug (i := 2) nd rfl (Or.inl rfl) (pe_callX L.toLv (ok_days_in T) (hr.mono (by decide)) (by rfl) T.mg_days_in T.fn_days_in.kp T.b_days_in .nil (pa_cons (pv 1) (pa_cons (pv 3) pa_nil star_Name) star_Name)) ip_sub) (pss_one (ps_aug (i := 3) nd rfl (Or.inl rfl) pe_int ip_add)))) (pss_one (ps_ret (pe_tup (pa_cons (pv 1) (pa_cons (pv 3) (pa_cons (pe_op op_add (pv 2) pe_int) pa_nil star_BinOp) star_Name) star_Name))))))))), ?_⟩
  open_k0
  split
  · exact q2 (fun z => by obtain ⟨_, _⟩ := z; omega)
  split
  · exact q2 (fun z => by obtain ⟨_, _⟩ := z; omega)
  have n0 : 0 ≤ n := by omega
  have n1 : n ≤ 3652058 := by omega
  have q := q1 ⟨n0, n1⟩
  obtain ⟨y1, y2, y3, y4⟩ := Cal.yearOf_spec n0 n1
  refine ⟨n, rfl, fun H1 sm => ⟨_, rfl, _, rfl, ?_⟩⟩
  refine ⟨fun k σ1 H2 => H2 = H1 ∧ ∃ m : Int, σ1 = [some (.int n), some (.int (Cal.yearOf n)), some (.int (n - Cal.ahead (Cal.yearOf n) - Cal.cum (Cal.yearOf n) m)), some (.int m)] ∧ 1 ≤ m ∧ m ≤ 12 ∧ Cal.cum (Cal.yearOf n) m ≤ n - Cal.ahead (Cal.yearOf n) ∧ k = (13 - m).toNat, ⟨12, rfl, 1, ?_, by decide, by decide, by rw [Cal.cum_one]; omega, by decide⟩, ?_⟩
  · rw [Cal.cum_one, Int.sub_zero]
  · rintro k σ1 H2 ⟨rfl, m, rfl, m1, m2, m3, rfl⟩
    simp only [tSortK, iVals, tDNewS, tDIn, tDNotIn, sDPut, tDPop1, tDGet2, tDGet, tCallKX, kwG_one, tEither, tTupS, tLstS, comp_K, capσ, sub_nil, sub_none, sub_some, tYes, List.replicate, Option.join_some, Option.join_none, SL_inj, iStr, tPart, tNoPart, tSl, tLst, tTup, cx_K, slT, CDiv, Int.reduceLT, Int.reduceLE, Int.reduceToNat, Int.reduceNeg, Int.reduceAdd, Int.reduceSub, Int.reduceMul, forall_const, tSeq, tNext, tIfS, tRet, tRetN, tDrop, tAsg, gName, gCons, gNil, tVar, tC, tOp, rI, rI0, tUn, rU, tTest, tB, tAnd, tOr, tNot, tAndV, tOrV, tNotV, tIf, tCons, tNil, tCallX, tCallL, tCB, sRaise, rEq, rNe, scal_ii, scal_bb, scal_ss, scal_ni, scal_in, tChain, tAug, ipI, L2.start, List.map_cons, List.map_nil, List.length_cons, List.length_nil, List.cons_append, List.nil_append, List.append_nil, List.replicate_succ, List.replicate_zero, Nat.reduceAdd, Nat.reduceSub, List.getElem?_cons_zero, List.getElem?_cons_succ, List.set_cons_zero, List.set_cons_succ, Option.some.injEq, V.int.injEq, V.bl.injEq, V.ref.injEq, V.str.injEq, exists_eq_left', exists_eq_left, exists_eq', exists_and_left, List.cons.injEq, and_true, true_and, and_self, and_assoc, decide_eq_true_eq, if_true, if_false, Bool.true_eq_false, Bool.false_eq_true, Bool.not_eq_true', Bool.not_true, Bool.not_false, decide_eq_false_iff_not, ite_true, ite_false, reduceCtorEq, false_and, exists_false, false_or, or_false, and_false]
    refine ⟨_, m, rfl, fun _ => ?_, fun no => absurd ⟨y1, y2, m1, m2⟩ no⟩
    simp only [tSortK, iVals, tDNewS, tDIn, tDNotIn, sDPut, tDPop1, tDGet2, tDGet, tCallKX, kwG_one, tEither, tTupS, tLstS, comp_K, capσ, sub_nil, sub_none, sub_some, tYes, List.replicate, Option.join_some, Option.join_none, SL_inj, iStr, tPart, tNoPart, tSl, tLst, tTup, cx_K, slT, CDiv, Int.reduceLT, Int.reduceLE, Int.reduceToNat, Int.reduceNeg, Int.reduceAdd, Int.reduceSub, Int.reduceMul, forall_const, tSeq, tNext, tIfS, tRet, tRetN, tDrop, tAsg, gName, gCons, gNil, tVar, tC, tOp, rI, rI0, tUn, rU, tTest, tB, tAnd, tOr, tNot, tAndV, tOrV, tNotV, tIf, tCons, tNil, tCallX, tCallL, tCB, sRaise, rEq, rNe, scal_ii, scal_bb, scal_ss, scal_ni, scal_in, tChain, tAug, ipI, L2.start, List.map_cons, List.map_nil, List.length_cons, List.length_nil, List.cons_append, List.nil_append, List.append_nil, List.replicate_succ, List.replicate_zero, Nat.reduceAdd, Nat.reduceSub, List.getElem?_cons_zero, List.getElem?_cons_succ, List.set_cons_zero, List.set_cons_succ, Option.some.injEq, V.int.injEq, V.bl.injEq, V.ref.injEq, V.str.injEq, exists_eq_left', exists_eq_left, exists_eq', exists_and_left, List.cons.injEq, and_true, true_and, and_self, and_assoc, decide_eq_true_eq, if_true, if_false, Bool.true_eq_false, Bool.false_eq_true, Bool.not_eq_true', Bool.not_true, Bool.not_false, decide_eq_false_iff_not, ite_true, ite_false, reduceCtorEq, false_and, exists_false, false_or, or_false, and_false]
    split
    · rename_i c
      have lt : m < 12 := by
        apply Classical.byContradiction
        intro z
        obtain rfl : m = 12 := by omega
        have s := Cal.cum_succ (y := Cal.yearOf n) (m := 12) (by decide) (by decide)
        have u : Cal.cum (Cal.yearOf n) (12 + 1) = 365 + Cal.lp (Cal.yearOf n) := Cal.cum_13 _
        omega
      have s := Cal.cum_succ (y := Cal.yearOf n) m1 m2
      refine ⟨_, fun σ2 H3 h => h, ?_⟩
      refine ⟨_, m, rfl, fun _ => ?_, fun no => absurd ⟨y1, y2, m1, m2⟩ no⟩
      simp only [tSortK, iVals, tDNewS, tDIn, tDNotIn, sDPut, tDPop1, tDGet2, tDGet, tCallKX, kwG_one, tEither, tTupS, tLstS, comp_K, capσ, sub_nil, sub_none, sub_some, tYes, List.replicate, Option.join_some, Option.join_none, SL_inj, iStr, tPart, tNoPart, tSl, tLst, tTup, cx_K, slT, CDiv, Int.reduceLT, Int.reduceLE, Int.reduceToNat, Int.reduceNeg, Int.reduceAdd, Int.reduceSub, Int.reduceMul, forall_const, tSeq, tNext, tIfS, tRet, tRetN, tDrop, tAsg, gName, gCons, gNil, tVar, tC, tOp, rI, rI0, tUn, rU, tTest, tB, tAnd, tOr, tNot, tAndV, tOrV, tNotV, tIf, tCons, tNil, tCallX, tCallL, tCB, sRaise, rEq, rNe, scal_ii, scal_bb, scal_ss, scal_ni, scal_in, tChain, tAug, ipI, L2.start, List.map_cons, List.map_nil, List.length_cons, List.length_nil, List.cons_append, List.nil_append, List.append_nil, List.replicate_succ, List.replicate_zero, Nat.reduceAdd, Nat.reduceSub, List.getElem?_cons_zero, List.getElem?_cons_succ, List.set_cons_zero, List.set_cons_succ, Option.some.injEq, V.int.injEq, V.bl.injEq, V.ref.injEq, V.str.injEq, exists_eq_left', exists_eq_left, exists_eq', exists_and_left, List.cons.injEq, and_true, true_and, and_self, and_assoc, decide_eq_true_eq, if_true, if_false, Bool.true_eq_false, Bool.false_eq_true, Bool.not_eq_true', Bool.not_true, Bool.not_false, decide_eq_false_iff_not, ite_true, ite_false, reduceCtorEq, false_and, exists_false, false_or, or_false, and_false]
      exact ⟨(13 - (m + 1)).toNat, by omega, m + 1, by omega, rfl, by omega, by omega, by omega, rfl⟩
    · rename_i c
      open_k0
      intro p hp
      have s := Cal.cum_succ (y := Cal.yearOf n) m1 m2
      refine q (Cal.yearOf n) m (n - Cal.ahead (Cal.yearOf n) - Cal.cum (Cal.yearOf n) m + 1) p _ ⟨y1, y2, m1, m2, by omega, by omega⟩ (by unfold Cal.num; omega) (sm.trans (same_new hp _)) upd_same
def spMonthsOn (t : Adr) : Sp := fun vs H Q E => ∃ n k y m d : Int, vs = [.int n, .int k] ∧ Cal.Valid y m d ∧ Cal.num y m d = n ∧
  (Cal.MonOk y m k → ∀ H', Same H H' → Q (.int (Cal.num (Cal.monY y m k) (Cal.monM y m k) (Cal.monD y m d k))) H') ∧ (¬ Cal.MonOk y m k → ∀ H', Same H H' → E (.ref t.c_NoDate) none H')
theorem sc_months_on : FnScope ["number", "many", "year", "month", "day", "months", "to_year", "to_month"] ["number", "many"] (defScope s_months_on) := ⟨rfl, rfl, rfl, by decide +kernel, rfl, by decide +kernel, by decide +kernel⟩
theorem ok_months_on (T : Txt K mg t) : FnOk P w K mg base (CXE P w) 4 t.a_months_on t.d_months_on ["number", "many"] (spMonthsOn t) := by
  refine T.fn_months_on.okX sc_months_on (fun vs H Q E h => ?_) (fun cdv A outer s H vs Q E L hr h => ?_)
  · obtain ⟨n, k, y, m, d, rfl, va, hn, q1, q2⟩ := h
    rfl
  obtain ⟨n, k, y, m, d, rfl, va, hn, q1, q2⟩ := h
  have nd := sc_months_on.nd
  refine ⟨_, (pss_cons (ps_asg (pe_callX L.toLv (ok_date_of T) (hr.mono (by decide)) (by rfl) T.mg_date_of T.fn_date_of.kp T.b_date_of .nil (pa_cons (pv 0) pa_nil)) (pg_tup (n := 3) rfl (pgs_cons (pg_name (i := 2) nd rfl (Or.inl rfl)) (pgs_cons (pg_name (i := 3) nd rfl (Or.inl rfl)) (pgs_cons (pg_name (i := 4) nd rfl (Or.inl rfl)) pgs_nil))))) (pss_cons (ps_set (i := 5) nd rfl (Or.inl rfl) (pe_op op_add (pe_op op_sub (pe_op op_add (pe_op op_mul (pv 2) pe_int) (pv 3)) pe_int) (pv 1))) (pss_cons (ps_set (i := 6) nd rfl (Or.inl rfl) (pe_op op_fdiv (pv 5) pe_int)) (pss_cons (ps_set (i := 7) nd rfl (Or.inl rfl) (pe_op op_add (pe_op op_mod (pv 5) pe_int) pe_int)) (pss_one (ps_ret (pe_callX L.toLv (ok_day_of T) (hr.mono (by decide)) (by rfl) T.mg_day_of T.fn_day_of.kp T.b_day_of .nil (pa_cons (pv 6) (pa_cons (pv 7) (pa_cons (pe_callB (call_min2 (by rfl)) (by rfl) T.no_min bb_min (pa_cons (pv 4) (pa_cons (pe_callX L.toLv (ok_days_in T) (hr.mono (by decide)) (by rfl) T.mg_days_in T.fn_days_in.kp T.b_days_in .nil (pa_cons (pv 6) (pa_cons (pv 7) pa_nil star_Name) star_Name)) pa_nil star_Call) star_Name)) pa_nil star_Call) star_Name) star_Name)))))))), ?_⟩
  open_k0
  have nr := Cal.num_range va
  refine ⟨_, rfl, fun _ y' m' d' p H1 va' hn' s1 hp => ?_, fun no => absurd (by omega) no⟩
  obtain ⟨rfl, rfl, rfl⟩ := Cal.num_inj va' va (by rw [hn', hn])
  refine ⟨p, _, rfl, SqT.of hp, rfl, ?_⟩
  open_k0
  refine ⟨Or.inr ⟨by decide, by decide⟩, _, _, rfl, fun ok => ?_, fun no => q2 (fun z => no ⟨z.1, z.2, by omega, by omega⟩) _ s1⟩
  obtain ⟨o1, o2, o3, o4⟩ := ok
  have mo : Cal.MonOk y' m' k := ⟨o1, o2⟩
  exact ⟨_, rfl, _, _, _, rfl, fun _ => q1 mo _ s1, fun no => absurd (Cal.mon_valid va mo) no⟩
/-- a cell of the script, 0 where there is none -/
def cellOf (ns : List Int) (k : Int) : Int := ns.getD k.toNat 0
def spCell (K : PySem.W.Frag) : Sp := fun vs H Q _ => ∃ (a : Addr) (ns : List Int) (k : Int), vs = [.ref a, .int k] ∧ SqL K H a (ns.map V.int) ∧ ns.length ≤ 63 ∧ 0 ≤ k ∧ Q (.int (cellOf ns k)) H
theorem sc_xL_cell_at : FnScope ["_law_script", "_law_k"] ["_law_script", "_law_k"] (defScope s_xL_cell_at) := ⟨rfl, rfl, rfl, by decide +kernel, rfl, by decide +kernel, by decide +kernel⟩
theorem ok_xL_cell_at (T : Txt K mg t) : FnOk P w K mg base (CXE P w) 1 t.a_xL_cell_at t.d_xL_cell_at ["_law_script", "_law_k"] (spCell K) := by
  refine T.fn_xL_cell_at.okX sc_xL_cell_at (fun vs H Q E h => ?_) (fun cdv A outer s H vs Q E L hr h => ?_)
  · obtain ⟨a, ns, k, rfl, hS, h63, k0, q⟩ := h
    rfl
  obtain ⟨a, ns, k, rfl, hS, h63, k0, q⟩ := h
  have nd := sc_xL_cell_at.nd
  refine ⟨_, (pss_cons (ps_if (pt_cmpR op_lt (pv 1) (pe_callB call_len_seq (by rfl) T.no_len bb_len (pa_cons (pv 0) pa_nil)) (nomark _)) (pss_one (ps_ret (pe_ix ix_list (pv 0) (pv 1) (fun _ _ => rfl)))) pss_nil) (pss_one (ps_ret pe_int))), ?_⟩
  open_k0
  refine ⟨_, .inl hS, ?_⟩
  rw [List.length_map]
  split
  · exact ixL hS (at_ints k0 (by omega)) q
  · have e : cellOf ns k = 0 := by
      unfold cellOf
      rw [List.getD_eq_getElem?_getD, List.getElem?_eq_none (by omega)]
      rfl
    rw [e] at q
    exact q
def IsCyc (K : PySem.W.Frag) (H : Hp) (p : Addr) (dy : Bool) (c : Int) : Prop := SqT K H p [.str (SL (if dy then [100, 97, 121, 115] else [109, 111, 110, 116, 104, 115])), .int c] ∧ Cal.CycOk dy c
noncomputable def begs (f : Int) (dy : Bool) (c : Int) (n : Nat) : List V := (List.range n).map fun j : Nat => V.int (Cal.beg f dy c j)
theorem IsCyc.same {K : PySem.W.Frag} {H H' : Hp} {p : Addr} {dy : Bool} {c : Int} (h : IsCyc K H p dy c) (sm : Same H H') : IsCyc K H' p dy c := ⟨sm.sqT h.1, h.2⟩
def spBegin (K : PySem.W.Frag) (t : Adr) : Sp := fun vs H Q E => ∃ (f : Int) (p : Addr) (dy : Bool) (c k : Int), vs = [.int f, .ref p, .int k] ∧ 0 ≤ f ∧ f ≤ 3500000 ∧ IsCyc K H p dy c ∧
  (0 ≤ k → k ≤ 60 → ∀ H', Same H H' → Q (.int (Cal.beg f dy c k)) H') ∧ (k < 0 → ∀ H', Same H H' → E (.ref t.c_NoSpan) none H') ∧ (60 < k → ∀ H', Same H H' → E (.ref t.c_TooLong) none H')
theorem sc_begin_of : FnScope ["first", "cycle", "k", "word", "many"] ["first", "cycle", "k"] (defScope s_begin_of) := ⟨rfl, rfl, rfl, by decide +kernel, rfl, by decide +kernel, by decide +kernel⟩
theorem ok_begin_of (T : Txt K mg t) : FnOk P w K mg base (CXE P w) 5 t.a_begin_of t.d_begin_of ["first", "cycle", "k"] (spBegin K t) := by
  refine T.fn_begin_of.okX sc_begin_of (fun vs H Q E h => ?_) (fun cdv A outer s H vs Q E L hr h => ?_)
  · obtain ⟨f, p, dy, c, k, rfl, f0, f1, hc, q1, q2, q3⟩ := h
    rfl
  obtain ⟨f, p, dy, c, k, rfl, f0, f1, hc, q1, q2, q3⟩ := h
  have nd := sc_begin_of.nd
  obtain ⟨u_SPANS, h_SPANS, r_SPANS⟩ := T.k_SPANS
  refine ⟨_, (pss_cons (ps_if (pt_cmpR op_lt (pv 2) pe_int (nomark _)) (pss_one (ps_raise L T.ex_NoSpan (by rfl) (by rfl) T.mg_NoSpan (pa_cons pe_str pa_nil))) pss_nil) (pss_cons (ps_if (pt_cmpR op_gt (pv 2) (pe_glob (by rfl) h_SPANS r_SPANS) (nomark _)) (pss_one (ps_raise L T.ex_TooLong (by rfl) (by rfl) T.mg_TooLong (pa_cons pe_str pa_nil))) pss_nil) (pss_cons (ps_asg (pv 1) (pg_tup (n := 2) rfl (pgs_cons (pg_name (i := 3) nd rfl (Or.inl rfl)) (pgs_cons (pg_name (i := 4) nd rfl (Or.inl rfl)) pgs_nil)))) (pss_cons (ps_if (pt_cmpR op_eq (pv 3) (pe_strL st_4) (nomark _)) (pss_one (ps_ret (pe_callX L.toLv (ok_months_on T) (hr.mono (by decide)) (by rfl) T.mg_months_on T.fn_months_on.kp T.b_months_on .nil (pa_cons (pv 0) (pa_cons (pe_op op_mul (pv 2) (pv 4)) pa_nil star_BinOp) star_Name)))) pss_nil) (pss_one (ps_ret (pe_op op_add (pv 0) (pe_op op_mul (pv 2) (pv 4))))))))), ?_⟩
  open_k0
  split
  · rename_i h
    exact q2 h _ (Same.refl _)
  rename_i h0
  split
  · rename_i h
    exact q3 h _ (Same.refl _)
  rename_i h1
  have q := q1 (by omega) (by omega)
  refine ⟨p, _, rfl, hc.1, rfl, ?_⟩
  open_k0
  obtain ⟨c0, c1⟩ := hc.2
  cases dy with
  | true =>
    rw [if_neg (by decide)]
    rw [if_pos rfl] at c1
    refine ⟨.inl ⟨by omega, by omega⟩, ?_⟩
    exact q H (Same.refl _)
  | false =>
    rw [if_pos (by decide)]
    rw [if_neg (by decide)] at c1
    obtain ⟨y, m, d, va, hn⟩ := Cal.date_exists f0 (show f ≤ 3652058 by omega)
    have mb := Cal.mul_bound c0 c1 (show 0 ≤ k by omega) (show k ≤ 60 by omega)
    have mo := Cal.mon_ok va (by omega) mb.1 mb.2
    refine ⟨.inl ⟨by omega, by omega⟩, f, k * c, y, m, d, rfl, va, hn, fun _ H' s' => ?_, fun no => absurd mo no⟩
    have e : Cal.beg f false c k = Cal.num (Cal.monY y m (k * c)) (Cal.monM y m (k * c)) (Cal.monD y m d (k * c)) := by
      unfold Cal.beg
      rw [if_neg (by decide), ← hn, Cal.mon_eq va]
    rw [← e]
    exact q H' s'
theorem at_0 (v : V) (r : List V) : atI (v :: r) 0 = some v := atI_nat (j := 0) rfl
theorem at_1 (u v : V) (r : List V) : atI (u :: v :: r) 1 = some v := atI_nat (j := 1) rfl
theorem at_2 (u v x : V) (r : List V) : atI (u :: v :: x :: r) 2 = some x := atI_nat (j := 2) rfl
theorem at_3 (u v x y : V) (r : List V) : atI (u :: v :: x :: y :: r) 3 = some y := atI_nat (j := 3) rfl
/-- the account's tuple -/
def AccIs (K : PySem.W.Frag) (H : Hp) (p : Addr) (l : Addr) (f : Int) (dy : Bool) (cc : Int) : Prop := ∃ pc, 0 ≤ f ∧ f ≤ 3500000 ∧ IsCyc K H pc dy cc ∧ H p = some (.tup [.ref l, .int f, .ref pc])
theorem AccIs.same {K : PySem.W.Frag} {H H' : Hp} {p l : Addr} {f : Int} {dy : Bool} {cc : Int} (h : AccIs K H p l f dy cc) (s : Same H H') : AccIs K H' p l f dy cc :=
  let ⟨pc, h1, h2, h3, h4⟩ := h; ⟨pc, h1, h2, h3.same s, s _ _ h4⟩
/-- [11]: what an account is -/
def spIsWhole : Sp := fun vs H Q _ => ∃ d : D, vs = [sv d] ∧ IsSc d ∧ Q (.bl (isI d)) H
theorem sc_is_whole : FnScope ["value"] ["value"] (defScope s_is_whole) := ⟨rfl, rfl, rfl, by decide +kernel, rfl, by decide +kernel, by decide +kernel⟩
theorem ok_is_whole (T : Txt K mg t) : FnOk P w K mg base (CXE P w) 1 t.a_is_whole t.d_is_whole ["value"] (spIsWhole) := by
  refine T.fn_is_whole.okX sc_is_whole (fun vs H Q E h => ?_) (fun cdv A outer s H vs Q E L hr h => ?_)
  · obtain ⟨d, rfl, hd, q⟩ := h
    rfl
  obtain ⟨d, rfl, hd, q⟩ := h
  have nd := sc_is_whole.nd
  refine ⟨_, (pss_one (ps_ret (pe_and (pe_callB call_isinst (by rfl) T.no_isinstance bb_isinstance (pa_cons (pv 0) (pa_cons (pe_ty (by rfl) T.no_int bb_int) pa_nil star_Name) star_Name)) (pe_one (pe_not (pe_callB call_isinst (by rfl) T.no_isinstance bb_isinstance (pa_cons (pv 0) (pa_cons (pe_ty (by rfl) T.no_bool bb_bool) pa_nil star_Name) star_Name))))))), ?_⟩
  rcases hd with ⟨i, rfl⟩ | ⟨cs, rfl, hl⟩
  · simp only [tSortK, iVals, tDNewS, tDIn, tDNotIn, sDPut, tDPop1, tDGet2, tDGet, tCallKX, kwG_one, tEither, tTupS, tLstS, comp_K, capσ, sub_nil, sub_none, sub_some, tYes, List.replicate, Option.join_some, Option.join_none, SL_inj, iStr, tPart, tNoPart, tSl, tLst, tTup, cx_K, slT, CDiv, Int.reduceLT, Int.reduceLE, Int.reduceToNat, Int.reduceNeg, Int.reduceAdd, Int.reduceSub, Int.reduceMul, forall_const, tSeq, tNext, tIfS, tRet, tRetN, tDrop, tAsg, gName, gCons, gNil, tVar, tC, tOp, rI, rI0, tUn, rU, tTest, tB, tAnd, tOr, tNot, tAndV, tOrV, tNotV, tIf, tCons, tNil, tCallX, tCallL, tCB, sRaise, rEq, rNe, scal_ii, scal_bb, scal_ss, scal_ni, scal_in, tChain, tAug, ipI, L2.start, List.map_cons, List.map_nil, List.length_cons, List.length_nil, List.cons_append, List.nil_append, List.append_nil, List.replicate_succ, List.replicate_zero, Nat.reduceAdd, Nat.reduceSub, List.getElem?_cons_zero, List.getElem?_cons_succ, List.set_cons_zero, List.set_cons_succ, Option.some.injEq, V.int.injEq, V.bl.injEq, V.ref.injEq, V.str.injEq, exists_eq_left', exists_eq_left, exists_eq', exists_and_left, List.cons.injEq, and_true, true_and, and_self, and_assoc, decide_eq_true_eq, if_true, if_false, Bool.true_eq_false, Bool.false_eq_true, Bool.not_eq_true', Bool.not_true, Bool.not_false, decide_eq_false_iff_not, ite_true, ite_false, reduceCtorEq, false_and, exists_false, false_or, or_false, and_false, Nat.reduceLeDiff, sv]
    refine ⟨_, .old (.int _), _, rfl, _, kit_int_int, ?_⟩
    rw [if_pos rfl]
    refine ⟨_, .old (.int _), _, rfl, _, kit_int_bool, ?_⟩
    exact q
  · simp only [tSortK, iVals, tDNewS, tDIn, tDNotIn, sDPut, tDPop1, tDGet2, tDGet, tCallKX, kwG_one, tEither, tTupS, tLstS, comp_K, capσ, sub_nil, sub_none, sub_some, tYes, List.replicate, Option.join_some, Option.join_none, SL_inj, iStr, tPart, tNoPart, tSl, tLst, tTup, cx_K, slT, CDiv, Int.reduceLT, Int.reduceLE, Int.reduceToNat, Int.reduceNeg, Int.reduceAdd, Int.reduceSub, Int.reduceMul, forall_const, tSeq, tNext, tIfS, tRet, tRetN, tDrop, tAsg, gName, gCons, gNil, tVar, tC, tOp, rI, rI0, tUn, rU, tTest, tB, tAnd, tOr, tNot, tAndV, tOrV, tNotV, tIf, tCons, tNil, tCallX, tCallL, tCB, sRaise, rEq, rNe, scal_ii, scal_bb, scal_ss, scal_ni, scal_in, tChain, tAug, ipI, L2.start, List.map_cons, List.map_nil, List.length_cons, List.length_nil, List.cons_append, List.nil_append, List.append_nil, List.replicate_succ, List.replicate_zero, Nat.reduceAdd, Nat.reduceSub, List.getElem?_cons_zero, List.getElem?_cons_succ, List.set_cons_zero, List.set_cons_succ, Option.some.injEq, V.int.injEq, V.bl.injEq, V.ref.injEq, V.str.injEq, exists_eq_left', exists_eq_left, exists_eq', exists_and_left, List.cons.injEq, and_true, true_and, and_self, and_assoc, decide_eq_true_eq, if_true, if_false, Bool.true_eq_false, Bool.false_eq_true, Bool.not_eq_true', Bool.not_true, Bool.not_false, decide_eq_false_iff_not, ite_true, ite_false, reduceCtorEq, false_and, exists_false, false_or, or_false, and_false, Nat.reduceLeDiff, sv]
    refine ⟨_, .old (.str _), _, rfl, _, kit_str_int, ?_⟩
    rw [if_neg (by decide)]
    exact q
def spBtw : Sp := fun vs H Q _ => ∃ (d : D) (lo hi : Int), vs = [sv d, .int lo, .int hi] ∧ IsSc d ∧ Q (.bl (btw lo hi d)) H
theorem sc_is_whole_between : FnScope ["value", "least", "greatest"] ["value", "least", "greatest"] (defScope s_is_whole_between) := ⟨rfl, rfl, rfl, by decide +kernel, rfl, by decide +kernel, by decide +kernel⟩
theorem ok_is_whole_between (T : Txt K mg t) : FnOk P w K mg base (CXE P w) 2 t.a_is_whole_between t.d_is_whole_between ["value", "least", "greatest"] (spBtw) := by
  refine T.fn_is_whole_between.okX sc_is_whole_between (fun vs H Q E h => ?_) (fun cdv A outer s H vs Q E L hr h => ?_)
  · obtain ⟨d, lo, hi, rfl, hd, q⟩ := h
    rfl
  obtain ⟨d, lo, hi, rfl, hd, q⟩ := h
  have nd := sc_is_whole_between.nd
  refine ⟨_, (pss_one (ps_ret (pe_and (pe_callX L.toLv (ok_is_whole T) (hr.mono (by decide)) (by rfl) T.mg_is_whole T.fn_is_whole.kp T.b_is_whole .nil (pa_cons (pv 0) pa_nil)) (pe_and (pe_cmpR op_le (pv 1) (pv 0) (nomark _)) (pe_one (pe_cmpR op_le (pv 0) (pv 2) (nomark _))))))), ?_⟩
  open_k0
  refine ⟨d, rfl, hd, ?_⟩
  rcases hd with ⟨i, rfl⟩ | ⟨cs, rfl, hl⟩
  · have e : btw lo hi (.int i) = (decide (lo ≤ i) && decide (i ≤ hi)) := rfl
    rw [e] at q
    simp only [tSortK, iVals, tDNewS, tDIn, tDNotIn, sDPut, tDPop1, tDGet2, tDGet, tCallKX, kwG_one, tEither, tTupS, tLstS, comp_K, capσ, sub_nil, sub_none, sub_some, tYes, List.replicate, Option.join_some, Option.join_none, SL_inj, iStr, tPart, tNoPart, tSl, tLst, tTup, cx_K, slT, CDiv, Int.reduceLT, Int.reduceLE, Int.reduceToNat, Int.reduceNeg, Int.reduceAdd, Int.reduceSub, Int.reduceMul, forall_const, tSeq, tNext, tIfS, tRet, tRetN, tDrop, tAsg, gName, gCons, gNil, tVar, tC, tOp, rI, rI0, tUn, rU, tTest, tB, tAnd, tOr, tNot, tAndV, tOrV, tNotV, tIf, tCons, tNil, tCallX, tCallL, tCB, sRaise, rEq, rNe, scal_ii, scal_bb, scal_ss, scal_ni, scal_in, tChain, tAug, ipI, L2.start, List.map_cons, List.map_nil, List.length_cons, List.length_nil, List.cons_append, List.nil_append, List.append_nil, List.replicate_succ, List.replicate_zero, Nat.reduceAdd, Nat.reduceSub, List.getElem?_cons_zero, List.getElem?_cons_succ, List.set_cons_zero, List.set_cons_succ, Option.some.injEq, V.int.injEq, V.bl.injEq, V.ref.injEq, V.str.injEq, exists_eq_left', exists_eq_left, exists_eq', exists_and_left, List.cons.injEq, and_true, true_and, and_self, and_assoc, decide_eq_true_eq, if_true, if_false, Bool.true_eq_false, Bool.false_eq_true, Bool.not_eq_true', Bool.not_true, Bool.not_false, decide_eq_false_iff_not, ite_true, ite_false, reduceCtorEq, false_and, exists_false, false_or, or_false, and_false, Nat.reduceLeDiff, sv, isI]
    by_cases h1 : lo ≤ i
    · rw [if_pos h1]
      rw [decide_eq_true h1, Bool.true_and] at q
      exact q
    · rw [if_neg h1]
      rw [decide_eq_false h1, Bool.false_and] at q
      exact q
  · simp only [tSortK, iVals, tDNewS, tDIn, tDNotIn, sDPut, tDPop1, tDGet2, tDGet, tCallKX, kwG_one, tEither, tTupS, tLstS, comp_K, capσ, sub_nil, sub_none, sub_some, tYes, List.replicate, Option.join_some, Option.join_none, SL_inj, iStr, tPart, tNoPart, tSl, tLst, tTup, cx_K, slT, CDiv, Int.reduceLT, Int.reduceLE, Int.reduceToNat, Int.reduceNeg, Int.reduceAdd, Int.reduceSub, Int.reduceMul, forall_const, tSeq, tNext, tIfS, tRet, tRetN, tDrop, tAsg, gName, gCons, gNil, tVar, tC, tOp, rI, rI0, tUn, rU, tTest, tB, tAnd, tOr, tNot, tAndV, tOrV, tNotV, tIf, tCons, tNil, tCallX, tCallL, tCB, sRaise, rEq, rNe, scal_ii, scal_bb, scal_ss, scal_ni, scal_in, tChain, tAug, ipI, L2.start, List.map_cons, List.map_nil, List.length_cons, List.length_nil, List.cons_append, List.nil_append, List.append_nil, List.replicate_succ, List.replicate_zero, Nat.reduceAdd, Nat.reduceSub, List.getElem?_cons_zero, List.getElem?_cons_succ, List.set_cons_zero, List.set_cons_succ, Option.some.injEq, V.int.injEq, V.bl.injEq, V.ref.injEq, V.str.injEq, exists_eq_left', exists_eq_left, exists_eq', exists_and_left, List.cons.injEq, and_true, true_and, and_self, and_assoc, decide_eq_true_eq, if_true, if_false, Bool.true_eq_false, Bool.false_eq_true, Bool.not_eq_true', Bool.not_true, Bool.not_false, decide_eq_false_iff_not, ite_true, ite_false, reduceCtorEq, false_and, exists_false, false_or, or_false, and_false, isI]
    exact q
def spEndOf (K : PySem.W.Frag) : Sp := fun vs H Q _ => ∃ (pa l : Addr) (f : Int) (dy : Bool) (c : Int), vs = [.ref pa] ∧ AccIs K H pa l f dy c ∧ ∀ H', Same H H' → Q (.int (Cal.beg f dy c 60)) H'
theorem sc_end_of_account : FnScope ["account", "plans", "first", "cycle"] ["account"] (defScope s_end_of_account) := ⟨rfl, rfl, rfl, by decide +kernel, rfl, by decide +kernel, by decide +kernel⟩
theorem ok_end_of_account (T : Txt K mg t) : FnOk P w K mg base (CXE P w) 6 t.a_end_of_account t.d_end_of_account ["account"] (spEndOf K) := by
  refine T.fn_end_of_account.okX sc_end_of_account (fun vs H Q E h => ?_) (fun cdv A outer s H vs Q E L hr h => ?_)
  · obtain ⟨pa, l, f, dy, c, rfl, ⟨pc, f0, f1, hc, ep⟩, q⟩ := h
    rfl
  obtain ⟨pa, l, f, dy, c, rfl, ⟨pc, f0, f1, hc, ep⟩, q⟩ := h
  have nd := sc_end_of_account.nd
  obtain ⟨u_SPANS, h_SPANS, r_SPANS⟩ := T.k_SPANS
  refine ⟨_, (pss_cons (ps_asg (pv 0) (pg_tup (n := 3) rfl (pgs_cons (pg_name (i := 1) nd rfl (Or.inl rfl)) (pgs_cons (pg_name (i := 2) nd rfl (Or.inl rfl)) (pgs_cons (pg_name (i := 3) nd rfl (Or.inl rfl)) pgs_nil))))) (pss_one (ps_ret (pe_callX L.toLv (ok_begin_of T) (hr.mono (by decide)) (by rfl) T.mg_begin_of T.fn_begin_of.kp T.b_begin_of .nil (pa_cons (pv 2) (pa_cons (pv 3) (pa_cons (pe_glob (by rfl) h_SPANS r_SPANS) pa_nil star_Name) star_Name) star_Name))))), ?_⟩
  open_k0
  refine ⟨pa, _, rfl, SqT.of ep, rfl, ?_⟩
  open_k0
  exact ⟨f, pc, dy, c, 60, rfl, f0, f1, hc, fun _ _ H1 s1 => q H1 s1, fun z => absurd z (by decide), fun z => absurd z (by decide)⟩
def spIsDay (K : PySem.W.Frag) : Sp := fun vs H Q _ => ∃ (pa l : Addr) (f : Int) (dy : Bool) (c : Int) (d : D), vs = [.ref pa, sv d] ∧ IsSc d ∧ AccIs K H pa l f dy c ∧ ∀ H', Same H H' → Q (.bl (btw f (Cal.beg f dy c 60 - 1) d)) H'
theorem sc_is_day_of : FnScope ["account", "value", "plans", "first", "cycle"] ["account", "value"] (defScope s_is_day_of) := ⟨rfl, rfl, rfl, by decide +kernel, rfl, by decide +kernel, by decide +kernel⟩
theorem ok_is_day_of (T : Txt K mg t) : FnOk P w K mg base (CXE P w) 7 t.a_is_day_of t.d_is_day_of ["account", "value"] (spIsDay K) := by
  refine T.fn_is_day_of.okX sc_is_day_of (fun vs H Q E h => ?_) (fun cdv A outer s H vs Q E L hr h => ?_)
  · obtain ⟨pa, l, f, dy, c, d, rfl, hd, ha, q⟩ := h
    rfl
  obtain ⟨pa, l, f, dy, c, d, rfl, hd, ha, q⟩ := h
  have nd := sc_is_day_of.nd
  refine ⟨_, (pss_cons (ps_asg (pv 0) (pg_tup (n := 3) rfl (pgs_cons (pg_name (i := 2) nd rfl (Or.inl rfl)) (pgs_cons (pg_name (i := 3) nd rfl (Or.inl rfl)) (pgs_cons (pg_name (i := 4) nd rfl (Or.inl rfl)) pgs_nil))))) (pss_one (ps_ret (pe_callX L.toLv (ok_is_whole_between T) (hr.mono (by decide)) (by rfl) T.mg_is_whole_between T.fn_is_whole_between.kp T.b_is_whole_between .nil (pa_cons (pv 1) (pa_cons (pv 3) (pa_cons (pe_op op_sub (pe_callX L.toLv (ok_end_of_account T) (hr.mono (by decide)) (by rfl) T.mg_end_of_account T.fn_end_of_account.kp T.b_end_of_account .nil (pa_cons (pv 0) pa_nil)) pe_int) pa_nil star_BinOp) star_Name) star_Name))))), ?_⟩
  have ha' := ha
  obtain ⟨pc, f0, f1, hc, ep⟩ := ha'
  open_k0
  refine ⟨pa, _, rfl, SqT.of ep, rfl, ?_⟩
  open_k0
  exact ⟨pa, l, f, dy, c, rfl, ha, fun H1 s1 => ⟨_, rfl, d, _, _, rfl, hd, q H1 s1⟩⟩
/-- the plans' bounds -/
def PlsIn (zs : List (V × Pl)) : Prop := 1 ≤ zs.length ∧ zs.length ≤ 8 ∧ ∀ z ∈ zs, (0 ≤ z.2.2.1 ∧ z.2.2.1 < 10 ^ 30) ∧ 0 ≤ z.2.2.2 ∧ z.2.2.2 ≤ 400
/-- the account with its plans -/
def AccZ (K : PySem.W.Frag) (H : Hp) (pa l : Addr) (f : Int) (dy : Bool) (c : Int) (zs : List (V × Pl)) : Prop := AccIs K H pa l f dy c ∧ H l = some (.lst (zs.map (·.1))) ∧ PlsAt K H zs ∧ PlsIn zs
theorem AccZ.same {K : PySem.W.Frag} {H H' : Hp} {pa l : Addr} {f : Int} {dy : Bool} {c : Int} {zs : List (V × Pl)} (h : AccZ K H pa l f dy c zs) (s : Same H H') : AccZ K H' pa l f dy c zs := ⟨h.1.same s, s _ _ h.2.1, h.2.2.1.same s, h.2.2.2⟩
def spMixed : Sp := fun vs H Q _ => ∃ c k : Int, vs = [.int c, .int k] ∧ 0 ≤ k ∧ k ≤ 1000 ∧ ∀ r, 0 ≤ r → r < 2147483579 → Q (.int r) H
theorem sc_xL_mixed : FnScope ["_law_cell", "_law_k", "_law_number"] ["_law_cell", "_law_k"] (defScope s_xL_mixed) := ⟨rfl, rfl, rfl, by decide +kernel, rfl, by decide +kernel, by decide +kernel⟩
theorem ok_xL_mixed (T : Txt K mg t) : FnOk P w K mg base (CXE P w) 1 t.a_xL_mixed t.d_xL_mixed ["_law_cell", "_law_k"] (spMixed) := by
  refine T.fn_xL_mixed.okX sc_xL_mixed (fun vs H Q E h => ?_) (fun cdv A outer s H vs Q E L hr h => ?_)
  · obtain ⟨c, k, rfl, k0, k1, q⟩ := h
    rfl
  obtain ⟨c, k, rfl, k0, k1, q⟩ := h
  have nd := sc_xL_mixed.nd
  refine ⟨_, (pss_cons (ps_set (i := 2) nd rfl (Or.inl rfl) (pe_op op_mod (pe_op op_add (pe_op op_add (pe_op op_mul (pe_op op_mod (pv 0) pe_int) pe_int) (pe_op op_mul (pv 1) pe_int)) pe_int) pe_int)) (pss_cons (ps_set (i := 2) nd rfl (Or.inl rfl) (pe_op op_mod (pe_op op_add (pe_op op_mul (pv 2) (pv 2)) pe_int) pe_int)) (pss_one (ps_ret (pe_op op_mod (pe_op op_mul (pv 2) (pv 2)) pe_int))))), ?_⟩
  open_k0
  generalize h1 : (c % 2147483647 * 48271 + k * 69621 + 7919) % 2147483629 = n1
  have b1 : 0 ≤ n1 ∧ n1 < 2147483629 := by omega
  generalize h2 : (n1 * n1 + 69621) % 2147483587 = n2
  have b2 : 0 ≤ n2 ∧ n2 < 2147483587 := by
    rw [← h2]
    exact ⟨Int.emod_nonneg _ (by decide), Int.emod_lt_of_pos _ (by decide)⟩
  refine ⟨.inr ⟨by decide, by decide⟩, .inl ⟨by omega, by omega⟩, .inl ⟨by omega, by omega⟩, .inl ⟨by omega, by omega⟩, q _ (Int.emod_nonneg _ (by decide)) (Int.emod_lt_of_pos _ (by decide))⟩
def spNames (K : PySem.W.Frag) : Sp := fun vs H Q _ => ∃ c m : Int, vs = [.int c, .int m] ∧ 0 ≤ m ∧ m ≤ 8 ∧ ∀ l (ws : List (List Nat)) H', Same H H' → (ws.length : Int) = m → H' l = some (.lst (ws.map fun w => .str (SL w))) → Q (.ref l) H'
theorem sc_xL_plan_names : FnScope ["_law_cell", "_law_many", "_law_letters", "_law_size", "_law_at", "_law_names", "_law_k", "_law_name", "_law_j", "_law_turn"] ["_law_cell", "_law_many"] (defScope s_xL_plan_names) := ⟨rfl, rfl, rfl, by decide +kernel, rfl, by decide +kernel, by decide +kernel⟩
theorem ok_xL_plan_names (T : Txt K mg t) : FnOk P w K mg base (CXE P w) 1 t.a_xL_plan_names t.d_xL_plan_names ["_law_cell", "_law_many"] (spNames K) := by
  refine T.fn_xL_plan_names.okX sc_xL_plan_names (fun vs H Q E h => ?_) (fun cdv A outer s H vs Q E L hr h => ?_)
  · obtain ⟨c, m, rfl, m0, m1, q⟩ := h
    rfl
  obtain ⟨c, m, rfl, m0, m1, q⟩ := h
  have nd := sc_xL_plan_names.nd
  refine ⟨_, (pss_cons (ps_set (i := 2) nd rfl (Or.inl rfl) (pe_strL st_13)) (pss_cons (ps_set (i := 3) nd rfl (Or.inl rfl) (pe_op op_add pe_int (pe_op op_mod (pv 0) pe_int))) (pss_cons (ps_set (i := 4) nd rfl (Or.inl rfl) (pe_op op_mod (pe_op op_fdiv (pv 0) pe_int) (pv 3))) (pss_cons (ps_set (i := 5) nd rfl (Or.inl rfl) (pe_lstS pa_nil)) (pss_cons (ps_for (by passes_own) rfl (pi_range1 (by rfl) T.no_range (pa_cons (pv 1) pa_nil)) (pg_name (i := 6) nd rfl (Or.inl rfl)) (pss_cons (ps_set (i := 7) nd rfl (Or.inl rfl) (pe_strL st_14)) (pss_cons (ps_for (by passes_own) rfl (pi_range1 (by rfl) T.no_range (pa_cons (pv 3) pa_nil)) (pg_name (i := 8) nd rfl (Or.inl rfl)) (pss_cons (ps_set (i := 9) nd rfl (Or.inl rfl) (pe_op op_add (pe_op op_mul (pv 8) (pv 8)) (pe_op op_mul (pv 6) (pe_callTy call_int1 (by rfl) T.no_int bb_int (pa_cons (pe_cmpR op_eq (pv 8) (pv 4) (nomark _)) pa_nil))))) (pss_one (ps_set (i := 7) nd rfl (Or.inl rfl) (pe_op op_add_s (pv 7) (pe_ix ix_s (pv 2) (pe_op op_mod (pe_op op_add (pe_op op_fdiv (pv 0) (pe_op op_mul pe_int (pe_op op_add (pv 8) pe_int))) (pv 9)) pe_int) (fun _ _ => rfl))))))) (pss_one (ps_expr (pe_bm PySem.F.plainAttrs_list PySem.F.slot_list_append PySem.F.type_list_append mt_append (pv 5) (pa_cons (pv 7) pa_nil))))))) (pss_one (ps_ret (pv 5)))))))), ?_⟩
  open_k0
  have sb : 1 ≤ 1 + c % 8 ∧ 1 + c % 8 ≤ 8 := by omega
  generalize 1 + c % 8 = sz at sb ⊢
  refine ⟨by omega, fun ln H1 hln s1 e1 => ?_⟩
  ((try dsimp only); refine for_by fun R hR => ?_; simp only [tSortK, iVals, tDNewS, tDIn, tDNotIn, sDPut, tDPop1, tDGet2, tDGet, tCallKX, kwG_one, tEither, tTupS, tLstS, comp_K, capσ, sub_nil, sub_none, sub_some, tYes, List.replicate, Option.join_some, Option.join_none, SL_inj, iStr, tPart, tNoPart, tSl, tLst, tTup, cx_K, slT, CDiv, Int.reduceLT, Int.reduceLE, Int.reduceToNat, Int.reduceNeg, Int.reduceAdd, Int.reduceSub, Int.reduceMul, forall_const, tSeq, tNext, tIfS, tRet, tRetN, tDrop, tAsg, gName, gCons, gNil, tVar, tC, tOp, rI, rI0, tUn, rU, tTest, tB, tAnd, tOr, tNot, tAndV, tOrV, tNotV, tIf, tCons, tNil, tCallX, tCallL, tCB, sRaise, rEq, rNe, scal_ii, scal_bb, scal_ss, scal_ni, scal_in, tChain, tAug, ipI, L2.start, List.map_cons, List.map_nil, List.length_cons, List.length_nil, List.cons_append, List.nil_append, List.append_nil, List.replicate_succ, List.replicate_zero, Nat.reduceAdd, Nat.reduceSub, List.getElem?_cons_zero, List.getElem?_cons_succ, List.set_cons_zero, List.set_cons_succ, Option.some.injEq, V.int.injEq, V.bl.injEq, V.ref.injEq, V.str.injEq, exists_eq_left', exists_eq_left, exists_eq', exists_and_left, List.cons.injEq, and_true, true_and, and_self, and_assoc, decide_eq_true_eq, if_true, if_false, Bool.true_eq_false, Bool.false_eq_true, Bool.not_eq_true', Bool.not_true, Bool.not_false, decide_eq_false_iff_not, ite_true, ite_false, reduceCtorEq, false_and, exists_false, false_or, or_false, and_false, iList, iTup, iZip, iEnum, iRng1, iRng2, Nat.reduceLeDiff])
  refine ⟨by omega, by omega, hR _ _ ?_⟩
  clear hR
  generalize c / 8 % sz = at'
  obtain ⟨Pv, hPv⟩ : ∃ Pv : Nat → St → Hp → Prop, Pv = fun i σ1 H5 => Same H H5 ∧ ∃ ws : List (List Nat), ws.length = i ∧ H5 ln = some (.lst (ws.map fun w => V.str (SL w))) ∧ ∃ x6 x7 x8 x9, σ1 = [some (.int c), some (.int m), some (.str (SL azL)), some (.int sz), some (.int at'), some (.ref ln), x6, x7, x8, x9] := ⟨_, rfl⟩
  refine for_range Pv (by rw [hPv]; exact ⟨s1, [], rfl, e1, _, _, _, _, rfl⟩) (fun i σ1 H5 hi h => ?_) (fun σ1 H5 h => ?_)
  · rw [hPv] at h
    obtain ⟨s5, ws, wl, e5, x6, x7, x8, x9, rfl⟩ := h
    open_k0
    ((try dsimp only); refine for_by fun R hR => ?_; simp only [tSortK, iVals, tDNewS, tDIn, tDNotIn, sDPut, tDPop1, tDGet2, tDGet, tCallKX, kwG_one, tEither, tTupS, tLstS, comp_K, capσ, sub_nil, sub_none, sub_some, tYes, List.replicate, Option.join_some, Option.join_none, SL_inj, iStr, tPart, tNoPart, tSl, tLst, tTup, cx_K, slT, CDiv, Int.reduceLT, Int.reduceLE, Int.reduceToNat, Int.reduceNeg, Int.reduceAdd, Int.reduceSub, Int.reduceMul, forall_const, tSeq, tNext, tIfS, tRet, tRetN, tDrop, tAsg, gName, gCons, gNil, tVar, tC, tOp, rI, rI0, tUn, rU, tTest, tB, tAnd, tOr, tNot, tAndV, tOrV, tNotV, tIf, tCons, tNil, tCallX, tCallL, tCB, sRaise, rEq, rNe, scal_ii, scal_bb, scal_ss, scal_ni, scal_in, tChain, tAug, ipI, L2.start, List.map_cons, List.map_nil, List.length_cons, List.length_nil, List.cons_append, List.nil_append, List.append_nil, List.replicate_succ, List.replicate_zero, Nat.reduceAdd, Nat.reduceSub, List.getElem?_cons_zero, List.getElem?_cons_succ, List.set_cons_zero, List.set_cons_succ, Option.some.injEq, V.int.injEq, V.bl.injEq, V.ref.injEq, V.str.injEq, exists_eq_left', exists_eq_left, exists_eq', exists_and_left, List.cons.injEq, and_true, true_and, and_self, and_assoc, decide_eq_true_eq, if_true, if_false, Bool.true_eq_false, Bool.false_eq_true, Bool.not_eq_true', Bool.not_true, Bool.not_false, decide_eq_false_iff_not, ite_true, ite_false, reduceCtorEq, false_and, exists_false, false_or, or_false, and_false, iList, iTup, iZip, iEnum, iRng1, iRng2, Nat.reduceLeDiff])
    refine ⟨by omega, by omega, hR _ _ ?_⟩
    clear hR
    obtain ⟨Pw, hPw⟩ : ∃ Pw : Nat → St → Hp → Prop, Pw = fun j σ2 H6 => H6 = H5 ∧ ∃ (cs : List Nat) (y8 y9 : Option V), cs.length = j ∧ σ2 = [some (.int c), some (.int m), some (.str (SL azL)), some (.int sz), some (.int at'), some (.ref ln), some (.int (0 + (i : Int))), some (.str (SL cs)), y8, y9] := ⟨_, rfl⟩
    refine for_range Pw (by rw [hPw]; exact ⟨rfl, [], _, _, rfl, rfl⟩) (fun j σ2 H6 hj h => ?_) (fun σ2 H6 h => ?_)
    · rw [hPw] at h
      obtain ⟨rfl, cs, y8, y9, cl, rfl⟩ := h
      open_k0
      have rb : 0 ≤ (c / (64 * (0 + (j : Int) + 1)) + ((0 + (j : Int)) * (0 + (j : Int)) + (0 + (i : Int)) * if 0 + (j : Int) = at' then 1 else 0)) % 26 ∧ (c / (64 * (0 + (j : Int) + 1)) + ((0 + (j : Int)) * (0 + (j : Int)) + (0 + (i : Int)) * if 0 + (j : Int) = at' then 1 else 0)) % 26 < 26 := ⟨Int.emod_nonneg _ (by decide), Int.emod_lt_of_pos _ (by decide)⟩
      refine ⟨.inl ⟨by omega, by omega⟩, .inl ⟨by omega, by omega⟩, .inl ⟨by decide, by decide⟩, by omega, by omega, _, at_az rb.1 rb.2, le_line (by omega), ?_⟩
      rw [hPw]
      exact ⟨rfl, _, _, _, by rw [List.length_append, cl]; rfl, rfl⟩
    · rw [hPw] at h
      obtain ⟨rfl, cs, y8, y9, cl, rfl⟩ := h
      lgec_open0
      refine ⟨.inl ⟨rfl, _, SqL.of e5⟩, ln, _, _, rfl, rfl, e5, by rw [List.length_map]; exact small1000 (by omega), ?_⟩
      rw [hPv]
      exact ⟨same_upd s5 hln, ws ++ [cs], by rw [List.length_append, wl]; rfl, by rw [upd_same, List.map_append]; rfl, _, _, _, _, rfl⟩
  · rw [hPv] at h
    obtain ⟨s5, ws, wl, e5, x6, x7, x8, x9, rfl⟩ := h
    open_k0
    exact q ln ws H5 s5 (by omega) e5
def spAccount (K : PySem.W.Frag) : Sp := fun vs H Q _ => ∃ (a : Addr) (ns : List Int), vs = [.ref a] ∧ SqL K H a (ns.map V.int) ∧ ns.length ≤ 63 ∧ ∀ p l (zs : List (V × Pl)) (f : Int) dy cc H', Same H H' → AccIs K H' p l f dy cc → H' l = some (.lst (zs.map (·.1))) → PlsAt K H' zs → PlsIn zs → Q (.ref p) H'
theorem sc_xL_account : FnScope ["_law_script", "_law_cell", "_law_first", "_law_m", "_law_cycle", "_law_names", "_law_plans", "_law_k", "_law_n", "_law_price"] ["_law_script"] (defScope s_xL_account) := ⟨rfl, rfl, rfl, by decide +kernel, rfl, by decide +kernel, by decide +kernel⟩
theorem ok_xL_account (T : Txt K mg t) : FnOk P w K mg base (CXE P w) 2 t.a_xL_account t.d_xL_account ["_law_script"] (spAccount K) := by
  refine T.fn_xL_account.okX sc_xL_account (fun vs H Q E h => ?_) (fun cdv A outer s H vs Q E L hr h => ?_)
  · obtain ⟨a, ns, rfl, hS, h63, q⟩ := h
    rfl
  obtain ⟨a, ns, rfl, hS, h63, q⟩ := h
  have nd := sc_xL_account.nd
  refine ⟨_, (pss_cons (ps_set (i := 1) nd rfl (Or.inl rfl) (pe_callX L.toLv (ok_xL_cell_at T) (hr.mono (by decide)) (by rfl) T.mg_xL_cell_at T.fn_xL_cell_at.kp T.b_xL_cell_at .nil (pa_cons (pv 0) (pa_cons pe_int pa_nil star_Constant) star_Name))) (pss_cons (ps_set (i := 2) nd rfl (Or.inl rfl) (pe_ix ix_list (pe_lstS (pa_cons pe_int (pa_cons (pe_op op_add pe_int (pe_op op_mod (pe_op op_fdiv (pv 1) pe_int) pe_int)) (pa_cons (pe_op op_mod (pe_op op_fdiv (pv 1) pe_int) pe_int) (pa_cons (pe_op op_sub pe_int (pe_op op_mod (pe_op op_fdiv (pv 1) pe_int) pe_int)) pa_nil star_BinOp) star_BinOp) star_BinOp) star_Constant)) (pe_op op_mod (pv 1) pe_int) (fun _ _ => rfl))) (pss_cons (ps_set (i := 3) nd rfl (Or.inl rfl) (pe_callX L.toLv (ok_xL_mixed T) (hr.mono (by decide)) (by rfl) T.mg_xL_mixed T.fn_xL_mixed.kp T.b_xL_mixed .nil (pa_cons (pe_callX L.toLv (ok_xL_cell_at T) (hr.mono (by decide)) (by rfl) T.mg_xL_cell_at T.fn_xL_cell_at.kp T.b_xL_cell_at .nil (pa_cons (pv 0) (pa_cons pe_int pa_nil star_Constant) star_Name)) (pa_cons pe_int pa_nil star_Constant) star_Call))) (pss_cons (ps_set (i := 4) nd rfl (Or.inl rfl) (pe_tupS (pa_cons (pe_strL st_4) (pa_cons (pe_op op_add pe_int (pe_op op_mod (pe_op op_fdiv (pv 3) pe_int) pe_int)) pa_nil star_BinOp) star_Constant))) (pss_cons (ps_cut (ps_if (pt_cmpR op_lt (pe_op op_mod (pv 3) pe_int) pe_int (nomark _)) (pss_one (ps_set (i := 4) nd rfl (Or.inl rfl) (pe_tupS (pa_cons (pe_strL st_15) (pa_cons (pe_op op_add pe_int (pe_op op_mod (pe_op op_fdiv (pv 3) pe_int) pe_int)) pa_nil star_BinOp) star_Constant)))) pss_nil)) (pss_cons (ps_cut (ps_if (pt_cmpR op_eq (pe_op op_mod (pv 3) pe_int) pe_int (nomark _)) (pss_one (ps_set (i := 4) nd rfl (Or.inl rfl) (pe_tupS (pa_cons (pe_strL st_15) (pa_cons (pe_op op_add pe_int (pe_op op_mod (pe_op op_fdiv (pv 3) pe_int) pe_int)) pa_nil star_BinOp) star_Constant)))) pss_nil)) (pss_cons (ps_cut (ps_if (pt_cmpR op_eq (pe_op op_mod (pv 3) pe_int) pe_int (nomark _)) (pss_one (ps_set (i := 4) nd rfl (Or.inl rfl) (pe_tupS (pa_cons (pe_strL st_4) (pa_cons (pe_op op_add pe_int (pe_op op_mod (pe_op op_fdiv (pv 3) pe_int) pe_int)) pa_nil star_BinOp) star_Constant)))) pss_nil)) (pss_cons (ps_set (i := 5) nd rfl (Or.inl rfl) (pe_callX L.toLv (ok_xL_plan_names T) (hr.mono (by decide)) (by rfl) T.mg_xL_plan_names T.fn_xL_plan_names.kp T.b_xL_plan_names .nil (pa_cons (pe_callX L.toLv (ok_xL_cell_at T) (hr.mono (by decide)) (by rfl) T.mg_xL_cell_at T.fn_xL_cell_at.kp T.b_xL_cell_at .nil (pa_cons (pv 0) (pa_cons pe_int pa_nil star_Constant) star_Name)) (pa_cons pe_int pa_nil star_Constant) star_Call))) (pss_cons (ps_set (i := 6) nd rfl (Or.inl rfl) (pe_lstS pa_nil)) (pss_cons (ps_for (by passes_own) rfl (pi_range1 (by rfl) T.no_range (pa_cons (pe_ix ix_list (pe_lstS (pa_cons (pe_op op_add pe_int (pe_op op_mod (pe_op op_fdiv (pv 3) pe_int) pe_int)) (pa_cons pe_int pa_nil star_Constant) star_BinOp)) (pe_callTy call_int1 (by rfl) T.no_int bb_int (pa_cons (pe_cmpR op_eq (pe_op op_mod (pe_op op_fdiv (pv 3) pe_int) pe_int) pe_int (nomark _)) pa_nil)) (fun _ _ => rfl)) pa_nil)) (pg_name (i := 7) nd rfl (Or.inl rfl)) (pss_cons (ps_set (i := 8) nd rfl (Or.inl rfl) (pe_callX L.toLv (ok_xL_mixed T) (hr.mono (by decide)) (by rfl) T.mg_xL_mixed T.fn_xL_mixed.kp T.b_xL_mixed .nil (pa_cons (pe_callX L.toLv (ok_xL_cell_at T) (hr.mono (by decide)) (by rfl) T.mg_xL_cell_at T.fn_xL_cell_at.kp T.b_xL_cell_at .nil (pa_cons (pv 0) (pa_cons pe_int pa_nil star_Constant) star_Name)) (pa_cons (pv 7) pa_nil star_Name) star_Call))) (pss_cons (ps_set (i := 9) nd rfl (Or.inl rfl) (pe_ix ix_list (pe_lstS (pa_cons (pe_op op_mod (pe_op op_fdiv (pv 8) pe_int) pe_int) (pa_cons (pe_op op_mod (pe_op op_fdiv (pv 8) pe_int) pe_int) (pa_cons (pe_op op_mod (pe_op op_fdiv (pe_callX L.toLv (ok_xL_cell_at T) (hr.mono (by decide)) (by rfl) T.mg_xL_cell_at T.fn_xL_cell_at.kp T.b_xL_cell_at .nil (pa_cons (pv 0) (pa_cons pe_int pa_nil star_Constant) star_Name)) (pe_op op_add (pv 7) pe_int)) (pe_op op_pow pe_int pe_int)) pa_nil star_BinOp) star_BinOp) star_BinOp)) (pe_op op_mod (pe_op op_fdiv (pv 8) pe_int) pe_int) (fun _ _ => rfl))) (pss_one (ps_expr (pe_bm PySem.F.plainAttrs_list PySem.F.slot_list_append PySem.F.type_list_append mt_append (pv 6) (pa_cons (pe_tupS (pa_cons (pe_ix ix_list (pv 5) (pv 7) (fun _ _ => rfl)) (pa_cons (pv 9) (pa_cons (pe_ix ix_list (pe_lstS (pa_cons pe_int (pa_cons pe_int (pa_cons pe_int (pa_cons (pe_op op_add pe_int (pe_op op_mod (pe_op op_fdiv (pv 8) pe_int) pe_int)) (pa_cons (pe_op op_add pe_int (pe_op op_mod (pe_op op_fdiv (pv 8) pe_int) pe_int)) (pa_cons pe_int (pa_cons pe_int pa_nil star_Constant) star_Constant) star_BinOp) star_BinOp) star_Constant) star_Constant) star_Constant)) (pe_op op_mod (pv 8) pe_int) (fun _ _ => rfl)) pa_nil star_Subscript) star_Name) star_Subscript)) pa_nil))))))) (pss_one (ps_ret (pe_tupS (pa_cons (pv 6) (pa_cons (pv 2) (pa_cons (pv 4) pa_nil star_Name) star_Name) star_Name)))))))))))))), ?_⟩
  open_k0
  refine ⟨a, ns, 0, rfl, hS, h63, by decide, ?_⟩
  generalize cellOf ns 0 = cl
  refine ⟨_, rfl, _, rfl, _, rfl, fun p1 H1 _ s1 e1 => ⟨_, rfl, ?_⟩⟩
  have e1' : H1 p1 = some (.lst (([0, 738885 + cl / 4 % 800, cl / 4 % 3500001, 3500000 - cl / 4 % 40] : List Int).map V.int)) := e1
  have i4 : 0 ≤ cl % 4 ∧ cl % 4 < 4 := by omega
  have bf := getD_in (xs := [0, 738885 + cl / 4 % 800, cl / 4 % 3500001, 3500000 - cl / 4 % 40]) (lo := 0) (hi := 3500000) (fun x hx => by
    simp only [List.mem_cons, List.not_mem_nil, or_false] at hx
    rcases hx with rfl | rfl | rfl | rfl <;> omega) i4.1 i4.2
  refine ixL (SqL.of e1') (at_ints i4.1 i4.2) ?_
  clear e1 e1'
  generalize ([0, 738885 + cl / 4 % 800, cl / 4 % 3500001, 3500000 - cl / 4 % 40] : List Int).getD (cl % 4).toNat 0 = f at bf ⊢
  refine ⟨a, ns, 1, rfl, s1.seq hS, h63, by decide, _, 1, rfl, by decide, by decide, fun m m0 m1 => ?_⟩
  refine ⟨_, rfl, fun p2 H2 _ s2 e2 => ?_⟩
  obtain ⟨R, hR⟩ : ∃ R : St → Hp → Prop, R = fun σ' H' => Same H H' ∧ ∃ (pc : Addr) (dy : Bool) (cc : Int), IsCyc K H' pc dy cc ∧ σ' = [some (.ref a), some (.int cl), some (.int f), some (.int m), some (.ref pc), none, none, none, none, none] := ⟨_, rfl⟩
  have s12 := s1.trans s2
  have mk : ∀ (pc : Addr) (dy : Bool) (cc : Int) (H' : Hp), Same H H' → H' pc = some (.tup [.str (SL (if dy then [100, 97, 121, 115] else [109, 111, 110, 116, 104, 115])), .int cc]) → Cal.CycOk dy cc → R [some (.ref a), some (.int cl), some (.int f), some (.int m), some (.ref pc), none, none, none, none, none] H' := fun pc dy cc H' s e h => by
    rw [hR]
    exact ⟨s, pc, dy, cc, ⟨SqT.of e, h⟩, rfl⟩
  refine ⟨R, ?_, fun σ3 H3 h3 => ?_⟩
  · open_k0
    exact ite_of (fun _ p3 H3 _ s3 e3 => mk p3 true _ H3 (s12.trans s3) e3 (Cal.cyc_days (by omega) (by omega))) (fun _ => mk p2 false _ H2 s12 e2 (Cal.cyc_months (by omega) (by omega)))
  have h3' := h3
  rw [hR] at h3
  obtain ⟨s3, pc3, dy3, cc3, c3, rfl⟩ := h3
  open_k0
  refine ⟨R, ?_, fun σ4 H4 h4 => ?_⟩
  · open_k0
    exact ite_of (fun _ p4 H4 _ s4 e4 => mk p4 true _ H4 (s3.trans s4) e4 (Cal.cyc_days (by omega) (by omega))) (fun _ => h3')
  clear h3'
  have h4' := h4
  rw [hR] at h4
  obtain ⟨s4, pc4, dy4, cc4, c4, rfl⟩ := h4
  open_k0
  refine ⟨R, ?_, fun σ5 H5 h5 => ?_⟩
  · open_k0
    exact ite_of (fun _ p5 H5 _ s5 e5 => mk p5 false _ H5 (s4.trans s5) e5 (Cal.cyc_months (by omega) (by omega))) (fun _ => h4')
  clear h4'
  rw [hR] at h5
  obtain ⟨s5, pc, dy, cc, hc, rfl⟩ := h5
  clear mk hR s3 c3 s4 c4 R
  open_k0
  refine ⟨a, ns, 2, rfl, s5.seq hS, h63, by decide, ?_⟩
  refine ⟨_, 8, rfl, by decide, by decide, fun ln ws H6 s6 wl e6 => ?_⟩
  intro lp H7 hlp s7 e7
  ((try dsimp only); refine for_by fun R hR => ?_; simp only [tSortK, iVals, tDNewS, tDIn, tDNotIn, sDPut, tDPop1, tDGet2, tDGet, tCallKX, kwG_one, tEither, tTupS, tLstS, comp_K, capσ, sub_nil, sub_none, sub_some, tYes, List.replicate, Option.join_some, Option.join_none, SL_inj, iStr, tPart, tNoPart, tSl, tLst, tTup, cx_K, slT, CDiv, Int.reduceLT, Int.reduceLE, Int.reduceToNat, Int.reduceNeg, Int.reduceAdd, Int.reduceSub, Int.reduceMul, forall_const, tSeq, tNext, tIfS, tRet, tRetN, tDrop, tAsg, gName, gCons, gNil, tVar, tC, tOp, rI, rI0, tUn, rU, tTest, tB, tAnd, tOr, tNot, tAndV, tOrV, tNotV, tIf, tCons, tNil, tCallX, tCallL, tCB, sRaise, rEq, rNe, scal_ii, scal_bb, scal_ss, scal_ni, scal_in, tChain, tAug, ipI, L2.start, List.map_cons, List.map_nil, List.length_cons, List.length_nil, List.cons_append, List.nil_append, List.append_nil, List.replicate_succ, List.replicate_zero, Nat.reduceAdd, Nat.reduceSub, List.getElem?_cons_zero, List.getElem?_cons_succ, List.set_cons_zero, List.set_cons_succ, Option.some.injEq, V.int.injEq, V.bl.injEq, V.ref.injEq, V.str.injEq, exists_eq_left', exists_eq_left, exists_eq', exists_and_left, List.cons.injEq, and_true, true_and, and_self, and_assoc, decide_eq_true_eq, if_true, if_false, Bool.true_eq_false, Bool.false_eq_true, Bool.not_eq_true', Bool.not_true, Bool.not_false, decide_eq_false_iff_not, ite_true, ite_false, reduceCtorEq, false_and, exists_false, false_or, or_false, and_false, iList, iTup, iZip, iEnum, iRng1, iRng2, Nat.reduceLeDiff])
  intro p8 H8 _ s8 e8
  have e8' : H8 p8 = some (.lst (([1 + m / 640 % 4, 8] : List Int).map V.int)) := e8
  obtain ⟨ix, hix⟩ : ∃ ix : Int, ix = if m / 2560 % 8 = 5 then 1 else 0 := ⟨_, rfl⟩
  rw [← hix]
  have ib : 0 ≤ ix ∧ ix < 2 := by rw [hix]; split <;> decide
  have bn := getD_in (xs := [1 + m / 640 % 4, 8]) (lo := 1) (hi := 8) (fun x hx => by
    simp only [List.mem_cons, List.not_mem_nil, or_false] at hx
    rcases hx with rfl | rfl <;> omega) ib.1 ib.2
  refine ixL (SqL.of e8') (at_ints ib.1 ib.2) ⟨_, rfl, ?_⟩
  clear e8 e8' hix
  generalize ([1 + m / 640 % 4, 8] : List Int).getD ix.toNat 0 = n at bn ⊢
  refine ⟨by omega, by omega, hR _ _ ?_⟩
  clear hR
  have s08 := ((s5.trans s6).trans s7).trans s8
  have s06 := s5.trans s6
  obtain ⟨Pv, hPv⟩ : ∃ Pv : Nat → St → Hp → Prop, Pv = fun i σ1 H9 => Same H6 H9 ∧ ∃ zs : List (V × Pl), zs.length = i ∧ H9 lp = some (.lst (zs.map (·.1))) ∧ PlsAt K H9 zs ∧ (∀ z ∈ zs, (0 ≤ z.2.2.1 ∧ z.2.2.1 < 10 ^ 30) ∧ 0 ≤ z.2.2.2 ∧ z.2.2.2 ≤ 400) ∧ ∃ x7 x8 x9, σ1 = [some (.ref a), some (.int cl), some (.int f), some (.int m), some (.ref pc), some (.ref ln), some (.ref lp), x7, x8, x9] := ⟨_, rfl⟩
  refine for_range Pv (by rw [hPv]; exact ⟨s7.trans s8, [], rfl, s8 _ _ e7, (fun _ h => nomatch h), (fun _ h => nomatch h), _, _, _, rfl⟩) (fun i σ1 H9 hi h => ?_) (fun σ1 H9 h => ?_)
  · rw [hPv] at h
    obtain ⟨s9, zs, zl, e9, za, zb, x7, x8, x9, rfl⟩ := h
    have s09 := s06.trans s9
    lgec_open0
    refine ⟨a, ns, 2, rfl, s09.seq hS, h63, by decide, _, _, rfl, by omega, by omega, fun nn n0 n1 => ?_⟩
    refine ⟨_, rfl, _, rfl, a, ns, 2, rfl, s09.seq hS, h63, by decide, _, rfl, by omega, by omega, ⟨by decide, by decide, by decide⟩, by decide, fun p10 H10 _ s10 e10 => ⟨_, rfl, ?_⟩⟩
    generalize cellOf ns 2 / (0 + (i : Int) + 1) = cd at e10
    have e10' : H10 p10 = some (.lst (([nn / 7 % 1000, nn / 7 % 100, cd % 10 ^ 30] : List Int).map V.int)) := e10
    have i3 : 0 ≤ nn / 7000 % 3 ∧ nn / 7000 % 3 < 3 := by omega
    have bp := getD_in (xs := [nn / 7 % 1000, nn / 7 % 100, cd % 10 ^ 30]) (lo := 0) (hi := 10 ^ 30 - 1) (fun x hx => by
      simp only [List.mem_cons, List.not_mem_nil, or_false] at hx
      rcases hx with rfl | rfl | rfl <;> omega) i3.1 i3.2
    refine ixL (SqL.of e10') (at_ints i3.1 i3.2) ?_
    clear e10 e10'
    generalize ([nn / 7 % 1000, nn / 7 % 100, cd % 10 ^ 30] : List Int).getD (nn / 7000 % 3).toNat 0 = pr at bp ⊢
    have e910 := s10 _ _ e9
    have en10 := s10 _ _ (s9 _ _ e6)
    obtain ⟨y, hy, ey⟩ := at_strs (ys := ws) (i := 0 + (i : Int)) (by omega) (by omega)
    refine ⟨.inl ⟨rfl, _, SqL.of e910⟩, ixL (SqL.of en10) ey ⟨_, rfl, _, rfl, fun p11 H11 _ s11 e11 => ⟨_, rfl, ?_⟩⟩⟩
    have e11' : H11 p11 = some (.lst (([0, 0, 7, 28 + nn / 7 % 4, 1 + nn / 7 % 400, 30, 0] : List Int).map V.int)) := e11
    have i7 : 0 ≤ nn % 7 ∧ nn % 7 < 7 := by omega
    have bc := getD_in (xs := [0, 0, 7, 28 + nn / 7 % 4, 1 + nn / 7 % 400, 30, 0]) (lo := 0) (hi := 400) (fun x hx => by
      simp only [List.mem_cons, List.not_mem_nil, or_false] at hx
      rcases hx with rfl | rfl | rfl | rfl | rfl | rfl | rfl <;> omega) i7.1 i7.2
    refine ixL (SqL.of e11') (at_ints i7.1 i7.2) (fun p12 H12 _ s12 e12 => ?_)
    clear e11 e11'
    generalize ([0, 0, 7, 28 + nn / 7 % 4, 1 + nn / 7 % 400, 30, 0] : List Int).getD (nn % 7).toNat 0 = ct at bc e12
    have t12 := (s10.trans s11).trans s12
    have e912 := t12 _ _ e9
    have ne : ∀ a xs, H12 a = some (.tup xs) → a ≠ lp := fun a xs h z => by rw [z, e912] at h; cases h
    have z12 : PlsAt K H12 zs := za.same t12
    refine ⟨lp, _, _, rfl, rfl, e912, by rw [List.length_map]; exact small1000 (by omega), ?_⟩
    rw [hPv]
    refine ⟨same_upd (s9.trans t12) hlp, zs ++ [(.ref p12, y, pr, ct)], by rw [List.length_append, zl]; rfl, by rw [upd_same, List.map_append]; rfl, ?_, fun z hz => ?_, _, _, _, rfl⟩
    · intro z hz
      rcases List.mem_append.mp hz with h | h
      · obtain ⟨p, e, hq⟩ := z12 z h
        exact ⟨p, e, sqT_upd hq e912⟩
      · rw [List.mem_singleton.mp h]
        exact ⟨p12, rfl, SqT.of (by rw [upd_ne (ne _ _ e12)]; exact e12)⟩
    · rcases List.mem_append.mp hz with h | h
      · exact zb z h
      · rw [List.mem_singleton.mp h]
        exact ⟨⟨bp.1, by show pr < 10 ^ 30; omega⟩, bc⟩
  · rw [hPv] at h
    obtain ⟨s9, zs, zl, e9, za, zb, x7, x8, x9, rfl⟩ := h
    open_k0
    intro pr H10 _ s10 e10
    exact q pr lp zs f dy cc H10 ((s06.trans s9).trans s10) ⟨pc, bf.1, bf.2, ((hc.same s6).same s9).same s10, e10⟩ (s10 _ _ e9) (za.same s10) ⟨by omega, by omega, zb⟩

/-- what the law draws: from the day d, of these names and terms that stand -/
def ChOk (nms : List (List Nat)) (live : List Int) (d : Int) : Ch → Prop
  | .plan d' nm => d' = d ∧ nm ∈ nms
  | .seats d' n => d' = d ∧ 0 ≤ n ∧ n ≤ 1000000
  | .word w d' => w < 4 ∧ d' = d
  | .undo k => k ∈ live
  | .grant a => 1 ≤ a ∧ a < 10 ^ 30
  | .back => True
theorem words_at {i : Int} (h0 : 0 ≤ i) (h1 : i < 4) : ∃ k, k < 4 ∧ atI [V.str (SL [104, 111, 108, 100]), V.str (SL [103, 111]), V.str (SL [115, 116, 111, 112]), V.str (SL [108, 97, 115, 116])] i = some (.str (SL (wordS k))) := by
  have h : i = 0 ∨ i = 1 ∨ i = 2 ∨ i = 3 := by omega
  rcases h with rfl | rfl | rfl | rfl
  · exact ⟨0, by decide, rfl⟩
  · exact ⟨1, by decide, rfl⟩
  · exact ⟨2, by decide, rfl⟩
  · exact ⟨3, by decide, rfl⟩
theorem chIn_of {nms : List (List Nat)} {f e : Int} {Ls : List Int} {d : Int} {ch : Ch} (h : ChOk nms Ls d ch) (d0 : f ≤ d) (d1 : d < e) : ChIn nms f e Ls ch := by
  cases ch with
  | plan d' nm => exact ⟨by have := h.1; omega, by have := h.1; omega, h.2⟩
  | seats d' n => exact ⟨by have := h.1; omega, by have := h.1; omega, h.2.1, h.2.2⟩
  | word w d' => exact ⟨h.1, by have := h.2; omega, by have := h.2; omega⟩
  | undo k => exact h
  | grant a => exact h
  | back => trivial
def spChange (K : PySem.W.Frag) : Sp := fun vs H Q _ => ∃ (pa l la : Addr) (f : Int) (dy : Bool) (c : Int) (zs : List (V × Pl)) (x d : Int) (live : List Int), vs = [.ref pa, .int x, .int d, .ref l] ∧ AccZ K H pa la f dy c zs ∧ SqL K H l (live.map V.int) ∧ ∀ p ch H', Same H H' → ChOk (zs.map fun z => z.2.1) live d ch → H' p = some (.tup ((chD ch).map sv)) → Q (.ref p) H'
theorem sc_xL_change : FnScope ["_law_account_here", "_law_n", "_law_own", "_law_free", "_law_way"] ["_law_account_here", "_law_n", "_law_own", "_law_free"] (defScope s_xL_change) := ⟨rfl, rfl, rfl, by decide +kernel, rfl, by decide +kernel, by decide +kernel⟩
theorem ok_xL_change (T : Txt K mg t) : FnOk P w K mg base (CXE P w) 1 t.a_xL_change t.d_xL_change ["_law_account_here", "_law_n", "_law_own", "_law_free"] (spChange K) := by
  refine T.fn_xL_change.okX sc_xL_change (fun vs H Q E h => ?_) (fun cdv A outer s H vs Q E L hr h => ?_)
  · obtain ⟨pa, l, la, f, dy, c, zs, x, d, live, rfl, ⟨⟨pc, _, _, _, ep⟩, el, za, zi⟩, hL, q⟩ := h
    rfl
  obtain ⟨pa, l, la, f, dy, c, zs, x, d, live, rfl, ⟨⟨pc, _, _, _, ep⟩, el, za, zi⟩, hL, q⟩ := h
  have nd := sc_xL_change.nd
  refine ⟨_, (pss_cons (ps_set (i := 4) nd rfl (Or.inl rfl) (pe_op op_mod (pv 1) pe_int)) (pss_cons (ps_if (pt_cmpR op_lt (pv 4) pe_int (nomark _)) (pss_one (ps_ret (pe_tupS (pa_cons (pe_strL st_7) (pa_cons (pv 2) (pa_cons (pe_ix ix_tup (pe_ix ix_list (pe_ix ix_tup (pv 0) pe_int (fun _ _ => rfl)) (pe_op op_mod (pe_op op_fdiv (pv 1) pe_int) (pe_callB call_len_seq (by rfl) T.no_len bb_len (pa_cons (pe_ix ix_tup (pv 0) pe_int (fun _ _ => rfl)) pa_nil))) (fun _ _ => rfl)) pe_int (fun _ _ => rfl)) pa_nil star_Subscript) star_Name) star_Constant)))) pss_nil) (pss_cons (ps_if (pt_cmpR op_lt (pv 4) pe_int (nomark _)) (pss_one (ps_ret (pe_tupS (pa_cons (pe_strL st_8) (pa_cons (pv 2) (pa_cons (pe_ix ix_list (pe_lstS (pa_cons (pe_op op_mod (pe_op op_fdiv (pv 1) pe_int) pe_int) (pa_cons (pe_op op_mod (pe_op op_fdiv (pv 1) pe_int) pe_int) pa_nil star_BinOp) star_BinOp)) (pe_op op_mod (pe_op op_fdiv (pv 1) pe_int) pe_int) (fun _ _ => rfl)) pa_nil star_Subscript) star_Name) star_Constant)))) pss_nil) (pss_cons (ps_if (pt_cmpR op_lt (pv 4) pe_int (nomark _)) (pss_one (ps_ret (pe_tupS (pa_cons (pe_ix ix_list (pe_lstS (pa_cons (pe_strL st_16) (pa_cons (pe_strL st_17) (pa_cons (pe_strL st_18) (pa_cons (pe_strL st_19) pa_nil star_Constant) star_Constant) star_Constant) star_Constant)) (pe_op op_mod (pe_op op_fdiv (pv 1) pe_int) pe_int) (fun _ _ => rfl)) (pa_cons (pv 2) pa_nil star_Name) star_Subscript)))) pss_nil) (pss_cons (ps_if (pw_and (pt_cmpR op_lt (pv 4) pe_int (nomark _)) (pw_and1 (pt_cmpR (op_neD hr) (pv 3) (pe_lstS pa_nil) (nomark _)))).pt (pss_one (ps_ret (pe_tupS (pa_cons (pe_strL st_10) (pa_cons (pe_ix ix_list (pv 3) (pe_op op_mod (pe_op op_fdiv (pv 1) pe_int) (pe_callB call_len_seq (by rfl) T.no_len bb_len (pa_cons (pv 3) pa_nil))) (fun _ _ => rfl)) pa_nil star_Subscript) star_Constant)))) pss_nil) (pss_one (ps_ret (pe_ix ix_list (pe_lstS (pa_cons (pe_tupS (pa_cons (pe_strL st_11) pa_nil)) (pa_cons (pe_tupS (pa_cons (pe_strL st_9) (pa_cons (pe_op op_add pe_int (pe_op op_mod (pe_op op_fdiv (pv 1) pe_int) pe_int)) pa_nil star_BinOp) star_Constant)) pa_nil star_Tuple) star_Tuple)) (pe_op op_mod (pe_op op_fdiv (pv 1) pe_int) pe_int) (fun _ _ => rfl))))))))), ?_⟩
  open_k0
  have tail : ∀ H0, Same H H0 → New H0 (.tup [.str (SL [98, 97, 99, 107])]) fun x_1 H1 => New H1 (.tup [.str (SL [103, 114, 97, 110, 116]), .int (1 + x / 26 % 100000)]) fun x_2 H2 => New H2 (.lst [x_1, x_2]) fun x_3 H3 => rIxL K x_3 (.int (x / 13 % 2)) H3 Q := fun H0 s0 => by
    intro p1 H1 _ s1 e1 p2 H2 _ s2 e2 p3 H3 _ s3 e3
    rcases (show x / 13 % 2 = 0 ∨ x / 13 % 2 = 1 by omega) with z | z
    · rw [z]
      exact ixL (SqL.of e3) (at_0 _ _) (q p1 .back H3 (((s0.trans s1).trans s2).trans s3) trivial (s3 _ _ (s2 _ _ e1)))
    · rw [z]
      exact ixL (SqL.of e3) (at_1 _ _ _) (q p2 (.grant _) H3 (((s0.trans s1).trans s2).trans s3) ⟨by omega, by omega⟩ (s3 _ _ e2))
  refine ite_of (fun _ => ?_) (fun _ => ite_of (fun _ => ?_) (fun _ => ite_of (fun _ => ?_) (fun _ => ite_of (fun _ => ?_) (fun _ => tail H (Same.refl _)))))
  · have hT := SqT.of (K := K) ep
    have l1 := zi.1
    refine ixT hT (at_0 _ _) (ixT hT (at_0 _ _) ⟨la, rfl, _, .inl (SqL.of el), ?_⟩)
    rw [List.length_map]
    have i1 : 0 ≤ x / 13 % (zs.length : Int) ∧ x / 13 % (zs.length : Int) < zs.length := ⟨Int.emod_nonneg _ (by omega), Int.emod_lt_of_pos _ (by omega)⟩
    obtain ⟨j, hj⟩ := Int.eq_ofNat_of_zero_le i1.1
    rw [hj] at i1 ⊢
    obtain ⟨z, hz⟩ : ∃ z, zs[j]? = some z := ⟨zs[j]'(by omega), List.getElem?_eq_getElem _⟩
    obtain ⟨p, ez, hq⟩ := za z (List.mem_of_getElem? hz)
    refine ⟨by omega, ixL (v := z.1) (SqL.of el) (atI_nat (by rw [List.getElem?_map, hz]; rfl)) ?_⟩
    rw [ez]
    exact ixT hq (v := .str (SL z.2.1)) rfl fun p1 H1 _ s1 e1 => q p1 (.plan d z.2.1) H1 s1 ⟨rfl, List.mem_map.mpr ⟨z, List.mem_of_getElem? hz, rfl⟩⟩ e1
  · intro p1 H1 _ s1 e1
    have e1' : H1 p1 = some (.lst (([x / 13 % 5, x / 13 % 1000001] : List Int).map V.int)) := e1
    have i6 : 0 ≤ x / 65 % 2 ∧ x / 65 % 2 < 2 := by omega
    have b := getD_in (xs := [x / 13 % 5, x / 13 % 1000001]) (lo := 0) (hi := 1000000) (fun y hy => by
      simp only [List.mem_cons, List.not_mem_nil, or_false] at hy
      rcases hy with rfl | rfl <;> omega) i6.1 i6.2
    exact ixL (SqL.of e1') (at_ints i6.1 i6.2) fun p2 H2 _ s2 e2 => q p2 (.seats d _) H2 (s1.trans s2) ⟨rfl, b.1, b.2⟩ e2
  · intro p1 H1 _ s1 e1
    obtain ⟨k, hk, ek⟩ := words_at (i := x / 13 % 4) (by omega) (by omega)
    exact ixL (SqL.of e1) ek fun p2 H2 _ s2 e2 => q p2 (.word k d) H2 (s1.trans s2) ⟨hk, rfl⟩ e2
  · intro p1 H1 _ s1 e1
    refine ⟨0, .lst (live.map D.int), .lst [], Dp_lst (s1.seq hL) (all2_ints _), Dp_lst (SqL.of e1) trivial, rfl, rfl, by decide, fun j a b _ h => by simp at h, _, rfl, ?_⟩
    cases live with
    | nil => exact tail H1 s1
    | cons u r =>
      refine ⟨_, .inl (s1.seq hL), ?_⟩
      rw [List.length_map]
      have i1 : 0 ≤ x / 13 % ((u :: r).length : Int) ∧ x / 13 % ((u :: r).length : Int) < (u :: r).length := ⟨Int.emod_nonneg _ (by simp only [List.length_cons]; omega), Int.emod_lt_of_pos _ (by simp only [List.length_cons]; omega)⟩
      exact ⟨by simp only [List.length_cons]; omega, ixL (s1.seq hL) (at_ints i1.1 i1.2) fun p2 H2 _ s2 e2 => q p2 (.undo _) H2 (s1.trans s2) (getD_mem i1.1 i1.2) e2⟩
/-- an entry is put behind the others, and what stands is kept up: the law's other way to say it -/
theorem en_tail2 {K : PySem.W.Frag} {H0 J : Hp} {le ll p : Addr} {nms : List (List Nat)} {f e en : Int} {zs : List En} {ch : Ch} {G : Hp → Prop} (I : EnInv K H0 J le ll nms f e zs) (hz : zs.length ≤ 63) (ec : J p = some (.tup ((chD ch).map sv)))
    (h1 : f ≤ en) (h2 : en < e) (h3 : ∀ y ∈ zs, y.2.2.1 ≤ en) (h4 : ChIn nms f e (standF (chs zs)) ch) (fin : ∀ pe H', EnInv K H0 H' le ll nms f e (zs ++ [(.ref pe, p, en, ch)]) → G H') :
    New J (HO.tup [V.int en, V.ref p]) fun x_1 H1 => rAppend (V.ref le) [x_1] H1 fun _ H1 => rIxT K (V.ref p) (V.int 0) H1 fun x_3 H1 =>
      scal x_3 (V.str (SL [117, 110, 100, 111])) = true ∧
        if x_3 = V.str (SL [117, 110, 100, 111]) then tyV K "list" (V.ref ll) H1 ∧ rIxT K (V.ref p) (V.int 1) H1 fun x H1 => rRemove (V.ref ll) [x] H1 fun _ H1 => G H1
        else rIxT K (V.ref p) (V.int 0) H1 fun x_9 H1 => scal x_9 (V.str (SL [103, 114, 97, 110, 116])) = true ∧
          if ¬x_9 = V.str (SL [103, 114, 97, 110, 116]) then rIxT K (V.ref p) (V.int 0) H1 fun x_10 H1 => scal x_10 (V.str (SL [98, 97, 99, 107])) = true ∧
            if ¬x_10 = V.str (SL [98, 97, 99, 107]) then tyV K "list" (V.ref ll) H1 ∧ rAppend (V.ref ll) [V.int (0 + (zs.length : Int))] H1 fun _ H1 => G H1 else G H1
          else G H1 := by
  have sl := stand_len (chs zs)
  rw [chs_len] at sl
  refine fun pe J1 _ s1 e1 => ⟨le, _, _, rfl, rfl, s1 _ _ I.e1, le_line (show (zs.map (·.1)).length + 1 ≤ 1000 by rw [List.length_map]; omega), ?_⟩
  have I1 := I.same' s1
  have c1 := s1 _ _ ec
  have pl : p ≠ le := fun z => by rw [z, I1.e1] at c1; cases c1
  have pl2 : p ≠ ll := fun z => by rw [z, I1.e2] at c1; cases c1
  have kp : ∀ b o, b ≠ le → J1 b = some o → upd J1 le (.lst (zs.map (·.1) ++ [.ref pe])) b = some o := fun b o hb eb => by rw [upd_ne hb]; exact eb
  have f1 : upd J1 le (.lst (zs.map (·.1) ++ [.ref pe])) le = some (.lst (zs.map (·.1) ++ [.ref pe])) := upd_same
  generalize upd J1 le (.lst (zs.map (·.1) ++ [.ref pe])) = J2 at kp f1
  have f2 := kp _ _ I1.ne.symm I1.e2
  have c2 := kp _ _ pl c1
  obtain ⟨r, er⟩ := chD_cons ch
  have c2' : SqT K J2 p (.str (SL (chW ch)) :: r) := SqT.of (by rw [c2, er])
  refine ixT c2' (atV_0 _ _) ⟨rfl, ?_⟩
  by_cases hu : chW ch = [117, 110, 100, 111]
  · obtain ⟨k, rfl⟩ := chW_undo hu
    have c3 : SqT K J2 p [.str (SL [117, 110, 100, 111]), .int k] := SqT.of c2
    refine ite_t rfl ⟨.inl ⟨rfl, _, SqL.of f2⟩, ixT c3 (atV_1 _ _ _) ⟨ll, _, k, rfl, rfl, f2, h4, le_line (by omega), fin pe _ (I1.step (H' := upd J2 ll (.lst (((standF (chs zs)).erase k).map V.int))) e1 c1 (fun b o b1 b2 eb => ?_) ?_ upd_same h1 h2 h3 h4)⟩⟩
    · rw [upd_ne b2]
      exact kp b o b1 eb
    · rw [upd_ne I1.ne]
      exact f1
  · obtain ⟨d1, d2⟩ := chW_none ch hu zs.length (standF (chs zs))
    refine ite_f (str_ne hu) (ixT c2' (atV_0 _ _) ⟨rfl, ?_⟩)
    by_cases tm : isTm ch = true
    · rw [if_pos tm] at d2
      rw [tm] at d1
      have nm := of_decide_eq_false d1
      refine ite_t (str_ne fun z => nm (by rw [z]; decide)) (ixT c2' (atV_0 _ _) ⟨rfl, ite_t (str_ne fun z => nm (by rw [z]; decide)) ⟨.inl ⟨rfl, _, SqL.of f2⟩, ll, _, _, rfl, rfl, f2, le_line (show ((standF (chs zs)).map V.int).length + 1 ≤ 1000 by rw [List.length_map]; omega), fin pe _ (I1.step (H' := upd J2 ll (.lst ((standF (chs zs)).map V.int ++ [.int (0 + (zs.length : Int))]))) e1 c1 (fun b o b1 b2 eb => ?_) ?_ ?_ h1 h2 h3 h4)⟩⟩)
      · rw [upd_ne b2]
        exact kp b o b1 eb
      · rw [upd_ne I1.ne]
        exact f1
      · rw [upd_same, d2, List.map_append, Int.zero_add]
        rfl
    · rw [if_neg tm] at d2
      have fn : G J2 := fin pe _ (I1.step e1 c1 (fun b o b1 b2 eb => kp b o b1 eb) f1 (by rw [d2]; exact f2) h1 h2 h3 h4)
      have mm : chW ch ∈ [[103, 114, 97, 110, 116], [98, 97, 99, 107]] := of_decide_eq_true (by rw [d1]; rw [Bool.not_eq_true] at tm; rw [tm]; rfl)
      simp only [List.mem_cons, List.not_mem_nil, or_false] at mm
      rcases mm with e | e
      · exact ite_f (fun z => z (by rw [e])) fn
      · exact ite_t (str_ne (by rw [e]; decide)) (ixT c2' (atV_0 _ _) ⟨rfl, ite_f (fun z => z (by rw [e])) fn⟩)
def spEntries (K : PySem.W.Frag) : Sp := fun vs H Q _ => ∃ (a : Addr) (ns : List Int) (pa la : Addr) (f : Int) (dy : Bool) (c : Int) (zs : List (V × Pl)) (st : Int), vs = [.ref a, .ref pa, .int st] ∧ SqL K H a (ns.map V.int) ∧ ns.length ≤ 63 ∧ 0 ≤ st ∧ st ≤ 10 ∧ AccZ K H pa la f dy c zs ∧ ∀ le ys H', Same H H' → EnsAt K H' ys → EnsOk (zs.map fun z => z.2.1) f (Cal.beg f dy c 60) ys → ys.length ≤ 40 → H' le = some (.lst (ys.map (·.1))) → Q (.ref le) H'
theorem sc_xL_entries : FnScope ["_law_script", "_law_account_here", "_law_start", "_law_m", "_law_first", "_law_far", "_law_wide", "_law_numbers", "_law_k", "_law_entered", "_law_entries_here", "_law_free", "_law_n", "_law_own", "_law_change_here"] ["_law_script", "_law_account_here", "_law_start"] (defScope s_xL_entries) := ⟨rfl, rfl, rfl, by decide +kernel, rfl, by decide +kernel, by decide +kernel⟩
theorem ok_xL_entries (T : Txt K mg t) : FnOk P w K mg base (CXE P w) 6 t.a_xL_entries t.d_xL_entries ["_law_script", "_law_account_here", "_law_start"] (spEntries K) := by
  refine T.fn_xL_entries.okX sc_xL_entries (fun vs H Q E h => ?_) (fun cdv A outer s H vs Q E L hr h => ?_)
  · obtain ⟨a, ns, pa, la, f, dy, c, zs, st, rfl, hS, h63, st0, st1, hz, q⟩ := h
    rfl
  obtain ⟨a, ns, pa, la, f, dy, c, zs, st, rfl, hS, h63, st0, st1, hz, q⟩ := h
  have nd := sc_xL_entries.nd
  refine ⟨_, (pss_cons (ps_set (i := 3) nd rfl (Or.inl rfl) (pe_callX L.toLv (ok_xL_mixed T) (hr.mono (by decide)) (by rfl) T.mg_xL_mixed T.fn_xL_mixed.kp T.b_xL_mixed .nil (pa_cons (pe_callX L.toLv (ok_xL_cell_at T) (hr.mono (by decide)) (by rfl) T.mg_xL_cell_at T.fn_xL_cell_at.kp T.b_xL_cell_at .nil (pa_cons (pv 0) (pa_cons (pv 2) pa_nil star_Name) star_Name)) (pa_cons pe_int pa_nil star_Constant) star_Call))) (pss_cons (ps_set (i := 4) nd rfl (Or.inr rfl) (pe_ix ix_tup (pv 1) pe_int (fun _ _ => rfl))) (pss_cons (ps_set (i := 5) nd rfl (Or.inl rfl) (pe_op op_sub (pe_callX L.toLv (ok_begin_of T) (hr.mono (by decide)) (by rfl) T.mg_begin_of T.fn_begin_of.kp T.b_begin_of .nil (pa_cons (pv 4) (pa_cons (pe_ix ix_tup (pv 1) pe_int (fun _ _ => rfl)) (pa_cons pe_int pa_nil star_Constant) star_Subscript) star_Name)) (pv 4))) (pss_cons (ps_set (i := 6) nd rfl (Or.inr rfl) (pe_op op_sub (pe_callX L.toLv (ok_begin_of T) (hr.mono (by decide)) (by rfl) T.mg_begin_of T.fn_begin_of.kp T.b_begin_of .nil (pa_cons (pv 4) (pa_cons (pe_ix ix_tup (pv 1) pe_int (fun _ _ => rfl)) (pa_cons (pe_ix ix_list (pe_lstS (pa_cons pe_int (pa_cons pe_int (pa_cons pe_int (pa_cons pe_int (pa_cons pe_int (pa_cons pe_int (pa_cons pe_int (pa_cons pe_int pa_nil star_Constant) star_Constant) star_Constant) star_Constant) star_Constant) star_Constant) star_Constant) star_Constant)) (pe_op op_mod (pe_op op_fdiv (pv 3) pe_int) pe_int) (fun _ _ => rfl)) pa_nil star_Subscript) star_Subscript) star_Name)) (pv 4))) (pss_cons (ps_set (i := 7) nd rfl (Or.inl rfl) (pe_lstS pa_nil)) (pss_cons (ps_for (by passes_own) rfl (pi_range1 (by rfl) T.no_range (pa_cons (pe_ix ix_list (pe_lstS (pa_cons (pe_op op_mod (pv 3) pe_int) (pa_cons pe_int pa_nil star_Constant) star_BinOp)) (pe_callTy call_int1 (by rfl) T.no_int bb_int (pa_cons (pe_cmpR op_eq (pe_op op_mod (pe_op op_fdiv (pv 3) pe_int) pe_int) pe_int (nomark _)) pa_nil)) (fun _ _ => rfl)) pa_nil)) (pg_name (i := 8) nd rfl (Or.inl rfl)) (pss_one (ps_expr (pe_bm PySem.F.plainAttrs_list PySem.F.slot_list_append PySem.F.type_list_append mt_append (pv 7) (pa_cons (pe_callX L.toLv (ok_xL_mixed T) (hr.mono (by decide)) (by rfl) T.mg_xL_mixed T.fn_xL_mixed.kp T.b_xL_mixed .nil (pa_cons (pe_op op_add (pe_callX L.toLv (ok_xL_cell_at T) (hr.mono (by decide)) (by rfl) T.mg_xL_cell_at T.fn_xL_cell_at.kp T.b_xL_cell_at .nil (pa_cons (pv 0) (pa_cons (pe_op op_add (pe_op op_add (pv 2) pe_int) (pv 8)) pa_nil star_BinOp) star_Name)) (pe_op op_mul (pv 3) (pe_op op_add (pv 8) pe_int))) (pa_cons (pv 8) pa_nil star_Name) star_BinOp)) pa_nil))))) (pss_cons (ps_set (i := 9) nd rfl (Or.inl rfl) (pe_callB call_sortedI (by rfl) T.no_sorted bb_sorted (pa_cons (pe_comp (n := 1) (N := ["_law_number", "_law_first", "_law_wide"]) (js := [4, 6]) (by rfl) rfl rfl (pi_list (pv 7)) (fun a => (pg_name (i := 0) (show List.Nodup (["_law_number", "_law_first", "_law_wide"] : List Str) from by decide +kernel) rfl (Or.inl rfl))) (fun a => pif_nil) (fun a => (pe_op op_add (pv 1) (pe_op op_mod (pv 0) (pv 2))))) pa_nil))) (pss_cons (ps_set (i := 10) nd rfl (Or.inl rfl) (pe_lstS pa_nil)) (pss_cons (ps_set (i := 11) nd rfl (Or.inl rfl) (pe_lstS pa_nil)) (pss_cons (ps_for (by passes_own) rfl (pi_range1 (by rfl) T.no_range (pa_cons (pe_callB call_len_seq (by rfl) T.no_len bb_len (pa_cons (pv 7) pa_nil)) pa_nil)) (pg_name (i := 8) nd rfl (Or.inl rfl)) (pss_cons (ps_set (i := 12) nd rfl (Or.inl rfl) (pe_op op_fdiv (pe_ix ix_list (pv 7) (pv 8) (fun _ _ => rfl)) pe_int)) (pss_cons (ps_set (i := 13) nd rfl (Or.inl rfl) (pe_ix ix_list (pe_lstS (pa_cons (pe_ix ix_list (pv 9) (pv 8) (fun _ _ => rfl)) (pa_cons (pe_op op_add (pv 4) (pe_op op_mod (pv 12) (pv 5))) (pa_cons (pe_ix ix_list (pv 9) (pe_op op_mod (pv 12) (pe_callB call_len_seq (by rfl) T.no_len bb_len (pa_cons (pv 7) pa_nil))) (fun _ _ => rfl)) pa_nil star_Subscript) star_BinOp) star_Subscript)) (pe_op op_mod (pe_ix ix_list (pv 7) (pv 8) (fun _ _ => rfl)) pe_int) (fun _ _ => rfl))) (pss_cons (ps_set (i := 14) nd rfl (Or.inl rfl) (pe_callX L.toLv (ok_xL_change T) (hr.mono (by decide)) (by rfl) T.mg_xL_change T.fn_xL_change.kp T.b_xL_change .nil (pa_cons (pv 1) (pa_cons (pe_callX L.toLv (ok_xL_mixed T) (hr.mono (by decide)) (by rfl) T.mg_xL_mixed T.fn_xL_mixed.kp T.b_xL_mixed .nil (pa_cons (pe_ix ix_list (pv 7) (pv 8) (fun _ _ => rfl)) (pa_cons pe_int pa_nil star_Constant) star_Subscript)) (pa_cons (pv 13) (pa_cons (pv 11) pa_nil star_Name) star_Name) star_Call) star_Name))) (pss_cons (ps_expr (pe_bm PySem.F.plainAttrs_list PySem.F.slot_list_append PySem.F.type_list_append mt_append (pv 10) (pa_cons (pe_tupS (pa_cons (pe_ix ix_list (pv 9) (pv 8) (fun _ _ => rfl)) (pa_cons (pv 14) pa_nil star_Name) star_Subscript)) pa_nil))) (pss_one (ps_if (pt_cmpR op_eq (pe_ix ix_tup (pv 14) pe_int (fun _ _ => rfl)) (pe_strL st_10) (nomark _)) (pss_one (ps_expr (pe_bm PySem.F.plainAttrs_list PySem.F.slot_list_remove PySem.F.type_list_remove mt_remove (pv 11) (pa_cons (pe_ix ix_tup (pv 14) pe_int (fun _ _ => rfl)) pa_nil)))) (pss_one (ps_if (pw_and (pt_cmpR op_ne (pe_ix ix_tup (pv 14) pe_int (fun _ _ => rfl)) (pe_strL st_9) (nomark _)) (pw_and1 (pt_cmpR op_ne (pe_ix ix_tup (pv 14) pe_int (fun _ _ => rfl)) (pe_strL st_11) (nomark _)))).pt (pss_one (ps_expr (pe_bm PySem.F.plainAttrs_list PySem.F.slot_list_append PySem.F.type_list_append mt_append (pv 11) (pa_cons (pv 8) pa_nil)))) pss_nil))))))))) (pss_one (ps_ret (pv 10))))))))))))), ?_⟩
  obtain ⟨pc, f0, f1, hc, ep⟩ := id hz.1
  have b0 : Cal.beg f dy c 0 = f := Cal.beg_zero f0 f1
  have bl : f < Cal.beg f dy c 60 := by have := Cal.beg_lt (k := 0) (j := 60) f0 f1 hc.2 (by decide) (by decide) (by decide); omega
  open_k0
  refine ⟨a, ns, st, rfl, hS, h63, by omega, _, 9, rfl, by decide, by decide, fun m m0 m1 => ?_⟩
  have hT := SqT.of (K := K) ep
  refine ixT hT (at_1 _ _ _) (ixT hT (at_2 _ _ _ _) ⟨f, pc, dy, c, 10, rfl, f0, f1, hc, fun _ _ H1 s1 => ?_, fun z => absurd z (by decide), fun z => absurd z (by decide)⟩)
  refine ⟨_, rfl, _, rfl, ixT (s1.sqT hT) (at_2 _ _ _ _) (fun p1 H2 _ s2 e2 => ⟨_, rfl, ?_⟩)⟩
  have e2' : H2 p1 = some (.lst (([8, 8, 8, 8, 8, 8, 2, 59] : List Int).map V.int)) := e2
  have i8 : 0 ≤ m / 120 % 8 ∧ m / 120 % 8 < 8 := by omega
  have bw := getD_in (xs := [8, 8, 8, 8, 8, 8, 2, 59]) (lo := 2) (hi := 59) (fun x hx => by
    simp only [List.mem_cons, List.not_mem_nil, or_false] at hx
    rcases hx with rfl | rfl | rfl | rfl | rfl | rfl | rfl | rfl <;> decide) i8.1 i8.2
  refine ixL (SqL.of e2') (at_ints i8.1 i8.2) ?_
  clear e2 e2'
  generalize ([8, 8, 8, 8, 8, 8, 2, 59] : List Int).getD (m / 120 % 8).toNat 0 = wk at bw ⊢
  refine ⟨f, pc, dy, c, wk, rfl, f0, f1, hc.same (s1.trans s2), fun _ _ H3 s3 => ?_, fun z => absurd z (by omega), fun z => absurd z (by omega)⟩
  refine ⟨_, rfl, _, rfl, fun ln H4 hln s4 e4 => ?_⟩
  have g1 := Cal.beg_lt (k := 0) (j := 10) f0 f1 hc.2 (by decide) (by decide) (by decide)
  have g2 := Cal.beg_le (k := 10) (j := 60) f0 f1 hc.2 (by decide) (by decide) (by decide)
  have g3 := Cal.beg_lt (k := 0) (j := wk) f0 f1 hc.2 (by decide) (by omega) (by omega)
  have g4 := Cal.beg_le (k := wk) (j := 60) f0 f1 hc.2 (by omega) (by omega) (by decide)
  rw [b0] at g1 g3
  have fa : 0 < Cal.beg f dy c 10 - f ∧ f + (Cal.beg f dy c 10 - f) ≤ Cal.beg f dy c 60 := by omega
  have wa : 0 < Cal.beg f dy c wk - f ∧ f + (Cal.beg f dy c wk - f) ≤ Cal.beg f dy c 60 := by omega
  generalize Cal.beg f dy c 10 - f = far at fa ⊢
  generalize Cal.beg f dy c wk - f = wide at wa ⊢
  clear g1 g2 g3 g4
  have s04 := ((s1.trans s2).trans s3).trans s4
  have nln : H ln = none := ((s1.trans s2).trans s3).none hln
  ((try dsimp only); refine for_by fun R hR => ?_; simp only [tSortK, iVals, tDNewS, tDIn, tDNotIn, sDPut, tDPop1, tDGet2, tDGet, tCallKX, kwG_one, tEither, tTupS, tLstS, comp_K, capσ, sub_nil, sub_none, sub_some, tYes, List.replicate, Option.join_some, Option.join_none, SL_inj, iStr, tPart, tNoPart, tSl, tLst, tTup, cx_K, slT, CDiv, Int.reduceLT, Int.reduceLE, Int.reduceToNat, Int.reduceNeg, Int.reduceAdd, Int.reduceSub, Int.reduceMul, forall_const, tSeq, tNext, tIfS, tRet, tRetN, tDrop, tAsg, gName, gCons, gNil, tVar, tC, tOp, rI, rI0, tUn, rU, tTest, tB, tAnd, tOr, tNot, tAndV, tOrV, tNotV, tIf, tCons, tNil, tCallX, tCallL, tCB, sRaise, rEq, rNe, scal_ii, scal_bb, scal_ss, scal_ni, scal_in, tChain, tAug, ipI, L2.start, List.map_cons, List.map_nil, List.length_cons, List.length_nil, List.cons_append, List.nil_append, List.append_nil, List.replicate_succ, List.replicate_zero, Nat.reduceAdd, Nat.reduceSub, List.getElem?_cons_zero, List.getElem?_cons_succ, List.set_cons_zero, List.set_cons_succ, Option.some.injEq, V.int.injEq, V.bl.injEq, V.ref.injEq, V.str.injEq, exists_eq_left', exists_eq_left, exists_eq', exists_and_left, List.cons.injEq, and_true, true_and, and_self, and_assoc, decide_eq_true_eq, if_true, if_false, Bool.true_eq_false, Bool.false_eq_true, Bool.not_eq_true', Bool.not_true, Bool.not_false, decide_eq_false_iff_not, ite_true, ite_false, reduceCtorEq, false_and, exists_false, false_or, or_false, and_false, iList, iTup, iZip, iEnum, iRng1, iRng2, Nat.reduceLeDiff])
  intro p5 H5 _ s5 e5
  obtain ⟨mn, emn, mn1⟩ : ∃ mn : Nat, atI [V.int (m % 15), V.int 40] (if m / 15 % 8 = 5 then 1 else 0) = some (.int mn) ∧ mn ≤ 40 := by
    by_cases z : m / 15 % 8 = 5
    · rw [if_pos z]
      exact ⟨40, rfl, by decide⟩
    · rw [if_neg z]
      exact ⟨(m % 15).toNat, by rw [Int.toNat_of_nonneg (by omega)]; rfl, by omega⟩
  refine ixL (SqL.of e5) emn ⟨_, rfl, by omega, by omega, hR _ _ ?_⟩
  clear hR
  rw [Int.toNat_natCast]
  obtain ⟨Pv, hPv⟩ : ∃ Pv : Nat → St → Hp → Prop, Pv = fun i σ1 H6 => Same H H6 ∧ ∃ (xs : List Int) (x8 : Option V), xs.length = i ∧ (∀ x ∈ xs, 0 ≤ x) ∧ H6 ln = some (.lst (xs.map V.int)) ∧ σ1 = [some (.ref a), some (.ref pa), some (.int st), some (.int m), some (.int f), some (.int far), some (.int wide), some (.ref ln), x8, none, none, none, none, none, none] := ⟨_, rfl⟩
  refine for_range (n := mn) Pv (by rw [hPv]; exact ⟨s04.trans s5, [], _, rfl, (fun _ h => nomatch h), s5 _ _ e4, rfl⟩) (fun i σ1 H6 hi h => ?_) (fun σ1 H6 h => ?_)
  · rw [hPv] at h
    obtain ⟨s6, xs, x8, xl, x0, e6, rfl⟩ := h
    lgec_open0
    refine ⟨.inl ⟨rfl, _, SqL.of e6⟩, a, ns, _, rfl, s6.seq hS, h63, by omega, .inl ⟨by omega, by omega⟩, _, rfl, _, _, rfl, by omega, by omega, fun r r0 _ => ⟨ln, _, _, rfl, rfl, e6, small1000 (show (xs.map V.int).length ≤ 1000 by rw [List.length_map]; omega), ?_⟩⟩
    rw [hPv]
    exact ⟨s6.put nln _, xs ++ [r], _, by rw [List.length_append, xl]; rfl, fun x hx => by
      rcases List.mem_append.mp hx with z | z
      · exact x0 x z
      · rw [List.mem_singleton.mp z]; exact r0, by rw [upd_same, List.map_append]; rfl, rfl⟩
  · rw [hPv] at h
    obtain ⟨s6, xs, x8, xl, x0, e6, rfl⟩ := h
    simp only [tSortK, iVals, tDNewS, tDIn, tDNotIn, sDPut, tDPop1, tDGet2, tDGet, tCallKX, kwG_one, tEither, tTupS, tLstS, comp_K, capσ, sub_nil, sub_none, sub_some, tYes, List.replicate, Option.join_some, Option.join_none, SL_inj, iStr, tPart, tNoPart, tSl, tLst, tTup, cx_K, slT, CDiv, Int.reduceLT, Int.reduceLE, Int.reduceToNat, Int.reduceNeg, Int.reduceAdd, Int.reduceSub, Int.reduceMul, forall_const, tSeq, tNext, tIfS, tRet, tRetN, tDrop, tAsg, gName, gCons, gNil, tVar, tC, tOp, rI, rI0, tUn, rU, tTest, tB, tAnd, tOr, tNot, tAndV, tOrV, tNotV, tIf, tCons, tNil, tCallX, tCallL, tCB, sRaise, rEq, rNe, scal_ii, scal_bb, scal_ss, scal_ni, scal_in, tChain, tAug, ipI, L2.start, List.map_cons, List.map_nil, List.length_cons, List.length_nil, List.cons_append, List.nil_append, List.append_nil, List.replicate_succ, List.replicate_zero, Nat.reduceAdd, Nat.reduceSub, List.getElem?_cons_zero, List.getElem?_cons_succ, List.set_cons_zero, List.set_cons_succ, Option.some.injEq, V.int.injEq, V.bl.injEq, V.ref.injEq, V.str.injEq, exists_eq_left', exists_eq_left, exists_eq', exists_and_left, List.cons.injEq, and_true, true_and, and_self, and_assoc, decide_eq_true_eq, if_true, if_false, Bool.true_eq_false, Bool.false_eq_true, Bool.not_eq_true', Bool.not_true, Bool.not_false, decide_eq_false_iff_not, ite_true, ite_false, reduceCtorEq, false_and, exists_false, false_or, or_false, and_false, tComp, iList, Nat.reduceLeDiff]
    refine ⟨⟨_, SqL.of e6⟩, fun lc hlc aa => ?_⟩
    refine comp_by (fun j ys _ => ∃ ds : List Int, ys = ds.map V.int ∧ ds.length = j ∧ ∀ d ∈ ds, f ≤ d ∧ d < f + wide) (lists_lst (SqL.of e6)) hlc (by rw [List.length_map]; exact small_len (by omega)) (fun _ _ => ⟨[], rfl, rfl, (fun _ h => nomatch h)⟩) (fun j y ys H8 K1 K0 hx sm pv hl k1 k0 => ?_) (fun ys H7 s7 pv _ w7 => ?_)
    · rw [List.getElem?_map] at hx
      obtain ⟨u, hu, rfl⟩ := Option.map_eq_some_iff.mp hx
      obtain ⟨ds, rfl, dl, db⟩ := pv
      lge_open0
      have r0 := Int.emod_nonneg u (show wide ≠ 0 by omega)
      have r1 := Int.emod_lt_of_pos u wa.1
      refine ⟨wa.1, k1 _ _ (Same.refl _) fun H5 _ => ⟨ds ++ [f + u % wide], by rw [List.map_append]; rfl, by rw [List.length_append, dl]; rfl, fun d hd => ?_⟩⟩
      rcases List.mem_append.mp hd with z | z
      · exact db d z
      · rw [List.mem_singleton.mp z]
        omega
    obtain ⟨ds, rfl, dl, db⟩ := pv
    rw [List.length_map] at dl
    refine ⟨lc, rfl, ds, w7, by omega, fun ws wp wo lw H8 hlw s8 e8 le H9 hle s9 e9 ll H10 hll s10 e10 => ?_⟩
    have wl : ws.length = xs.length := wp.length_eq.trans dl
    have wb : ∀ d ∈ ws, f ≤ d ∧ d < f + wide := fun d hd => db d (wp.mem_iff.mp hd)
    have s08 := (s6.trans s7).trans s8
    have e68 := s8 _ _ (s7 _ _ e6)
    have I0 : EnInv K H8 H10 le ll (zs.map fun z => z.2.1) f (Cal.beg f dy c 60) [] := by
      refine ⟨s9.trans s10, hle, s9.none hll, fun z => ?_, s10 _ _ e9, e10, fun z hz => (nomatch hz), EnsOk.nil⟩
      rw [← z, e9] at hll
      cases hll
    have hz8 := hz.same s08
    ((try dsimp only); refine for_by fun R hR => ?_; simp only [tSortK, iVals, tDNewS, tDIn, tDNotIn, sDPut, tDPop1, tDGet2, tDGet, tCallKX, kwG_one, tEither, tTupS, tLstS, comp_K, capσ, sub_nil, sub_none, sub_some, tYes, List.replicate, Option.join_some, Option.join_none, SL_inj, iStr, tPart, tNoPart, tSl, tLst, tTup, cx_K, slT, CDiv, Int.reduceLT, Int.reduceLE, Int.reduceToNat, Int.reduceNeg, Int.reduceAdd, Int.reduceSub, Int.reduceMul, forall_const, tSeq, tNext, tIfS, tRet, tRetN, tDrop, tAsg, gName, gCons, gNil, tVar, tC, tOp, rI, rI0, tUn, rU, tTest, tB, tAnd, tOr, tNot, tAndV, tOrV, tNotV, tIf, tCons, tNil, tCallX, tCallL, tCB, sRaise, rEq, rNe, scal_ii, scal_bb, scal_ss, scal_ni, scal_in, tChain, tAug, ipI, L2.start, List.map_cons, List.map_nil, List.length_cons, List.length_nil, List.cons_append, List.nil_append, List.append_nil, List.replicate_succ, List.replicate_zero, Nat.reduceAdd, Nat.reduceSub, List.getElem?_cons_zero, List.getElem?_cons_succ, List.set_cons_zero, List.set_cons_succ, Option.some.injEq, V.int.injEq, V.bl.injEq, V.ref.injEq, V.str.injEq, exists_eq_left', exists_eq_left, exists_eq', exists_and_left, List.cons.injEq, and_true, true_and, and_self, and_assoc, decide_eq_true_eq, if_true, if_false, Bool.true_eq_false, Bool.false_eq_true, Bool.not_eq_true', Bool.not_true, Bool.not_false, decide_eq_false_iff_not, ite_true, ite_false, reduceCtorEq, false_and, exists_false, false_or, or_false, and_false, iList, iTup, iZip, iEnum, iRng1, iRng2, Nat.reduceLeDiff])
    refine ⟨_, .inl (SqL.of (s10 _ _ (s9 _ _ e68))), ?_⟩
    rw [List.length_map]
    refine ⟨by omega, by omega, hR _ _ ?_⟩
    clear hR
    rw [Int.toNat_natCast]
    obtain ⟨Pw, hPw⟩ : ∃ Pw : Nat → St → Hp → Prop, Pw = fun i σ1 H5 => ∃ (ys : List En) (x8 x12 x13 x14 : Option V), EnInv K H8 H5 le ll (zs.map fun z => z.2.1) f (Cal.beg f dy c 60) ys ∧ ys.length = i ∧ (∀ (j : Nat) y, ys[j]? = some y → ws[j]? = some y.2.2.1) ∧ σ1 = [some (.ref a), some (.ref pa), some (.int st), some (.int m), some (.int f), some (.int far), some (.int wide), some (.ref ln), x8, some (.ref lw), some (.ref le), some (.ref ll), x12, x13, x14] := ⟨_, rfl⟩
    refine for_range (n := xs.length) Pw (by rw [hPw]; exact ⟨[], _, _, _, _, I0, rfl, (fun j y h => by rw [List.getElem?_nil] at h; cases h), rfl⟩) (fun i σ1 H5 hi hv => ?_) (fun σ1 H5 hv => ?_)
    · rw [hPw] at hv
      obtain ⟨ys, x8, x12, x13, x14, I5, rfl, yw, rfl⟩ := hv
      obtain ⟨u, hu⟩ : ∃ u, xs[ys.length]? = some u := ⟨xs[ys.length], List.getElem?_eq_getElem hi⟩
      obtain ⟨en, hen⟩ : ∃ en, ws[ys.length]? = some en := ⟨ws[ys.length]'(by omega), List.getElem?_eq_getElem _⟩
      have eb := wb en (List.mem_of_getElem? hen)
      have yle : ∀ y ∈ ys, y.2.2.1 ≤ en := fun y hy => by
        obtain ⟨j, hj, ej⟩ := List.mem_iff_getElem.mp hy
        have h1 := yw j y (by rw [List.getElem?_eq_getElem hj, ej])
        obtain ⟨j1, e1⟩ := List.getElem?_eq_some_iff.mp h1
        obtain ⟨j2, e2⟩ := List.getElem?_eq_some_iff.mp hen
        have := List.pairwise_iff_getElem.mp wo j ys.length j1 j2 hj
        rw [e1, e2] at this
        exact this
      have ax : atI (xs.map V.int) (0 + (ys.length : Int)) = some (.int u) := by rw [Int.zero_add]; exact atI_nat (by rw [List.getElem?_map, hu]; rfl)
      have aw : atI (ws.map V.int) (0 + (ys.length : Int)) = some (.int en) := by rw [Int.zero_add]; exact atI_nat (by rw [List.getElem?_map, hen]; rfl)
      have x5 := SqL.of (K := K) (I5.same _ _ e68)
      have w5 := SqL.of (K := K) (I5.same _ _ e8)
      lgec_open0
      refine ixL x5 ax ⟨_, rfl, ixL w5 aw ⟨fa.1, _, .inl x5, ?_⟩⟩
      rw [List.length_map]
      have i1 : 0 ≤ u / 3 % (xs.length : Int) ∧ u / 3 % (xs.length : Int) < xs.length := ⟨Int.emod_nonneg _ (by omega), Int.emod_lt_of_pos _ (by omega)⟩
      obtain ⟨j, hj⟩ := Int.eq_ofNat_of_zero_le i1.1
      rw [hj] at i1 ⊢
      obtain ⟨en2, hen2⟩ : ∃ en2, ws[j]? = some en2 := ⟨ws[j]'(by omega), List.getElem?_eq_getElem _⟩
      have eb2 := wb en2 (List.mem_of_getElem? hen2)
      refine ⟨by omega, ixL w5 (v := .int en2) (atI_nat (by rw [List.getElem?_map, hen2]; rfl)) (fun p6 J1 _ u1 g1 => ?_)⟩
      have fb : 0 ≤ u / 3 % far ∧ u / 3 % far < far := ⟨Int.emod_nonneg _ (by omega), Int.emod_lt_of_pos _ fa.1⟩
      generalize u / 3 % far = fr at fb g1
      have g1' : J1 p6 = some (.lst (([en, f + fr, en2] : List Int).map V.int)) := g1
      have i3 : 0 ≤ u % 3 ∧ u % 3 < 3 := by omega
      have ob := getD_in (xs := [en, f + fr, en2]) (lo := f) (hi := Cal.beg f dy c 60 - 1) (fun x hx => by
        simp only [List.mem_cons, List.not_mem_nil, or_false] at hx
        rcases hx with rfl | rfl | rfl <;> omega) i3.1 i3.2
      refine ixL (u1.seq x5) ax ⟨_, rfl, ixL (SqL.of g1') (at_ints i3.1 i3.2) (ixL (u1.seq x5) ax ⟨_, 7, rfl, by decide, by decide, fun r _ _ => ?_⟩)⟩
      clear g1 g1'
      generalize ([en, f + fr, en2] : List Int).getD (u % 3).toNat 0 = own at ob ⊢
      have I14 := I5.same' u1
      refine ⟨pa, ll, la, f, dy, c, zs, r, own, _, rfl, hz8.same I14.same, SqL.of I14.e2, fun p ch J5 u5 ok5 e5 => ⟨.inl ⟨rfl, _, SqL.of (u5 _ _ I14.e1)⟩, ixL ((u1.trans u5).seq w5) aw ?_⟩⟩
      have I15 := I14.same' u5
      refine en_tail2 I15 (by omega) e5 (by omega) (by omega) yle (chIn_of ok5 (by omega) (by omega)) fun pe H' I' => ?_
      rw [hPw]
      refine ⟨_, _, _, _, _, I', by rw [List.length_append]; rfl, fun j y h => ?_, rfl⟩
      rw [List.getElem?_append] at h
      by_cases jl : j < ys.length
      · rw [if_pos jl] at h
        exact yw j y h
      · rw [if_neg jl] at h
        have j0 : j - ys.length = 0 := by
          rcases Nat.lt_or_ge (j - ys.length) 1 with z | z
          · omega
          · rw [List.getElem?_eq_none (by simpa using z)] at h; cases h
        rw [j0] at h
        cases h
        obtain rfl : j = ys.length := by omega
        exact hen
    · rw [hPw] at hv
      obtain ⟨ys, x8, x12, x13, x14, I5, yl, yw, rfl⟩ := hv
      open_k0
      exact q le ys H5 (s08.trans I5.same) I5.at' I5.ok (by omega) I5.e1
def termL : List (List Nat) := [[112, 108, 97, 110], [115, 101, 97, 116, 115], [104, 111, 108, 100], [103, 111], [115, 116, 111, 112], [108, 97, 115, 116]]
theorem wordS_in (w : Nat) : wordS w ∈ termL ∧ wordS w ≠ [112, 108, 97, 110] ∧ wordS w ≠ [115, 101, 97, 116, 115] := by
  match w with
  | 0 => exact ⟨by decide, by decide, by decide⟩
  | 1 => exact ⟨by decide, by decide, by decide⟩
  | 2 => exact ⟨by decide, by decide, by decide⟩
  | n + 3 => exact ⟨(by decide : [108, 97, 115, 116] ∈ termL), (by decide : [108, 97, 115, 116] ≠ [112, 108, 97, 110]), (by decide : [108, 97, 115, 116] ≠ [115, 101, 97, 116, 115])⟩
theorem chW_term (c : Ch) : decide (chW c ∈ termL) = isTm c := by
  cases c with
  | plan => rfl
  | seats => rfl
  | word w _ => exact decide_eq_true (wordS_in w).1
  | undo => rfl
  | grant => rfl
  | back => rfl
def spIsTerm (K : PySem.W.Frag) : Sp := fun vs H Q _ => ∃ (p : Addr) (c : Ch), vs = [.ref p] ∧ SqT K H p ((chD c).map sv) ∧ Q (.bl (isTm c)) H
theorem sc_is_term : FnScope ["change"] ["change"] (defScope s_is_term) := ⟨rfl, rfl, rfl, by decide +kernel, rfl, by decide +kernel, by decide +kernel⟩
theorem ok_is_term (T : Txt K mg t) : FnOk P w K mg base (CXE P w) 1 t.a_is_term t.d_is_term ["change"] (spIsTerm K) := by
  refine T.fn_is_term.okX sc_is_term (fun vs H Q E h => ?_) (fun cdv A outer s H vs Q E L hr h => ?_)
  · obtain ⟨p, c, rfl, hp, q⟩ := h
    rfl
  obtain ⟨p, c, rfl, hp, q⟩ := h
  have nd := sc_is_term.nd
  obtain ⟨a_TERMS, h_TERMS, q_TERMS⟩ := T.k_TERMS
  have r_TERMS : RelV (.ref a_TERMS) (.ref a_TERMS) := rfl
  refine ⟨_, (pss_one (ps_ret (pe_cmpR op_in_seq (pe_ix ix_tup (pv 0) pe_int (fun _ _ => rfl)) (pe_glob (by rfl) h_TERMS r_TERMS) rfl))), ?_⟩
  obtain ⟨r, er⟩ := chD_cons c
  rw [er] at hp
  open_k0
  refine ixT hp (at_0 _ _) ⟨a_TERMS, _, rfl, .inr (q_TERMS _), rfl, rfl, ?_⟩
  have e : inV (.str (SL (chW c))) (termL.map fun x => V.str (SL x)) = isTm c := by rw [inV_strs, chW_term]
  exact e ▸ q
/-- an account with its plans -/
def Acc (K : PySem.W.Frag) (H : Hp) (p : Addr) (f : Int) (dy : Bool) (cc : Int) (zs : List (V × Pl)) : Prop := ∃ l, AccIs K H p l f dy cc ∧ SqL K H l (zs.map (·.1)) ∧ PlsAt K H zs ∧ 1 ≤ zs.length ∧ zs.length ≤ 8
theorem Acc.same {K : PySem.W.Frag} {H H' : Hp} {p : Addr} {f : Int} {dy : Bool} {cc : Int} {zs : List (V × Pl)} (h : Acc K H p f dy cc zs) (s : Same H H') : Acc K H' p f dy cc zs :=
  let ⟨l, h1, h2, h3, h4⟩ := h; ⟨l, h1.same s, s.seq h2, h3.same s, h4⟩
def nmsOf (zs : List (V × Pl)) : List (List Nat) := zs.map fun z => z.2.1
def spNamesOf (K : PySem.W.Frag) : Sp := fun vs H Q _ => ∃ (pa : Addr) (f : Int) (dy : Bool) (c : Int) (zs : List (V × Pl)), vs = [.ref pa] ∧ Acc K H pa f dy c zs ∧ ∀ r H', Same H H' → H' r = some (.lst ((nmsOf zs).map fun n => V.str (SL n))) → Q (.ref r) H'
theorem sc_names_of : FnScope ["account"] ["account"] (defScope s_names_of) := ⟨rfl, rfl, rfl, by decide +kernel, rfl, by decide +kernel, by decide +kernel⟩
theorem ok_names_of (T : Txt K mg t) : FnOk P w K mg base (CXE P w) 1 t.a_names_of t.d_names_of ["account"] (spNamesOf K) := by
  refine T.fn_names_of.okX sc_names_of (fun vs H Q E h => ?_) (fun cdv A outer s H vs Q E L hr h => ?_)
  · obtain ⟨pa, f, dy, c, zs, rfl, ⟨l, ⟨pc, f0, f1, hc, ep⟩, el, za, zo⟩, q⟩ := h
    rfl
  obtain ⟨pa, f, dy, c, zs, rfl, ⟨l, ⟨pc, f0, f1, hc, ep⟩, el, za, zo⟩, q⟩ := h
  have nd := sc_names_of.nd
  refine ⟨_, (pss_one (ps_ret (pe_comp (n := 1) (N := ["plan"]) (js := []) (by rfl) rfl rfl (pi_list (pe_ix ix_tup (pv 0) pe_int (fun _ _ => rfl))) (fun a => (pg_name (i := 0) (show List.Nodup (["plan"] : List Str) from by decide +kernel) rfl (Or.inl rfl))) (fun a => pif_nil) (fun a => (pe_ix ix_tup (pv 0) pe_int (fun _ _ => rfl)))))), ?_⟩
  open_k0
  obtain ⟨o1, o2⟩ := zo
  refine ⟨_, rfl, ?_⟩
  simp only [tC]
  refine ixT (SqT.of ep) (at_0 _ _) ?_
  refine ⟨l, rfl, ⟨_, el⟩, fun ln hln an => ?_⟩
  refine comp_by (fun j xs _ => xs = (zs.take j).map fun z => V.str (SL z.2.1)) (lists_lst el) hln (by rw [List.length_map]; exact small_len (by omega)) (fun _ _ => rfl) (fun j x xs H8 K1 K0 hx sm pv hl k1 k0 => ?_) (fun xs H8 s8 pv _ w8 => ?_)
  · obtain ⟨u, hu, rfl⟩ : ∃ u, zs[j]? = some u ∧ x = u.1 := by
      rw [List.getElem?_map] at hx
      obtain ⟨u, e, rfl⟩ := Option.map_eq_some_iff.mp hx
      exact ⟨u, e, rfl⟩
    obtain ⟨p, eu, hq⟩ := za u (List.mem_of_getElem? hu)
    rw [eu]
    lge_open0
    refine ixT (sm.sqT hq) (v := .str (SL u.2.1)) rfl (k1 _ _ (Same.refl _) fun H5 _ => ?_)
    rw [pv, List.take_add_one, hu, List.map_append]
    rfl
  rw [List.length_map, List.take_length] at pv
  subst pv
  exact q ln H8 s8 (by rw [w8, nmsOf, List.map_map]; rfl)
def spFitsTerm (K : PySem.W.Frag) : Sp := fun vs H Q _ => ∃ (pa p : Addr) (f : Int) (dy : Bool) (cc : Int) (zs : List (V × Pl)) (c : Ch) (L : List Int), vs = [.ref pa, .ref p] ∧ Acc K H pa f dy cc zs ∧ SqT K H p ((chD c).map sv) ∧ isTm c = true ∧ ChIn (nmsOf zs) f (Cal.beg f dy cc 60) L c ∧ ∀ H', Same H H' → Q (.bl true) H'
theorem sc_fits_term : FnScope ["account", "change", "word"] ["account", "change"] (defScope s_fits_term) := ⟨rfl, rfl, rfl, by decide +kernel, rfl, by decide +kernel, by decide +kernel⟩
theorem ok_fits_term (T : Txt K mg t) : FnOk P w K mg base (CXE P w) 8 t.a_fits_term t.d_fits_term ["account", "change"] (spFitsTerm K) := by
  refine T.fn_fits_term.okX sc_fits_term (fun vs H Q E h => ?_) (fun cdv A outer s H vs Q E L hr h => ?_)
  · obtain ⟨pa, p, f, dy, cc, zs, c, Ls, rfl, ha, hp, tm, ci, q⟩ := h
    rfl
  obtain ⟨pa, p, f, dy, cc, zs, c, Ls, rfl, ha, hp, tm, ci, q⟩ := h
  have nd := sc_fits_term.nd
  obtain ⟨u_MOST_SEATS, h_MOST_SEATS, r_MOST_SEATS⟩ := T.k_MOST_SEATS
  refine ⟨_, (pss_cons (ps_if (pw_or (pt_cmpR op_lt (pe_callB call_len_seq (by rfl) T.no_len bb_len (pa_cons (pv 1) pa_nil)) pe_int (nomark _)) (pw_or1 (pt_not (pt_val (pe_callX L.toLv (ok_is_day_of T) (hr.mono (by decide)) (by rfl) T.mg_is_day_of T.fn_is_day_of.kp T.b_is_day_of .nil (pa_cons (pv 0) (pa_cons (pe_ix ix_tup (pv 1) pe_int (fun _ _ => rfl)) pa_nil star_Subscript) star_Name)))))).pt (pss_one (ps_ret pe_bl)) pss_nil) (pss_cons (ps_set (i := 2) nd rfl (Or.inl rfl) (pe_ix ix_tup (pv 1) pe_int (fun _ _ => rfl))) (pss_cons (ps_if (pt_cmpR op_eq (pv 2) (pe_strL st_7) (nomark _)) (pss_one (ps_ret (pe_and (pe_cmpR op_eq (pe_callB call_len_seq (by rfl) T.no_len bb_len (pa_cons (pv 1) pa_nil)) pe_int (nomark _)) (pe_one (pe_cmpR op_in_seq (pe_ix ix_tup (pv 1) pe_int (fun _ _ => rfl)) (pe_callX L.toLv (ok_names_of T) (hr.mono (by decide)) (by rfl) T.mg_names_of T.fn_names_of.kp T.b_names_of .nil (pa_cons (pv 0) pa_nil)) rfl))))) pss_nil) (pss_cons (ps_if (pt_cmpR op_eq (pv 2) (pe_strL st_8) (nomark _)) (pss_one (ps_ret (pe_and (pe_cmpR op_eq (pe_callB call_len_seq (by rfl) T.no_len bb_len (pa_cons (pv 1) pa_nil)) pe_int (nomark _)) (pe_one (pe_callX L.toLv (ok_is_whole_between T) (hr.mono (by decide)) (by rfl) T.mg_is_whole_between T.fn_is_whole_between.kp T.b_is_whole_between .nil (pa_cons (pe_ix ix_tup (pv 1) pe_int (fun _ _ => rfl)) (pa_cons pe_int (pa_cons (pe_glob (by rfl) h_MOST_SEATS r_MOST_SEATS) pa_nil star_Name) star_Constant) star_Subscript)))))) pss_nil) (pss_one (ps_ret (pe_cmpR op_eq (pe_callB call_len_seq (by rfl) T.no_len bb_len (pa_cons (pv 1) pa_nil)) pe_int (nomark _)))))))), ?_⟩
  have ha' := ha
  obtain ⟨l, hi, _, _, _⟩ := ha'
  have day : ∀ {d : Int}, f ≤ d → d < Cal.beg f dy cc 60 → btw f (Cal.beg f dy cc 60 - 1) (.int d) = true := fun h1 h2 => by
    show (decide (f ≤ _) && decide (_ ≤ Cal.beg f dy cc 60 - 1)) = true
    rw [decide_eq_true h1, decide_eq_true (by omega)]
    rfl
  cases c with
  | plan d nm =>
    obtain ⟨d0, d1, hn⟩ := ci
    have hp : SqT K H p [.str (SL [112, 108, 97, 110]), .int d, .str (SL nm)] := hp
    open_k0
    refine ⟨_, .inr hp, ite_f (by show ¬ ((3 : Nat) : Int) < 2; decide) (ixT hp (at_1 _ _ _) ⟨pa, l, f, dy, cc, .int d, rfl, .inl ⟨_, rfl⟩, hi, fun H1 s1 => ⟨_, rfl, ite_f (by rw [day d0 d1]; decide) (ixT (s1.sqT hp) (at_0 _ _) ⟨rfl, ite_t rfl ⟨_, .inr (s1.sqT hp), ite_t rfl (ixT (s1.sqT hp) (at_2 _ _ _ _) ?_)⟩⟩)⟩⟩)⟩
    refine ⟨pa, f, dy, cc, zs, rfl, ha.same s1, fun r H2 s2 e2 => ⟨r, _, rfl, .inl (SqL.of e2), rfl, ?_, ?_⟩⟩
    · rw [List.all_map, List.all_eq_true]
      intro z _
      rfl
    · rw [inV_strs, decide_eq_true hn]
      exact q H2 (s1.trans s2)
  | seats d n =>
    obtain ⟨d0, d1, n0, n1⟩ := ci
    have hp : SqT K H p [.str (SL [115, 101, 97, 116, 115]), .int d, .int n] := hp
    open_k0
    refine ⟨_, .inr hp, ite_f (by show ¬ ((3 : Nat) : Int) < 2; decide) (ixT hp (at_1 _ _ _) ⟨pa, l, f, dy, cc, .int d, rfl, .inl ⟨_, rfl⟩, hi, fun H1 s1 => ⟨_, rfl, ite_f (by rw [day d0 d1]; decide) (ixT (s1.sqT hp) (at_0 _ _) ⟨rfl, ite_f (str_ne (by decide)) ⟨rfl, ite_t rfl ⟨_, .inr (s1.sqT hp), ite_t rfl (ixT (s1.sqT hp) (at_2 _ _ _ _) ?_)⟩⟩⟩)⟩⟩)⟩
    refine ⟨.int n, _, _, rfl, .inl ⟨_, rfl⟩, ?_⟩
    have e : btw 0 1000000 (.int n) = true := by
      show (decide (0 ≤ n) && decide (n ≤ 1000000)) = true
      rw [decide_eq_true n0, decide_eq_true n1]
      rfl
    rw [e]
    exact q H1 s1
  | word w d =>
    obtain ⟨_, d0, d1⟩ := ci
    have hp : SqT K H p [.str (SL (wordS w)), .int d] := hp
    open_k0
    obtain ⟨_, w1, w2⟩ := wordS_in w
    refine ⟨_, .inr hp, ite_f (by show ¬ ((2 : Nat) : Int) < 2; decide) (ixT hp (at_1 _ _ _) ⟨pa, l, f, dy, cc, .int d, rfl, .inl ⟨_, rfl⟩, hi, fun H1 s1 => ⟨_, rfl, ite_f (by rw [day d0 d1]; decide) (ixT (s1.sqT hp) (at_0 _ _) ⟨rfl, ite_f (str_ne w1) ⟨rfl, ite_f (str_ne w2) ⟨_, .inr (s1.sqT hp), q H1 s1⟩⟩⟩)⟩⟩)⟩
  | undo k => cases tm
  | grant a => cases tm
  | back => cases tm
def spFitsGrant (K : PySem.W.Frag) : Sp := fun vs H Q _ => ∃ (p : Addr) (a : Int), vs = [.ref p] ∧ SqT K H p ((chD (.grant a)).map sv) ∧ 1 ≤ a ∧ a < 10 ^ 30 ∧ Q (.bl true) H
theorem sc_fits_grant : FnScope ["change"] ["change"] (defScope s_fits_grant) := ⟨rfl, rfl, rfl, by decide +kernel, rfl, by decide +kernel, by decide +kernel⟩
theorem ok_fits_grant (T : Txt K mg t) : FnOk P w K mg base (CXE P w) 3 t.a_fits_grant t.d_fits_grant ["change"] (spFitsGrant K) := by
  refine T.fn_fits_grant.okX sc_fits_grant (fun vs H Q E h => ?_) (fun cdv A outer s H vs Q E L hr h => ?_)
  · obtain ⟨p, a, rfl, hp, a0, a1, q⟩ := h
    rfl
  obtain ⟨p, a, rfl, hp, a0, a1, q⟩ := h
  have nd := sc_fits_grant.nd
  refine ⟨_, (pss_one (ps_ret (pe_and (pe_cmpR op_eq (pe_callB call_len_seq (by rfl) T.no_len bb_len (pa_cons (pv 0) pa_nil)) pe_int (nomark _)) (pe_one (pe_callX L.toLv (ok_is_whole_between T) (hr.mono (by decide)) (by rfl) T.mg_is_whole_between T.fn_is_whole_between.kp T.b_is_whole_between .nil (pa_cons (pe_ix ix_tup (pv 0) pe_int (fun _ _ => rfl)) (pa_cons pe_int (pa_cons (pe_op op_sub (pe_op op_pow pe_int pe_int) pe_int) pa_nil star_BinOp) star_Constant) star_Subscript)))))), ?_⟩
  open_k0
  have hp : SqT K H p [.str (SL [103, 114, 97, 110, 116]), .int a] := hp
  refine ⟨_, .inr hp, ite_t rfl ?_⟩
  refine ixT hp (at_1 _ _ _) ⟨⟨by decide, by decide, by decide⟩, .int a, _, _, rfl, .inl ⟨_, rfl⟩, ?_⟩
  have e : btw 1 (10 ^ 30 - 1) (.int a) = true := by
    show (decide (1 ≤ a) && decide (a ≤ 10 ^ 30 - 1)) = true
    rw [decide_eq_true a0, decide_eq_true (by omega)]
    rfl
  rw [e]
  exact q
def spFitsUndo (K : PySem.W.Frag) : Sp := fun vs H Q _ => ∃ (p d : Addr) (k : Int) (g : Int → V) (L : List Int), vs = [.ref p, .ref d] ∧ SqT K H p ((chD (.undo k)).map sv) ∧ H d = some (.dK (kvG g L)) ∧ k ∈ L ∧ Q (.bl true) H
theorem sc_fits_undo : FnScope ["change", "standing"] ["change", "standing"] (defScope s_fits_undo) := ⟨rfl, rfl, rfl, by decide +kernel, rfl, by decide +kernel, by decide +kernel⟩
theorem ok_fits_undo (T : Txt K mg t) : FnOk P w K mg base (CXE P w) 2 t.a_fits_undo t.d_fits_undo ["change", "standing"] (spFitsUndo K) := by
  refine T.fn_fits_undo.okX sc_fits_undo (fun vs H Q E h => ?_) (fun cdv A outer s H vs Q E L hr h => ?_)
  · obtain ⟨p, d, k, g, Ls, rfl, hp, hd, hk, q⟩ := h
    rfl
  obtain ⟨p, d, k, g, Ls, rfl, hp, hd, hk, q⟩ := h
  have nd := sc_fits_undo.nd
  refine ⟨_, (pss_one (ps_ret (pe_and (pe_cmpR op_eq (pe_callB call_len_seq (by rfl) T.no_len bb_len (pa_cons (pv 0) pa_nil)) pe_int (nomark _)) (pe_and (pe_callX L.toLv (ok_is_whole T) (hr.mono (by decide)) (by rfl) T.mg_is_whole T.fn_is_whole.kp T.b_is_whole .nil (pa_cons (pe_ix ix_tup (pv 0) pe_int (fun _ _ => rfl)) pa_nil)) (pe_one (pe_cmp (pc_din (hu_of hr) (pe_ix ix_tup (pv 0) pe_int (fun _ _ => rfl)) (pv 1)))))))), ?_⟩
  open_k0
  have hp : SqT K H p [.str (SL [117, 110, 100, 111]), .int k] := hp
  refine ⟨_, .inr hp, ite_t rfl ?_⟩
  refine ixT hp (at_1 _ _ _) ⟨.int k, rfl, .inl ⟨_, rfl⟩, _, rfl, ite_t rfl (ixT hp (at_1 _ _ _) ⟨_, DGet.k (k := Sum.inl k) hd, ?_⟩)⟩
  rw [kv_val, if_pos hk]
  exact q
/-- where the change of an entry lies -/
def pcAt (zs : List En) (k : Int) : V := ((zs[k.toNat]?).map fun z => V.ref z.2.1).getD .non
def spStanding (K : PySem.W.Frag) : Sp := fun vs H Q _ => ∃ (a : Addr) (zs : List En), vs = [.ref a] ∧ SqL K H a (zs.map (·.1)) ∧ EnsAt K H zs ∧ zs.length ≤ 63 ∧ (∀ i z k, zs[i]? = some z → z.2.2.2 = .undo k → k ∈ standF (chs (zs.take i))) ∧ ∀ r H', H r = none → Same H H' → H' r = some (.dK (kvG (pcAt zs) (standF (chs zs)))) → Q (.ref r) H'
theorem sc_standing_terms : FnScope ["entries", "standing", "number", "entry", "change"] ["entries"] (defScope s_standing_terms) := ⟨rfl, rfl, rfl, by decide +kernel, rfl, by decide +kernel, by decide +kernel⟩
theorem ok_standing_terms (T : Txt K mg t) : FnOk P w K mg base (CXE P w) 2 t.a_standing_terms t.d_standing_terms ["entries"] (spStanding K) := by
  refine T.fn_standing_terms.okX sc_standing_terms (fun vs H Q E h => ?_) (fun cdv A outer s H vs Q E L hr h => ?_)
  · obtain ⟨a, zs, rfl, hS, hE, z63, hu, q⟩ := h
    rfl
  obtain ⟨a, zs, rfl, hS, hE, z63, hu, q⟩ := h
  have nd := sc_standing_terms.nd
  refine ⟨_, (pss_cons (ps_set (i := 1) nd rfl (Or.inl rfl) pe_dnewS) (pss_cons (ps_for (by passes_own) rfl (pi_enum (by rfl) T.no_enumerate (pa_cons (pv 0) pa_nil)) (pg_tup (n := 2) rfl (pgs_cons (pg_name (i := 2) nd rfl (Or.inl rfl)) (pgs_cons (pg_name (i := 3) nd rfl (Or.inl rfl)) pgs_nil))) (pss_cons (ps_set (i := 4) nd rfl (Or.inl rfl) (pe_ix ix_tup (pv 3) pe_int (fun _ _ => rfl))) (pss_cons (ps_cut (ps_if (pt_val (pe_callX L.toLv (ok_is_term T) (hr.mono (by decide)) (by rfl) T.mg_is_term T.fn_is_term.kp T.b_is_term .nil (pa_cons (pv 4) pa_nil))) (pss_one (ps_dput (hu_of hr) (pv 1) (pv 2) (pv 4) rfl)) pss_nil)) (pss_one (ps_if (pt_cmpR op_eq (pe_ix ix_tup (pv 4) pe_int (fun _ _ => rfl)) (pe_strL st_10) (nomark _)) (pss_one (ps_expr (pe_dpop1 (pv 1) (pe_ix ix_tup (pv 4) pe_int (fun _ _ => rfl)) ⟨by rfl, by rfl, by rfl, by rfl⟩))) pss_nil))))) (pss_one (ps_ret (pv 1))))), ?_⟩
  open_k0
  intro dd H1 hdd s1 e1
  ((try dsimp only); refine for_by fun R hR => ?_; simp only [tSortK, iVals, tDNewS, tDIn, tDNotIn, sDPut, tDPop1, tDGet2, tDGet, tCallKX, kwG_one, tEither, tTupS, tLstS, comp_K, capσ, sub_nil, sub_none, sub_some, tYes, List.replicate, Option.join_some, Option.join_none, SL_inj, iStr, tPart, tNoPart, tSl, tLst, tTup, cx_K, slT, CDiv, Int.reduceLT, Int.reduceLE, Int.reduceToNat, Int.reduceNeg, Int.reduceAdd, Int.reduceSub, Int.reduceMul, forall_const, tSeq, tNext, tIfS, tRet, tRetN, tDrop, tAsg, gName, gCons, gNil, tVar, tC, tOp, rI, rI0, tUn, rU, tTest, tB, tAnd, tOr, tNot, tAndV, tOrV, tNotV, tIf, tCons, tNil, tCallX, tCallL, tCB, sRaise, rEq, rNe, scal_ii, scal_bb, scal_ss, scal_ni, scal_in, tChain, tAug, ipI, L2.start, List.map_cons, List.map_nil, List.length_cons, List.length_nil, List.cons_append, List.nil_append, List.append_nil, List.replicate_succ, List.replicate_zero, Nat.reduceAdd, Nat.reduceSub, List.getElem?_cons_zero, List.getElem?_cons_succ, List.set_cons_zero, List.set_cons_succ, Option.some.injEq, V.int.injEq, V.bl.injEq, V.ref.injEq, V.str.injEq, exists_eq_left', exists_eq_left, exists_eq', exists_and_left, List.cons.injEq, and_true, true_and, and_self, and_assoc, decide_eq_true_eq, if_true, if_false, Bool.true_eq_false, Bool.false_eq_true, Bool.not_eq_true', Bool.not_true, Bool.not_false, decide_eq_false_iff_not, ite_true, ite_false, reduceCtorEq, false_and, exists_false, false_or, or_false, and_false, iList, iTup, iZip, iEnum, iRng1, iRng2, Nat.reduceLeDiff])
  refine ⟨⟨_, s1.seq hS⟩, hR _ _ ?_⟩
  clear hR
  refine for_enum (xs := zs.map (·.1)) (fun i σ1 H2 => Same H H2 ∧ H2 dd = some (.dK (kvG (pcAt zs) (standF (chs (zs.take i))))) ∧ ∃ (x2 x3 x4 : Option V), σ1 = [some (.ref a), some (.ref dd), x2, x3, x4]) ⟨s1, e1, _, _, _, rfl⟩ (fun i σ1 H1 _ h => h.1.seq hS) (fun i σ1 H1 H2 h s => ⟨h.1.trans s, s _ _ h.2.1, h.2.2⟩) (fun i x σ1 H2 hx h => ?_) (fun σ1 H2 h => ?_)
  · obtain ⟨s2, e2, x2, x3, x4, rfl⟩ := h
    obtain ⟨z, hz, rfl⟩ : ∃ z, zs[i]? = some z ∧ x = z.1 := by
      rw [List.getElem?_map] at hx
      obtain ⟨u, e, rfl⟩ := Option.map_eq_some_iff.mp hx
      exact ⟨u, e, rfl⟩
    obtain ⟨pe, ee, q1, q2⟩ := (hE.same s2) z (List.mem_of_getElem? hz)
    have hi := (List.getElem?_eq_some_iff.mp hz).1
    have li : (standF (chs (zs.take i))).length < 100 := by have := stand_len (chs (zs.take i)); rw [chs_len, List.length_take] at this; omega
    have pz : pcAt zs (i : Int) = .ref z.2.1 := by unfold pcAt; rw [Int.toNat_natCast, hz]; rfl
    have nx := stand_next hz
    have ni := (stand_in (chs (zs.take i))).2
    rw [chs_len, List.length_take, Nat.min_eq_left (by omega)] at ni
    have nd := (stand_in (chs (zs.take i))).1
    have hui := hu i z
    rw [ee]
    open_k0
    refine ixT q1 (at_1 _ _ _) ?_
    generalize hc : z.2.2.2 = c at q2 nx hui
    generalize standF (chs (zs.take i)) = S at e2 li nx ni nd hui
    obtain ⟨R, hR⟩ : ∃ R : St → Hp → Prop, R = fun σ' H' => Same H H' ∧ H' dd = some (.dK (kvG (pcAt zs) (if isTm c = true then S ++ [(i : Int)] else S))) ∧ σ' = [some (.ref a), some (.ref dd), some (.int i), some (.ref pe), some (.ref z.2.1)] := ⟨_, rfl⟩
    refine ⟨R, ?_, fun σ3 H3 h3 => ?_⟩
    · open_k0
      refine ⟨z.2.1, c, rfl, q2, _, rfl, ite_of (fun tm => ?_) (fun tm => ?_)⟩
      · refine ⟨_, DPut.k (k := Sum.inl (i : Int)) e2 (le_line (show (kvG (pcAt zs) S).length + 1 ≤ 1000 by unfold kvG; rw [List.length_map]; omega)), ?_⟩
        rw [hR]
        refine ⟨s2.put hdd _, ?_, rfl⟩
        rw [upd_same, if_pos tm, ← pz, kv_put _ (fun y => by have := (ni _ y).2; omega)]
      · rw [hR]
        exact ⟨s2, by rw [if_neg tm]; exact e2, rfl⟩
    rw [hR] at h3
    obtain ⟨s3, e3, rfl⟩ := h3
    clear hR
    open_k0
    obtain ⟨_, _, _, q3⟩ := (hE.same s3) z (List.mem_of_getElem? hz)
    rw [hc] at q3
    rw [nx]
    obtain ⟨r, er⟩ := chD_cons c
    have q3' := q3
    rw [er] at q3'
    refine ixT q3' (at_0 _ _) ⟨rfl, ?_⟩
    cases c with
    | plan => exact ite_f (str_ne (show [112, 108, 97, 110] ≠ [117, 110, 100, 111] by decide)) ⟨s3, e3⟩
    | seats => exact ite_f (str_ne (show [115, 101, 97, 116, 115] ≠ [117, 110, 100, 111] by decide)) ⟨s3, e3⟩
    | word w d => exact ite_f (str_ne (fun z => absurd ((wordS_in w).1) (by rw [show wordS w = _ from z]; decide))) ⟨s3, e3⟩
    | grant => exact ite_f (str_ne (show [103, 114, 97, 110, 116] ≠ [117, 110, 100, 111] by decide)) ⟨s3, e3⟩
    | back => exact ite_f (str_ne (show [98, 97, 99, 107] ≠ [117, 110, 100, 111] by decide)) ⟨s3, e3⟩
    | undo k =>
      have q3 : SqT K H3 z.2.1 [.str (SL [117, 110, 100, 111]), .int k] := q3
      have hk := hui k hz rfl
      refine ite_t rfl ⟨.inl ⟨_, Rd.of e3⟩, ixT q3 (at_1 _ _ _) ⟨_, e3, Sum.inl k, rfl, _, (by show valV (kvG (pcAt zs) S) (Sum.inl k) = _; rw [kv_val, if_pos hk]), s3.put hdd _, ?_⟩⟩
      rw [upd_same]
      show some (HO.dK (dropK (kvG (pcAt zs) S) (Sum.inl k))) = _
      rw [kv_drop _ _ nd]
      rfl
  · obtain ⟨s2, e2, x2, x3, x4, rfl⟩ := h
    rw [List.length_map, List.take_length] at e2
    open_k0
    exact q dd H2 hdd s2 e2
def spFits (K : PySem.W.Frag) : Sp := fun vs H Q _ => ∃ (pa a p : Addr) (f : Int) (dy : Bool) (cc : Int) (ps : List (V × Pl)) (zs : List En) (c : Ch), vs = [.ref pa, .ref a, .ref p] ∧ Acc K H pa f dy cc ps ∧ SqL K H a (zs.map (·.1)) ∧ EnsAt K H zs ∧ zs.length ≤ 63 ∧ EnsOk (nmsOf ps) f (Cal.beg f dy cc 60) zs ∧ SqT K H p ((chD c).map sv) ∧ ChIn (nmsOf ps) f (Cal.beg f dy cc 60) (standF (chs zs)) c ∧ ∀ H', Same H H' → Q (.bl true) H'
theorem sc_fits : FnScope ["account", "ahead", "change", "word"] ["account", "ahead", "change"] (defScope s_fits) := ⟨rfl, rfl, rfl, by decide +kernel, rfl, by decide +kernel, by decide +kernel⟩
theorem ok_fits (T : Txt K mg t) : FnOk P w K mg base (CXE P w) 9 t.a_fits t.d_fits ["account", "ahead", "change"] (spFits K) := by
  refine T.fn_fits.okX sc_fits (fun vs H Q E h => ?_) (fun cdv A outer s H vs Q E L hr h => ?_)
  · obtain ⟨pa, a, p, f, dy, cc, ps, zs, c, rfl, ha, hS, hE, z63, hO, hp, ci, q⟩ := h
    rfl
  obtain ⟨pa, a, p, f, dy, cc, ps, zs, c, rfl, ha, hS, hE, z63, hO, hp, ci, q⟩ := h
  have nd := sc_fits.nd
  refine ⟨_, (pss_cons (ps_if (pt_cmpR op_eq (pe_callB call_len_seq (by rfl) T.no_len bb_len (pa_cons (pv 2) pa_nil)) pe_int (nomark _)) (pss_one (ps_ret pe_bl)) pss_nil) (pss_cons (ps_set (i := 3) nd rfl (Or.inl rfl) (pe_ix ix_tup (pv 2) pe_int (fun _ _ => rfl))) (pss_cons (ps_if (pt_val (pe_callX L.toLv (ok_is_term T) (hr.mono (by decide)) (by rfl) T.mg_is_term T.fn_is_term.kp T.b_is_term .nil (pa_cons (pv 2) pa_nil))) (pss_one (ps_ret (pe_callX L.toLv (ok_fits_term T) (hr.mono (by decide)) (by rfl) T.mg_fits_term T.fn_fits_term.kp T.b_fits_term .nil (pa_cons (pv 0) (pa_cons (pv 2) pa_nil star_Name) star_Name)))) pss_nil) (pss_cons (ps_if (pt_cmpR op_eq (pv 3) (pe_strL st_9) (nomark _)) (pss_one (ps_ret (pe_callX L.toLv (ok_fits_grant T) (hr.mono (by decide)) (by rfl) T.mg_fits_grant T.fn_fits_grant.kp T.b_fits_grant .nil (pa_cons (pv 2) pa_nil)))) pss_nil) (pss_cons (ps_if (pt_cmpR op_eq (pv 3) (pe_strL st_10) (nomark _)) (pss_one (ps_ret (pe_callX L.toLv (ok_fits_undo T) (hr.mono (by decide)) (by rfl) T.mg_fits_undo T.fn_fits_undo.kp T.b_fits_undo .nil (pa_cons (pv 2) (pa_cons (pe_callX L.toLv (ok_standing_terms T) (hr.mono (by decide)) (by rfl) T.mg_standing_terms T.fn_standing_terms.kp T.b_standing_terms .nil (pa_cons (pv 1) pa_nil)) pa_nil star_Call) star_Name)))) pss_nil) (pss_one (ps_ret (pe_cmpR (op_eqD hr) (pv 2) (pe_tupS (pa_cons (pe_strL st_11) pa_nil)) (nomark _))))))))), ?_⟩
  obtain ⟨r, er⟩ := chD_cons c
  have hp' := hp
  rw [er] at hp'
  open_k0
  refine ⟨_, .inr hp', ?_⟩
  rw [if_neg (by rw [List.length_cons]; omega)]
  refine ixT hp' (at_0 _ _) ⟨p, c, rfl, hp, _, rfl, ?_⟩
  by_cases tm : isTm c = true
  · rw [if_pos tm]
    exact ⟨pa, p, f, dy, cc, ps, c, _, rfl, ha, hp, tm, ci, q⟩
  refine ite_f tm ⟨rfl, ?_⟩
  cases c with
  | plan => exact absurd rfl tm
  | seats => exact absurd rfl tm
  | word => exact absurd rfl tm
  | grant g => exact ite_t rfl ⟨p, g, rfl, hp, ci.1, ci.2, q _ (Same.refl _)⟩
  | undo k =>
    refine ite_f (str_ne (show [117, 110, 100, 111] ≠ [103, 114, 97, 110, 116] by decide)) ⟨rfl, ite_t rfl ?_⟩
    refine ⟨a, zs, rfl, hS, hE, z63, fun i z k' hz hk' => ?_, fun r H1 _ s1 e1 => ⟨p, r, k, _, _, rfl, s1.sqT hp, e1, ci, q H1 s1⟩⟩
    have := (hO i z hz).2.2.2
    rw [hk'] at this
    exact this
  | back =>
    refine ite_f (str_ne (show [98, 97, 99, 107] ≠ [103, 114, 97, 110, 116] by decide)) ⟨rfl, ite_f (str_ne (show [98, 97, 99, 107] ≠ [117, 110, 100, 111] by decide)) ?_⟩
    intro pb H1 _ s1 e1
    have hp : SqT K H p [.str (SL [98, 97, 99, 107])] := hp
    exact eqD (n := 0) (d := .tup [.str [98, 97, 99, 107]]) (Dp_tup (s1.sqT hp) ⟨Dp_str, trivial⟩) (Dp_tup (SqT.of e1) ⟨Dp_str, trivial⟩) rfl (by decide) (q H1 s1)
def spCheckEn (K : PySem.W.Frag) : Sp := fun vs H Q _ => ∃ (pa a : Addr) (f : Int) (dy : Bool) (cc : Int) (ps : List (V × Pl)) (zs : List En), vs = [.ref pa, .ref a] ∧ Acc K H pa f dy cc ps ∧ SqL K H a (zs.map (·.1)) ∧ EnsAt K H zs ∧ zs.length ≤ 40 ∧ EnsOk (nmsOf ps) f (Cal.beg f dy cc 60) zs ∧ ∀ H', Same H H' → Q .non H'
theorem sc_check_entries : FnScope ["account", "entries", "front", "number", "entry", "entered", "change"] ["account", "entries"] (defScope s_check_entries) := ⟨rfl, rfl, rfl, by decide +kernel, rfl, by decide +kernel, by decide +kernel⟩
theorem ok_check_entries (T : Txt K mg t) : FnOk P w K mg base (CXE P w) 10 t.a_check_entries t.d_check_entries ["account", "entries"] (spCheckEn K) := by
  refine T.fn_check_entries.okX sc_check_entries (fun vs H Q E h => ?_) (fun cdv A outer s H vs Q E L hr h => ?_)
  · obtain ⟨pa, a, f, dy, cc, ps, zs, rfl, ha, hS, hE, z40, hO, q⟩ := h
    rfl
  obtain ⟨pa, a, f, dy, cc, ps, zs, rfl, ha, hS, hE, z40, hO, q⟩ := h
  have nd := sc_check_entries.nd
  obtain ⟨u_MOST_ENTRIES, h_MOST_ENTRIES, r_MOST_ENTRIES⟩ := T.k_MOST_ENTRIES
  refine ⟨_, (pss_cons (ps_if (pt_cmpR op_gt (pe_callB call_len_seq (by rfl) T.no_len bb_len (pa_cons (pv 1) pa_nil)) (pe_glob (by rfl) h_MOST_ENTRIES r_MOST_ENTRIES) (nomark _)) (pss_one (ps_raise L T.ex_TooLong (by rfl) (by rfl) T.mg_TooLong (pa_cons pe_str pa_nil))) pss_nil) (pss_cons (ps_set (i := 2) nd rfl (Or.inl rfl) (pe_ix ix_tup (pv 0) pe_int (fun _ _ => rfl))) (pss_one (ps_for (by passes_own) rfl (pi_enum (by rfl) T.no_enumerate (pa_cons (pv 1) pa_nil)) (pg_tup (n := 2) rfl (pgs_cons (pg_name (i := 3) nd rfl (Or.inl rfl)) (pgs_cons (pg_name (i := 4) nd rfl (Or.inl rfl)) pgs_nil))) (pss_cons (ps_asg (pv 4) (pg_tup (n := 2) rfl (pgs_cons (pg_name (i := 5) nd rfl (Or.inl rfl)) (pgs_cons (pg_name (i := 6) nd rfl (Or.inl rfl)) pgs_nil)))) (pss_cons (ps_if (pw_or (pt_not (pt_val (pe_callX L.toLv (ok_is_day_of T) (hr.mono (by decide)) (by rfl) T.mg_is_day_of T.fn_is_day_of.kp T.b_is_day_of .nil (pa_cons (pv 0) (pa_cons (pv 5) pa_nil star_Name) star_Name)))) (pw_or1 (pt_cmpR op_lt (pv 5) (pv 2) (nomark _)))).pt (pss_one ps_never) pss_nil) (pss_cons (ps_if (pt_not (pt_val (pe_callX L.toLv (ok_fits T) (hr.mono (by decide)) (by rfl) T.mg_fits T.fn_fits.kp T.b_fits .nil (pa_cons (pv 0) (pa_cons (pe_slice sl_listS (pv 1) po_none (po_some (pv 3))) (pa_cons (pv 6) pa_nil star_Name) star_Subscript) star_Name)))) (pss_one ps_never) pss_nil) (pss_one (ps_set (i := 2) nd rfl (Or.inl rfl) (pv 5)))))))))), ?_⟩
  have ha' := ha
  obtain ⟨l, ⟨pc, f0, f1, hc, ep⟩, el, za, zo⟩ := ha'
  open_k0
  refine ⟨_, .inl hS, ?_⟩
  rw [if_neg (by rw [List.length_map]; omega)]
  refine ixT (SqT.of ep) (at_1 _ _ _) ?_
  ((try dsimp only); refine for_by fun R hR => ?_; simp only [tSortK, iVals, tDNewS, tDIn, tDNotIn, sDPut, tDPop1, tDGet2, tDGet, tCallKX, kwG_one, tEither, tTupS, tLstS, comp_K, capσ, sub_nil, sub_none, sub_some, tYes, List.replicate, Option.join_some, Option.join_none, SL_inj, iStr, tPart, tNoPart, tSl, tLst, tTup, cx_K, slT, CDiv, Int.reduceLT, Int.reduceLE, Int.reduceToNat, Int.reduceNeg, Int.reduceAdd, Int.reduceSub, Int.reduceMul, forall_const, tSeq, tNext, tIfS, tRet, tRetN, tDrop, tAsg, gName, gCons, gNil, tVar, tC, tOp, rI, rI0, tUn, rU, tTest, tB, tAnd, tOr, tNot, tAndV, tOrV, tNotV, tIf, tCons, tNil, tCallX, tCallL, tCB, sRaise, rEq, rNe, scal_ii, scal_bb, scal_ss, scal_ni, scal_in, tChain, tAug, ipI, L2.start, List.map_cons, List.map_nil, List.length_cons, List.length_nil, List.cons_append, List.nil_append, List.append_nil, List.replicate_succ, List.replicate_zero, Nat.reduceAdd, Nat.reduceSub, List.getElem?_cons_zero, List.getElem?_cons_succ, List.set_cons_zero, List.set_cons_succ, Option.some.injEq, V.int.injEq, V.bl.injEq, V.ref.injEq, V.str.injEq, exists_eq_left', exists_eq_left, exists_eq', exists_and_left, List.cons.injEq, and_true, true_and, and_self, and_assoc, decide_eq_true_eq, if_true, if_false, Bool.true_eq_false, Bool.false_eq_true, Bool.not_eq_true', Bool.not_true, Bool.not_false, decide_eq_false_iff_not, ite_true, ite_false, reduceCtorEq, false_and, exists_false, false_or, or_false, and_false, iList, iTup, iZip, iEnum, iRng1, iRng2, Nat.reduceLeDiff])
  refine ⟨⟨_, hS⟩, hR _ _ ?_⟩
  clear hR
  refine for_enum (xs := zs.map (·.1)) (fun i σ1 H1 => Same H H1 ∧ ∃ (fr : Int) (x3 x4 x5 x6 : Option V), (∀ z, zs[i]? = some z → fr ≤ z.2.2.1) ∧ σ1 = [some (.ref pa), some (.ref a), some (.int fr), x3, x4, x5, x6]) ⟨Same.refl _, f, _, _, _, _, fun z hz => (hO 0 z hz).1, rfl⟩ (fun i σ1 H1 _ h => h.1.seq hS) (fun i σ1 H1 H2 h s => ⟨h.1.trans s, h.2⟩) (fun i x σ1 H1 hx h => ?_) (fun σ1 H1 h => ?_)
  · obtain ⟨s1, fr, x3, x4, x5, x6, hf, rfl⟩ := h
    obtain ⟨z, hz, rfl⟩ : ∃ z, zs[i]? = some z ∧ x = z.1 := by
      rw [List.getElem?_map] at hx
      obtain ⟨u, e, rfl⟩ := Option.map_eq_some_iff.mp hx
      exact ⟨u, e, rfl⟩
    obtain ⟨pe, ee, q1, q2⟩ := (hE.same s1) z (List.mem_of_getElem? hz)
    obtain ⟨b1, b2, b3, b4⟩ := hO i z hz
    rw [ee]
    open_k0
    refine ⟨pe, _, rfl, q1, rfl, ?_⟩
    open_k0
    have e : btw f (Cal.beg f dy cc 60 - 1) (.int z.2.2.1) = true := by
      show (decide (f ≤ _) && decide (_ ≤ Cal.beg f dy cc 60 - 1)) = true
      rw [decide_eq_true b1, decide_eq_true (by omega)]
      rfl
    refine ⟨pa, l, f, dy, cc, .int z.2.2.1, rfl, .inl ⟨_, rfl⟩, ⟨pc, f0, f1, hc.same s1, s1 _ _ ep⟩, fun H2 s2 => ⟨_, rfl, ite_f (by rw [e]; decide) (ite_f (by have := hf z hz; omega) ?_)⟩⟩
    have s12 := s1.trans s2
    refine ⟨a, _, rfl, s12.seq hS, fun r H3 _ s3 e3 => ?_⟩
    rw [cut_min, ← List.map_take] at e3
    have s13 := s12.trans s3
    refine ⟨pa, r, z.2.1, f, dy, cc, ps, zs.take i, z.2.2.2, rfl, ha.same s13, SqL.of e3, (hE.same s13).take i, by rw [List.length_take]; omega, hO.take i, (s2.trans s3).sqT q2, b4, fun H4 s4 => ⟨_, rfl, ite_f (by decide) ⟨s13.trans s4, _, fun y hy => ?_, rfl⟩⟩⟩
    exact (hO (i + 1) y hy).2.2.1 z (by rw [List.take_add_one, hz]; exact List.mem_append_right _ (List.mem_singleton.mpr rfl))
  · exact q _ h.1
/-- where the lambda stands -/
abbrev lamP : Pos := ⟨144, 38, 144, 60⟩
abbrev lamQ : Str := (("in_time" : Str) ++ ".<locals>.") ++ "<lambda>"
def Tab (H : Hp) (T : Addr) : Prop := TabOk H T lamP lamQ
/-- all is as it was, but tables -/
def SameS (H H' : Hp) : Prop := ∀ b o, H b = some o → (∀ ps, o ≠ .tbl ps) → H' b = some o
theorem SameS.trans {H H1 H2 : Hp} (a : SameS H H1) (b : SameS H1 H2) : SameS H H2 := fun c o h n => b c o (a c o h n) n
theorem same_sS {H H' : Hp} (s : Same H H') : SameS H H' := fun b o h _ => s b o h
theorem grew_sS {T : Addr} {H H' : Hp} {ps : Array Value} (g : Grew T H H') (e : H T = some (.tbl ps)) : SameS H H' := fun b o h n => g b o (fun z => by rw [z, e] at h; exact n ps (Option.some.inj h).symm) h
theorem SameS.lst {H H' : Hp} (s : SameS H H') {a : Addr} {xs : List V} (h : H a = some (.lst xs)) : H' a = some (.lst xs) := s _ _ h fun _ z => by cases z
theorem SameS.tup {H H' : Hp} (s : SameS H H') {a : Addr} {xs : List V} (h : H a = some (.tup xs)) : H' a = some (.tup xs) := s _ _ h fun _ z => by cases z
theorem SameS.sqT {K : PySem.W.Frag} {H H' : Hp} (s : SameS H H') {a : Addr} {xs : List V} (h : SqT K H a xs) : SqT K H' a xs := by
  rcases h with (h | ⟨o, h⟩) | h
  · exact .inl (.inl (s.tup h))
  · exact .inl (.inr ⟨o, s _ _ h fun _ z => by cases z⟩)
  · exact .inr h
theorem SameS.seq {K : PySem.W.Frag} {H H' : Hp} (s : SameS H H') {a : Addr} {xs : List V} (h : SqL K H a xs) : SqL K H' a xs := by
  rcases h with (h | ⟨o, h⟩) | h
  · exact .inl (.inl (s.lst h))
  · exact .inl (.inr ⟨o, s _ _ h fun _ z => by cases z⟩)
  · exact .inr h
theorem ens_sS {K : PySem.W.Frag} {H H' : Hp} {zs : List En} (h : EnsAt K H zs) (s : SameS H H') : EnsAt K H' zs := fun z hz =>
  let ⟨p, e, q1, q2⟩ := h z hz; ⟨p, e, s.sqT q1, s.sqT q2⟩
theorem chD_head (ch : Ch) (h : isTm ch = true) : ∃ r, (chD ch).map sv = .str (SL (chW ch)) :: .int (chDay ch) :: r := by
  cases ch with
  | plan d nm => exact ⟨_, rfl⟩
  | seats d n => exact ⟨_, rfl⟩
  | word w d => exact ⟨_, rfl⟩
  | undo k => cases h
  | grant g => cases h
  | back => cases h
theorem Tab.same {H H' : Hp} {T : Addr} (h : Tab H T) (s : Same H H') : Tab H' T := by
  obtain ⟨ps, e, tr, c⟩ := h
  refine ⟨ps, s _ _ e, tr, ?_⟩
  rcases c with c | ⟨c', c1, c2⟩
  · exact .inl c
  · exact .inr ⟨c', c1, s _ _ c2⟩
theorem ces_snd (zs : List En) : (zs.map ce).map (·.2) = chs zs := by rw [List.map_map]; rfl
def spInTime (K : PySem.W.Frag) (T : Addr) : Sp := fun vs H Q _ => ∃ (a : Addr) (zs : List En), vs = [.ref a] ∧ SqL K H a (zs.map (·.1)) ∧ EnsAt K H zs ∧ zs.length ≤ 40 ∧ UndoOk (chs zs) ∧ Tab H T ∧ ∀ r rs so H', H r = none → SameS H H' → Tab H' T → H' r = some (.lst (rs.map (·.1))) → EnsAt K H' rs → IsTime (zs.map ce) so → rs.map ce = so.map rc → Q (.ref r) H'
theorem sc_in_time : FnScope ["entries", "terms", "others"] ["entries"] (defScope s_in_time) := ⟨rfl, rfl, rfl, by decide +kernel, rfl, by decide +kernel, by decide +kernel⟩
theorem ok_in_time (T : Txt K mg t) (B : BM mg base) : FnOk P w K mg base (CXE P w) 4 t.a_in_time t.d_in_time ["entries"] (spInTime K t.p_in_time) := by
  refine T.fn_in_time.okXC T.cc_in_time sc_in_time (fun vs H Q E h => ?_) (fun A outer s H vs Q E L hr h => ?_)
  · obtain ⟨a, zs, rfl, hS, hE, z40, hU, hT, q⟩ := h
    rfl
  obtain ⟨a, zs, rfl, hS, hE, z40, hU, hT, q⟩ := h
  have nd := sc_in_time.nd
  refine ⟨_, (pss_cons (ps_setC (i := 1) nd rfl rfl (n := 1) (N := ["change"]) (js := []) (by rfl) rfl rfl (pi_vals (pe_callX L.toLv (ok_standing_terms T) (hr.mono (by decide)) (by rfl) T.mg_standing_terms T.fn_standing_terms.kp T.b_standing_terms .nil (pa_cons (pv 0) pa_nil)) (by rfl) (by rfl)) (fun a => (pg_name (i := 0) (show List.Nodup (["change"] : List Str) from by decide +kernel) rfl (Or.inl rfl))) (fun a => pif_nil) (fun a => (pe_tupS (pa_cons (pe_ix ix_tup (pv 0) pe_int (fun _ _ => rfl)) (pa_cons (pv 0) pa_nil star_Name) star_Subscript)))) (pss_cons (ps_setC (i := 2) nd rfl rfl (n := 1) (N := ["entry"]) (js := []) (by rfl) rfl rfl (pi_list (pv 0)) (fun a => (pg_name (i := 0) (show List.Nodup (["entry"] : List Str) from by decide +kernel) rfl (Or.inl rfl))) (fun a => (pif_one (pt_cmpR op_in_seq (pe_ix ix_tup (pe_ix ix_tup (pv 0) pe_int (fun _ _ => rfl)) pe_int (fun _ _ => rfl)) (pe_tupS (pa_cons (pe_strL st_9) (pa_cons (pe_strL st_11) pa_nil star_Constant) star_Constant)) rfl))) (fun a => (pv 0))) (pss_one (ps_ret (pe_sortK (k := 0) (x := "entry") (N := ["entry"]) (hr.mono (by decide)) (by rfl) T.no_sorted (pa_cons (pe_op op_catS (pv 1) (pv 2)) pa_nil) rfl B (fun _ X => T.tb_in_time.hd X) ⟨rfl, rfl, rfl, by decide +kernel, rfl, by decide +kernel, by decide +kernel⟩ (fun _ _ _ _ => rfl) (fun _ _ _ _ _ _ => (pe_ix (ix_tupK (K := K) rfl) (pv 0) pe_int (fun _ _ => rfl)))))))), ?_⟩
  open_k0
  refine ⟨_, rfl, ?_⟩
  try open_k0
  refine ⟨a, zs, rfl, hS, hE, by omega, fun i z k hz hk => ?_, fun d H1 nd s1 e1 => ⟨d, rfl, _, e1, fun o H2 k2 k2' e2 l1 hl1 an => ?_⟩⟩
  · have := hU i k (by unfold chs; rw [List.getElem?_map, hz, ← hk]; rfl)
    rw [chs_take]
    exact this
  have s2 : Same H H2 := fun b u h => k2 b u (fun z => by rw [z, nd] at h; cases h) (s1 b u h)
  obtain ⟨es, hes⟩ : ∃ es, es = zs.map ce := ⟨_, rfl⟩
  have esl : es.length = zs.length := by rw [hes, List.length_map]
  have ecs : es.map (·.2) = chs zs := by rw [hes, ces_snd]
  obtain ⟨RT, hRT⟩ : ∃ RT, RT = (List.range es.length).filterMap (rowT (es.map (·.2)) (goneF (es.map (·.2)))) := ⟨_, rfl⟩
  have hst : standF (chs zs) = RT.map fun r => r.2.2.1 := by rw [hRT, ecs, esl, ← chs_len]; exact stand_rows hU
  have rl : RT.length ≤ 40 := by
    have := stand_len (chs zs)
    rw [hst, List.length_map, chs_len] at this
    omega
  have kvm : (kvG (pcAt zs) (standF (chs zs))).map (·.2) = RT.map fun r => pcAt zs r.2.2.1 := by
    unfold kvG
    rw [List.map_map, hst, List.map_map]
    rfl
  have rt : ∀ r ∈ RT, ∃ z, z ∈ zs ∧ pcAt zs r.2.2.1 = .ref z.2.1 ∧ z.2.2.2 = r.2.2.2 ∧ isTm r.2.2.2 = true ∧ r.1 = chDay r.2.2.2 := fun r hr => by
    rw [hRT] at hr
    obtain ⟨i, _, hi⟩ := List.mem_filterMap.mp hr
    have b := rowT_at hi
    have b4 := b.2.2.2.1
    rw [ecs] at b4
    unfold chs at b4
    rw [List.getElem?_map] at b4
    obtain ⟨z, hz, ez⟩ := Option.map_eq_some_iff.mp b4
    refine ⟨z, List.mem_of_getElem? hz, ?_, ez, b.2.2.2.2.1, b.2.2.1⟩
    unfold pcAt
    rw [b.2.1, Int.toNat_natCast, hz]
    rfl
  refine comp_by (fun j xs H' => ∃ ts : List En, xs = ts.map (·.1) ∧ EnsAt K H' ts ∧ ts.map ce = (RT.take j).map rc) (lists_vals e2) hl1 (by rw [kvm, List.length_map]; exact small_len (by omega)) (fun _ _ => ⟨[], rfl, (fun z h => nomatch h), rfl⟩) (fun j x xs H8 K1 K0 hx sm pv hl k1 k0 => ?_) (fun xs H3 s3 pv _ w3 => ?_)
  · obtain ⟨ts, rfl, tE, tc⟩ := pv
    rw [kvm, List.getElem?_map] at hx
    obtain ⟨r, hr, rfl⟩ := Option.map_eq_some_iff.mp hx
    obtain ⟨z, hz, ez, ec, tm, ed⟩ := rt r (List.mem_of_getElem? hr)
    obtain ⟨pe, ee, q1, q2⟩ := (hE.same (s2.trans sm)) z hz
    obtain ⟨rr, er⟩ := chD_head r.2.2.2 tm
    have q2' := q2
    rw [ec, er] at q2'
    rw [ez]
    lge_open0
    refine ixT q2' (at_1 _ _ _) ⟨le_line (by simp), fun p H5 _ s5 e5 => k1 _ _ s5 fun H6 kp => ?_⟩
    have hl5 := s5 _ _ hl
    have np : p ≠ l1 := fun y => by rw [y, hl5] at e5; cases e5
    refine ⟨ts ++ [(.ref p, z.2.1, chDay r.2.2.2, r.2.2.2)], by rw [List.map_append]; rfl, fun y hy => ?_, ?_⟩
    · rcases List.mem_append.mp hy with h | h
      · exact ((tE.same s5).off hl5 kp) y h
      · rw [List.mem_singleton.mp h]
        refine ⟨p, rfl, SqT.of (kp _ _ np e5), ?_⟩
        have q3 := s5.sqT q2
        rw [ec] at q3
        exact sqT_off2 q3 hl5 hl5 fun b o h1 _ h2 => kp b o h1 h2
    · rw [List.map_append, tc, List.take_add_one, hr, List.map_append]
      show _ ++ [(chDay r.2.2.2, r.2.2.2)] = _ ++ [(r.1, r.2.2.2)]
      rw [ed]
  obtain ⟨ts, rfl, tE, tc⟩ := pv
  rw [kvm, List.length_map, List.take_length] at tc
  have s23 := s2.trans s3
  simp only [tSortK, iVals, tDNewS, tDIn, tDNotIn, sDPut, tDPop1, tDGet2, tDGet, tCallKX, kwG_one, tEither, tTupS, tLstS, comp_K, capσ, sub_nil, sub_none, sub_some, tYes, List.replicate, Option.join_some, Option.join_none, SL_inj, iStr, tPart, tNoPart, tSl, tLst, tTup, cx_K, slT, CDiv, Int.reduceLT, Int.reduceLE, Int.reduceToNat, Int.reduceNeg, Int.reduceAdd, Int.reduceSub, Int.reduceMul, forall_const, tSeq, tNext, tIfS, tRet, tRetN, tDrop, tAsg, gName, gCons, gNil, tVar, tC, tOp, rI, rI0, tUn, rU, tTest, tB, tAnd, tOr, tNot, tAndV, tOrV, tNotV, tIf, tCons, tNil, tCallX, tCallL, tCB, sRaise, rEq, rNe, scal_ii, scal_bb, scal_ss, scal_ni, scal_in, tChain, tAug, ipI, L2.start, List.map_cons, List.map_nil, List.length_cons, List.length_nil, List.cons_append, List.nil_append, List.append_nil, List.replicate_succ, List.replicate_zero, Nat.reduceAdd, Nat.reduceSub, List.getElem?_cons_zero, List.getElem?_cons_succ, List.set_cons_zero, List.set_cons_succ, Option.some.injEq, V.int.injEq, V.bl.injEq, V.ref.injEq, V.str.injEq, exists_eq_left', exists_eq_left, exists_eq', exists_and_left, List.cons.injEq, and_true, true_and, and_self, and_assoc, decide_eq_true_eq, if_true, if_false, Bool.true_eq_false, Bool.false_eq_true, Bool.not_eq_true', Bool.not_true, Bool.not_false, decide_eq_false_iff_not, ite_true, ite_false, reduceCtorEq, false_and, exists_false, false_or, or_false, and_false, tComp, iList, Nat.reduceLeDiff]
  refine ⟨⟨_, s23.seq hS⟩, fun l2 hl2 aa => ?_⟩
  refine comp_by (fun j xs _ => ∃ os : List En, xs = os.map (·.1) ∧ (∀ y ∈ os, y ∈ zs) ∧ os.map ce = ((List.range j).filterMap (rowO es)).map rc) (lists_lst (s23.seq hS)) hl2 (by rw [List.length_map]; exact small_len (by omega)) (fun _ _ => ⟨[], rfl, (fun z h => nomatch h), rfl⟩) (fun j x xs H8 K1 K0 hx sm pv hl k1 k0 => ?_) (fun xs H4 s4 pv _ w4 => ?_)
  · obtain ⟨os, rfl, oz, oc⟩ := pv
    obtain ⟨z, hz, rfl⟩ : ∃ z, zs[j]? = some z ∧ x = z.1 := by
      rw [List.getElem?_map] at hx
      obtain ⟨u, e, rfl⟩ := Option.map_eq_some_iff.mp hx
      exact ⟨u, e, rfl⟩
    obtain ⟨pe, ee, q1, q2⟩ := (hE.same (s23.trans sm)) z (List.mem_of_getElem? hz)
    obtain ⟨r, er⟩ := chD_cons z.2.2.2
    rw [er] at q2
    have ez : es[j]? = some (ce z) := by rw [hes, List.getElem?_map, hz]; rfl
    have ro : rowO es j = if isOth z.2.2.2 = true then some (z.2.2.1, 1, (j : Int), z.2.2.2) else none := by
      unfold rowO
      rw [ez]
      rfl
    rw [ee]
    lge_open0
    refine ixT q1 (at_1 _ _ _) (ixT q2 (at_0 _ _) ⟨le_line (by simp), fun pg H5 _ s5 e5 => ⟨pg, _, rfl, .inr (SqT.of e5), rfl, rfl, _, rfl, ?_⟩⟩)
    have iv : inV (.str (SL (chW z.2.2.2))) [V.str (SL [103, 114, 97, 110, 116]), V.str (SL [98, 97, 99, 107])] = isOth z.2.2.2 := by rw [← chW_oth, ← inV_strs]; rfl
    rw [iv]
    by_cases ho : isOth z.2.2.2 = true
    · refine ite_t ho (k1 _ _ s5 fun H6 _ => ⟨os ++ [z], by rw [List.map_append, ← ee]; rfl, fun y hy => ?_, ?_⟩)
      · rcases List.mem_append.mp hy with h | h
        · exact oz y h
        · rw [List.mem_singleton.mp h]
          exact List.mem_of_getElem? hz
      · rw [rowO_succ, ro, if_pos ho, List.map_append, List.map_append, oc]
        rfl
    · refine ite_f ho (k0 _ s5 ⟨os, rfl, oz, ?_⟩)
      rw [rowO_succ, ro, if_neg ho, oc]
      simp
  obtain ⟨os, rfl, oz, oc⟩ := pv
  rw [List.length_map, ← esl] at oc
  have s24 := s23.trans s4
  have ol : os.length ≤ 40 := by
    have h1 := congrArg List.length oc
    rw [List.length_map, List.length_map] at h1
    have h2 := List.length_filterMap_le (rowO es) (List.range es.length)
    rw [List.length_range] at h2
    omega
  have tl : ts.length ≤ 40 := by
    have h1 := congrArg List.length tc
    rw [List.length_map, List.length_map] at h1
    omega
  try open_k0
  refine ⟨l1, l2, _, _, rfl, rfl, s4 _ _ w3, w4, le_line (by rw [List.length_map, List.length_map]; omega), fun r5 H5 _ s5 e5 => ?_⟩
  have s25 := s24.trans s5
  refine ⟨hT.same s25, fun H6 g6 t6 => ⟨r5, rfl, ?_⟩⟩
  obtain ⟨us, hus⟩ : ∃ us, us = ts ++ os := ⟨_, rfl⟩
  have e5' : H5 r5 = some (.lst (us.map (·.1))) := by rw [e5, hus, List.map_append]
  have uE5 : EnsAt K H5 us := fun y hy => by
    rw [hus] at hy
    rcases List.mem_append.mp hy with h | h
    · exact (tE.same (s4.trans s5)) y h
    · exact (hE.same s25) y (oz y h)
  have uc : us.map ce = (usR es).map rc := by rw [hus, List.map_append, tc, oc, hRT]; unfold usR; rw [List.map_append]
  have ul : us.length ≤ 63 ∧ us.length = (usR es).length := by
    have h1 := congrArg List.length uc
    rw [List.length_map, List.length_map] at h1
    have h2 := (rows_us es).length_eq
    have h3 := List.length_filterMap_le (rowA es) (List.range es.length)
    rw [List.length_range] at h3
    unfold rowsF rowsN at h2
    exact ⟨by omega, h1⟩
  have hT5 := hT.same s25
  obtain ⟨ps5, et5, _⟩ := id hT5
  have g6s : SameS H5 H6 := grew_sS g6 et5
  have uE6 := ens_sS uE5 g6s
  have kk : (usR es).map (·.1) = us.map fun u => u.2.2.1 := by
    have := congrArg (List.map (·.1)) uc
    rw [List.map_map, List.map_map] at this
    exact this.symm
  refine ⟨us.map (·.1), g6s.lst e5', (usR es).map (·.1), by rw [List.length_map, List.length_map, ul.2], by rw [List.length_map]; omega, fun i v z hv hz => ?_, fun ix hix r7 H7 n7 s7 e7 => ?_⟩
  · rw [List.getElem?_map] at hv
    obtain ⟨u, hu, rfl⟩ := Option.map_eq_some_iff.mp hv
    rw [kk, List.getElem?_map, hu] at hz
    cases hz
    obtain ⟨pe, ee, q1, _⟩ := uE6 u (List.mem_of_getElem? hu)
    rw [ee]
    exact ixT q1 (at_0 _ _) ⟨rfl, rfl⟩
  have inr : ∀ i ∈ ix, i < us.length := fun i hi => by
    have := List.mem_range.mp (hix.1.mem_iff.mp hi)
    rw [List.length_map] at this
    omega
  have gd : ∀ i, i < us.length → (us.map (·.1)).getD i .non = (us.getD i (.non, 0, 0, .back)).1 := fun i hi => by
    rw [List.getD_eq_getElem?_getD, List.getElem?_map, List.getD_eq_getElem?_getD, List.getElem?_eq_getElem hi]
    rfl
  have e7' : H7 r7 = some (.lst ((ix.map fun i => us.getD i (.non, 0, 0, .back)).map (·.1))) := by
    rw [e7, List.map_map]
    congr 2
    exact List.map_congr_left fun i hi => gd i (inr i hi)
  have hn : H r7 = none := by
    cases z : H r7 with
    | none => rfl
    | some o =>
      have z5 := s25 _ _ z
      by_cases y : r7 = t.p_in_time
      · obtain ⟨ps6, et6, _⟩ := t6
        rw [y, et6] at n7
        cases n7
      · rw [g6 _ _ y z5] at n7
        cases n7
  refine q r7 _ _ H7 hn ((same_sS s25).trans (g6s.trans (same_sS s7))) (Tab.same t6 s7) e7' (fun y hy => ?_) (by rw [← hes]; exact byKey_time hix) ?_
  · obtain ⟨i, hi, rfl⟩ := List.mem_map.mp hy
    exact (uE6.same s7) _ (getD_mem' (inr i hi))
  · rw [List.map_map, List.map_map]
    refine List.map_congr_left fun i hi => ?_
    have li := inr i hi
    have := congrArg (fun l => l[i]?) uc
    simp only [List.getElem?_map, List.getElem?_eq_getElem li, List.getElem?_eq_getElem (show i < (usR es).length by omega), Option.map_some, Option.some.injEq] at this
    show ce (us.getD i _) = rc ((usR es).getD i _)
    rw [List.getD_eq_getElem?_getD, List.getElem?_eq_getElem li, List.getD_eq_getElem?_getD, List.getElem?_eq_getElem (show i < (usR es).length by omega)]
    exact this
def spDue (K : PySem.W.Frag) : Sp := fun vs H Q _ => ∃ (a : Addr) (zs : List En), vs = [.ref a] ∧ SqL K H a (zs.map (·.1)) ∧ EnsAt K H zs ∧ zs.length ≤ 40 ∧ ∀ r rs so H', H r = none → Same H H' → H' r = some (.lst (rs.map (·.1))) → EnsAt K H' rs → IsTime (zs.map ce) so → rs.map ce = so.map rc → Q (.ref r) H'
theorem sc_xL_due : FnScope ["_law_entries_here", "_law_gone", "_law_entered", "_law_change_here", "_law_rows", "_law_number", "_law_found", "_law_least", "_law_row"] ["_law_entries_here"] (defScope s_xL_due) := ⟨rfl, rfl, rfl, by decide +kernel, rfl, by decide +kernel, by decide +kernel⟩
theorem ok_xL_due (T : Txt K mg t) : FnOk P w K mg base (CXE P w) 1 t.a_xL_due t.d_xL_due ["_law_entries_here"] (spDue K) := by
  refine T.fn_xL_due.okX sc_xL_due (fun vs H Q E h => ?_) (fun cdv A outer s H vs Q E L hr h => ?_)
  · obtain ⟨a, zs, rfl, hS, hE, z40, q⟩ := h
    rfl
  obtain ⟨a, zs, rfl, hS, hE, z40, q⟩ := h
  have nd := sc_xL_due.nd
  refine ⟨_, (pss_cons (ps_set (i := 1) nd rfl (Or.inl rfl) (pe_lstS pa_nil)) (pss_cons (ps_for (by passes_own) rfl (pi_list (pv 0)) (pg_tup (n := 2) rfl (pgs_cons (pg_name (i := 2) nd rfl (Or.inl rfl)) (pgs_cons (pg_name (i := 3) nd rfl (Or.inl rfl)) pgs_nil))) (pss_one (ps_if (pt_cmpR op_eq (pe_ix ix_tup (pv 3) pe_int (fun _ _ => rfl)) (pe_strL st_10) (nomark _)) (pss_one (ps_expr (pe_bm PySem.F.plainAttrs_list PySem.F.slot_list_append PySem.F.type_list_append mt_append (pv 1) (pa_cons (pe_ix ix_tup (pv 3) pe_int (fun _ _ => rfl)) pa_nil)))) pss_nil))) (pss_cons (ps_set (i := 4) nd rfl (Or.inl rfl) (pe_lstS pa_nil)) (pss_cons (ps_for (by passes_own) rfl (pi_range1 (by rfl) T.no_range (pa_cons (pe_callB call_len_seq (by rfl) T.no_len bb_len (pa_cons (pv 0) pa_nil)) pa_nil)) (pg_name (i := 5) nd rfl (Or.inl rfl)) (pss_cons (ps_asg (pe_ix ix_list (pv 0) (pv 5) (fun _ _ => rfl)) (pg_tup (n := 2) rfl (pgs_cons (pg_name (i := 2) nd rfl (Or.inl rfl)) (pgs_cons (pg_name (i := 3) nd rfl (Or.inl rfl)) pgs_nil)))) (pss_one (ps_if (pw_or (pt_cmpR op_eq (pe_ix ix_tup (pv 3) pe_int (fun _ _ => rfl)) (pe_strL st_9) (nomark _)) (pw_or1 (pt_cmpR op_eq (pe_ix ix_tup (pv 3) pe_int (fun _ _ => rfl)) (pe_strL st_11) (nomark _)))).pt (pss_one (ps_expr (pe_bm PySem.F.plainAttrs_list PySem.F.slot_list_append PySem.F.type_list_append mt_append (pv 4) (pa_cons (pe_tupS (pa_cons (pv 2) (pa_cons pe_int (pa_cons (pv 5) (pa_cons (pv 3) pa_nil star_Name) star_Name) star_Constant) star_Name)) pa_nil)))) (pss_one (ps_if (pw_and (pt_cmpR op_ne (pe_ix ix_tup (pv 3) pe_int (fun _ _ => rfl)) (pe_strL st_10) (nomark _)) (pw_and1 (pt_cmpR op_notIn_seq (pv 5) (pv 1) rfl))).pt (pss_one (ps_expr (pe_bm PySem.F.plainAttrs_list PySem.F.slot_list_append PySem.F.type_list_append mt_append (pv 4) (pa_cons (pe_tupS (pa_cons (pe_ix ix_tup (pv 3) pe_int (fun _ _ => rfl)) (pa_cons pe_int (pa_cons (pv 5) (pa_cons (pv 3) pa_nil star_Name) star_Name) star_Constant) star_Subscript)) pa_nil)))) pss_nil)))))) (pss_cons (ps_set (i := 6) nd rfl (Or.inl rfl) (pe_lstS pa_nil)) (pss_cons (ps_while (by passes_own) (pt_cmpR (op_neD hr) (pv 4) (pe_lstS pa_nil) (nomark _)) (pss_cons (ps_set (i := 7) nd rfl (Or.inl rfl) (pe_ix ix_list (pv 4) pe_int (fun _ _ => rfl))) (pss_cons (ps_for (by passes_own) rfl (pi_list (pv 4)) (pg_name (i := 8) nd rfl (Or.inl rfl)) (pss_one (ps_if (pt_cmpR (op_lt3E hr) (pe_slice sl_tup (pv 8) po_none (po_some pe_int)) (pe_slice sl_tup (pv 7) po_none (po_some pe_int)) (nomark _)) (pss_one (ps_set (i := 7) nd rfl (Or.inl rfl) (pv 8))) pss_nil))) (pss_cons (ps_expr (pe_bm PySem.F.plainAttrs_list PySem.F.slot_list_remove PySem.F.type_list_remove (mt_removeD hr) (pv 4) (pa_cons (pv 7) pa_nil))) (pss_one (ps_expr (pe_bm PySem.F.plainAttrs_list PySem.F.slot_list_append PySem.F.type_list_append mt_append (pv 6) (pa_cons (pe_tupS (pa_cons (pe_ix ix_tup (pv 7) pe_int (fun _ _ => rfl)) (pa_cons (pe_ix ix_tup (pv 7) pe_int (fun _ _ => rfl)) pa_nil star_Subscript) star_Subscript)) pa_nil)))))))) (pss_one (ps_ret (pv 6))))))))), ?_⟩
  obtain ⟨es, hes⟩ : ∃ es, es = zs.map ce := ⟨_, rfl⟩
  have esl : es.length = zs.length := by rw [hes, List.length_map]
  have ecs : es.map (·.2) = chs zs := by rw [hes, ces_snd]
  rw [← hes] at q
  open_k0
  intro l1 H1 n1 s1 e1
  ((try dsimp only); refine for_by fun R hR => ?_; simp only [tSortK, iVals, tDNewS, tDIn, tDNotIn, sDPut, tDPop1, tDGet2, tDGet, tCallKX, kwG_one, tEither, tTupS, tLstS, comp_K, capσ, sub_nil, sub_none, sub_some, tYes, List.replicate, Option.join_some, Option.join_none, SL_inj, iStr, tPart, tNoPart, tSl, tLst, tTup, cx_K, slT, CDiv, Int.reduceLT, Int.reduceLE, Int.reduceToNat, Int.reduceNeg, Int.reduceAdd, Int.reduceSub, Int.reduceMul, forall_const, tSeq, tNext, tIfS, tRet, tRetN, tDrop, tAsg, gName, gCons, gNil, tVar, tC, tOp, rI, rI0, tUn, rU, tTest, tB, tAnd, tOr, tNot, tAndV, tOrV, tNotV, tIf, tCons, tNil, tCallX, tCallL, tCB, sRaise, rEq, rNe, scal_ii, scal_bb, scal_ss, scal_ni, scal_in, tChain, tAug, ipI, L2.start, List.map_cons, List.map_nil, List.length_cons, List.length_nil, List.cons_append, List.nil_append, List.append_nil, List.replicate_succ, List.replicate_zero, Nat.reduceAdd, Nat.reduceSub, List.getElem?_cons_zero, List.getElem?_cons_succ, List.set_cons_zero, List.set_cons_succ, Option.some.injEq, V.int.injEq, V.bl.injEq, V.ref.injEq, V.str.injEq, exists_eq_left', exists_eq_left, exists_eq', exists_and_left, List.cons.injEq, and_true, true_and, and_self, and_assoc, decide_eq_true_eq, if_true, if_false, Bool.true_eq_false, Bool.false_eq_true, Bool.not_eq_true', Bool.not_true, Bool.not_false, decide_eq_false_iff_not, ite_true, ite_false, reduceCtorEq, false_and, exists_false, false_or, or_false, and_false, iList, iTup, iZip, iEnum, iRng1, iRng2, Nat.reduceLeDiff])
  refine ⟨⟨_, s1.seq hS⟩, hR _ _ ?_⟩
  clear hR
  refine for_list (xs := zs.map (·.1)) (fun i σ1 H2 => Same H H2 ∧ H2 l1 = some (.lst ((goneF (chs (zs.take i))).map V.int)) ∧ ∃ (x2 x3 : Option V), σ1 = [some (.ref a), some (.ref l1), x2, x3, none, none, none, none, none]) ⟨s1, e1, _, _, rfl⟩ (fun i σ1 H2 _ h => h.1.seq hS) (fun i x σ1 H2 hx h => ?_) (fun σ1 H2 h => ?_)
  · obtain ⟨s2, e2, x2, x3, rfl⟩ := h
    obtain ⟨z, hz, rfl⟩ : ∃ z, zs[i]? = some z ∧ x = z.1 := by
      rw [List.getElem?_map] at hx
      obtain ⟨u, e, rfl⟩ := Option.map_eq_some_iff.mp hx
      exact ⟨u, e, rfl⟩
    obtain ⟨pe, ee, q1, q2⟩ := (hE.same s2) z (List.mem_of_getElem? hz)
    have gl := gone_len (chs (zs.take i))
    rw [chs_len, List.length_take] at gl
    have gs : goneF (chs (zs.take (i + 1))) = goneF (chs (zs.take i)) ++ goneF [z.2.2.2] := by
      rw [List.take_add_one, hz, show chs (zs.take i ++ (some z).toList) = chs (zs.take i) ++ [z.2.2.2] by unfold chs; rw [List.map_append]; rfl, gone_append]
    rw [ee]
    open_k0
    refine ⟨pe, _, rfl, q1, rfl, ?_⟩
    lgec_open0
    obtain ⟨r, er⟩ := chD_cons z.2.2.2
    have q2' := q2
    rw [er] at q2'
    refine ixT q2' (at_0 _ _) ⟨rfl, ?_⟩
    by_cases hu : chW z.2.2.2 = [117, 110, 100, 111]
    · obtain ⟨k, hk⟩ := chW_undo hu
      rw [hk] at q2 gs
      have q3 : SqT K H2 z.2.1 [.str (SL [117, 110, 100, 111]), .int k] := q2
      refine ite_t (by rw [hu]) ⟨.inl ⟨rfl, _, SqL.of e2⟩, ixT q3 (at_1 _ _ _) ⟨l1, _, _, rfl, rfl, e2, small_len (by rw [List.length_map]; omega), ?_⟩⟩
      refine ⟨s2.put n1 _, ?_⟩
      rw [upd_same, gs, List.map_append]
      rfl
    · refine ite_f (str_ne hu) ⟨s2, ?_⟩
      rw [gs, gone_one hu, List.append_nil]
      exact e2
  obtain ⟨s2, e2, x2, x3, rfl⟩ := h
  rw [List.length_map, List.take_length, ← ecs] at e2
  open_k0
  intro l2 H3 n3 s3 e3
  have n2 : H l2 = none := Same.free s2 n3
  have s23 := s2.trans s3
  have l12 : l1 ≠ l2 := fun z => by rw [← z, e2] at n3; cases n3
  ((try dsimp only); refine for_by fun R hR => ?_; simp only [tSortK, iVals, tDNewS, tDIn, tDNotIn, sDPut, tDPop1, tDGet2, tDGet, tCallKX, kwG_one, tEither, tTupS, tLstS, comp_K, capσ, sub_nil, sub_none, sub_some, tYes, List.replicate, Option.join_some, Option.join_none, SL_inj, iStr, tPart, tNoPart, tSl, tLst, tTup, cx_K, slT, CDiv, Int.reduceLT, Int.reduceLE, Int.reduceToNat, Int.reduceNeg, Int.reduceAdd, Int.reduceSub, Int.reduceMul, forall_const, tSeq, tNext, tIfS, tRet, tRetN, tDrop, tAsg, gName, gCons, gNil, tVar, tC, tOp, rI, rI0, tUn, rU, tTest, tB, tAnd, tOr, tNot, tAndV, tOrV, tNotV, tIf, tCons, tNil, tCallX, tCallL, tCB, sRaise, rEq, rNe, scal_ii, scal_bb, scal_ss, scal_ni, scal_in, tChain, tAug, ipI, L2.start, List.map_cons, List.map_nil, List.length_cons, List.length_nil, List.cons_append, List.nil_append, List.append_nil, List.replicate_succ, List.replicate_zero, Nat.reduceAdd, Nat.reduceSub, List.getElem?_cons_zero, List.getElem?_cons_succ, List.set_cons_zero, List.set_cons_succ, Option.some.injEq, V.int.injEq, V.bl.injEq, V.ref.injEq, V.str.injEq, exists_eq_left', exists_eq_left, exists_eq', exists_and_left, List.cons.injEq, and_true, true_and, and_self, and_assoc, decide_eq_true_eq, if_true, if_false, Bool.true_eq_false, Bool.false_eq_true, Bool.not_eq_true', Bool.not_true, Bool.not_false, decide_eq_false_iff_not, ite_true, ite_false, reduceCtorEq, false_and, exists_false, false_or, or_false, and_false, iList, iTup, iZip, iEnum, iRng1, iRng2, Nat.reduceLeDiff])
  refine ⟨_, .inl (s23.seq hS), ?_⟩
  rw [List.length_map]
  refine ⟨by omega, by omega, hR _ _ ?_⟩
  clear hR
  rw [Int.toNat_natCast]
  obtain ⟨Pv, hPv⟩ : ∃ Pv : Nat → St → Hp → Prop, Pv = fun (i : Nat) σ1 H4 => Same H H4 ∧ H4 l1 = some (.lst ((goneF (es.map (·.2))).map V.int)) ∧ ∃ (ws : List Rx) (x2 x3 x5 : Option V), H4 l2 = some (.lst (ws.map fun w => V.ref w.1)) ∧ RowsAt K H4 ws ∧ ws.map (·.2.2) = rowsN es i ∧ σ1 = [some (.ref a), some (.ref l1), x2, x3, some (.ref l2), x5, none, none, none] := ⟨_, rfl⟩
  refine for_range (n := zs.length) Pv (by rw [hPv]; exact ⟨s23, s3 _ _ e2, [], _, _, _, e3, (fun x h => nomatch h), rfl, rfl⟩) (fun i σ1 H4 hi hv => ?_) (fun σ1 H4 hv => ?_)
  · rw [hPv] at hv
    obtain ⟨s4, g4, ws, x2, x3, x5, f4, wA, wr, rfl⟩ := hv
    obtain ⟨z, hz⟩ : ∃ z, zs[i]? = some z := ⟨zs[i], List.getElem?_eq_getElem hi⟩
    obtain ⟨pe, ee, q1, q2⟩ := (hE.same s4) z (List.mem_of_getElem? hz)
    have ra := rowA_of (es := es) (i := i) (e := ce z) (by rw [hes, List.getElem?_map, hz]; rfl)
    have wl : ws.length ≤ i := by
      have h1 := congrArg List.length wr
      rw [List.length_map] at h1
      have h2 := rowsN_len es i
      omega
    have add : ∀ (pn : Addr) (H6 : Hp) (r : Row) (y2 y3 y5 : Option V), Same H4 H6 → H6 pn = some (.tup [.int r.1, .int r.2.1, .int r.2.2.1, .ref z.2.1]) → r.2.2.2 = z.2.2.2 → rowA es i = some r → Pv (i + 1) [some (.ref a), some (.ref l1), y2, y3, some (.ref l2), y5, none, none, none] (upd H6 l2 (.lst ((ws.map fun w => V.ref w.1) ++ [.ref pn]))) := fun pn H6 r y2 y3 y5 s6 e6 er hr' => by
      rw [hPv]
      have f6 := s6 _ _ f4
      refine ⟨(s4.trans s6).put n2 _, by rw [upd_ne l12]; exact s6 _ _ g4, ws ++ [(pn, z.2.1, r)], _, _, _, by rw [upd_same, List.map_append]; rfl, RowsAt.off (fun x hx => ?_) f6, by rw [rowsN_succ, hr', List.map_append, wr]; rfl, rfl⟩
      rcases List.mem_append.mp hx with h | h
      · exact (wA.same s6) x h
      · rw [List.mem_singleton.mp h]
        refine ⟨e6, ?_⟩
        have := s6.sqT q2
        rw [← er] at this
        exact this
    have skip' : ∀ (y2 y3 y5 : Option V), rowA es i = none → Pv (i + 1) [some (.ref a), some (.ref l1), y2, y3, some (.ref l2), y5, none, none, none] H4 := fun y2 y3 y5 hr' => by
      rw [hPv]
      exact ⟨s4, g4, ws, _, _, _, f4, wA, by rw [rowsN_succ, hr', wr]; simp, rfl⟩
    clear hPv
    lgec_open0
    refine ixL (v := z.1) (s4.seq hS) (by rw [Int.zero_add]; exact atI_nat (by rw [List.getElem?_map, hz]; rfl)) ?_
    rw [ee]
    refine ⟨pe, _, rfl, q1, rfl, ?_⟩
    lgec_open0
    obtain ⟨r, er⟩ := chD_cons z.2.2.2
    have q2' := q2
    rw [er] at q2'
    have oth := chW_oth z.2.2.2
    rw [Int.zero_add]
    have app : ∀ (r : Row), r.2.2.2 = z.2.2.2 → rowA es i = some r → (tyV K "list" (V.ref l2) H4 ∧ New H4 (.tup [.int r.1, .int r.2.1, .int r.2.2.1, .ref z.2.1]) fun x H1 => rAppend (V.ref l2) [x] H1 fun _ H' => Pv (i + 1) [some (.ref a), some (.ref l1), some (.int z.2.2.1), some (.ref z.2.1), some (.ref l2), some (.int (i : Int)), none, none, none] H') := fun r h1 h2 =>
      ⟨.inl ⟨rfl, _, SqL.of f4⟩, fun pn H6 _ s6 e6 => ⟨l2, _, _, rfl, rfl, s6 _ _ f4, small_len (by rw [List.length_map]; omega), add pn H6 r _ _ _ s6 e6 h1 h2⟩⟩
    refine ixT q2' (at_0 _ _) ⟨rfl, ?_⟩
    by_cases hg : chW z.2.2.2 = [103, 114, 97, 110, 116]
    · have io : isOth z.2.2.2 = true := by rw [← oth, hg]; rfl
      exact ite_t (by rw [hg]) (app (z.2.2.1, 1, (i : Int), z.2.2.2) rfl (by rw [ra, if_pos (show isOth (ce z).2 = true from io)]; rfl))
    refine ite_f (str_ne hg) (ixT q2' (at_0 _ _) ⟨rfl, ?_⟩)
    by_cases hb : chW z.2.2.2 = [98, 97, 99, 107]
    · have io : isOth z.2.2.2 = true := by rw [← oth, hb]; rfl
      exact ite_t (by rw [hb]) (app (z.2.2.1, 1, (i : Int), z.2.2.2) rfl (by rw [ra, if_pos (show isOth (ce z).2 = true from io)]; rfl))
    have io : ¬ isOth (ce z).2 = true := by
      show ¬ isOth z.2.2.2 = true
      rw [← oth, decide_eq_true_eq]
      simp only [List.mem_cons, List.not_mem_nil, or_false]
      exact fun y => y.elim hg hb
    rw [if_neg io] at ra
    refine ite_f (str_ne hb) (ixT q2' (at_0 _ _) ⟨rfl, ?_⟩)
    by_cases hu : chW z.2.2.2 = [117, 110, 100, 111]
    · obtain ⟨k, hk⟩ := chW_undo hu
      refine ite_f (fun y => y (by rw [hu])) (skip' _ _ _ ?_)
      rw [ra, if_neg (by show ¬ (isTm z.2.2.2 && _) = true; rw [hk]; exact Bool.false_ne_true)]
    refine ite_t (str_ne hu) ⟨l1, _, rfl, .inl (SqL.of g4), rfl, by rw [List.all_map, List.all_eq_true]; intro _ _; rfl, _, rfl, ?_⟩
    rw [inV_ints]
    have tm : isTm z.2.2.2 = true := by
      have io' : ¬ isOth z.2.2.2 = true := io
      generalize z.2.2.2 = c at io' hu
      cases c with
      | plan => rfl
      | seats => rfl
      | word => rfl
      | undo k => exact absurd rfl hu
      | grant g => exact absurd rfl io'
      | back => exact absurd rfl io'
    obtain ⟨r', er'⟩ := chD_head z.2.2.2 tm
    have q2h := q2
    rw [er'] at q2h
    by_cases hgo : (i : Int) ∈ goneF (es.map (·.2))
    · refine ite_f (by rw [decide_eq_true hgo]; decide) (skip' _ _ _ ?_)
      rw [ra, if_neg (by rw [decide_eq_true hgo, Bool.not_true, Bool.and_false]; exact Bool.false_ne_true)]
    · refine ite_t (by rw [decide_eq_false hgo]; rfl) ⟨.inl ⟨rfl, _, SqL.of f4⟩, ixT q2h (at_1 _ _ _) ?_⟩
      exact (app (chDay z.2.2.2, 0, (i : Int), z.2.2.2) rfl (by rw [ra, if_pos (by show (isTm z.2.2.2 && _) = true; rw [tm, decide_eq_false hgo]; rfl)]; rfl)).2
  rw [hPv] at hv
  clear hPv
  obtain ⟨s4, g4, ws, x2, x3, x5, f4, wA, wr, rfl⟩ := hv
  rw [← esl] at wr
  open_k0
  intro l3 H5 n5 s5 e5
  have n3' : H l3 = none := Same.free s4 n5
  have l23 : l2 ≠ l3 := fun z => by rw [← z, f4] at n5; cases n5
  obtain ⟨Pw, hPw⟩ : ∃ Pw : St → Hp → Prop, Pw = fun σ1 H6 => Same H H6 ∧ ∃ (ws : List Rx) (rs : List En) (so : List Row) (x2 x3 x5 x7 x8 : Option V), H6 l2 = some (.lst (ws.map fun w => V.ref w.1)) ∧ RowsAt K H6 ws ∧ H6 l3 = some (.lst (rs.map (·.1))) ∧ EnsAt K H6 rs ∧ rs.map ce = so.map rc ∧ (so ++ ws.map (·.2.2)).Perm (rowsF es) ∧ so.Pairwise rLt ∧ (∀ r ∈ so, ∀ w ∈ ws, rLt r w.2.2) ∧ ws.Pairwise (fun x y => x.2.2.2.2.1 ≠ y.2.2.2.2.1) ∧ rs.length + ws.length ≤ 40 ∧ σ1 = [some (.ref a), some (.ref l1), x2, x3, some (.ref l2), x5, some (.ref l3), x7, x8] := ⟨_, rfl⟩
  obtain ⟨mu, hmu⟩ : ∃ mu : St → Hp → Nat, mu = fun _ H6 => (match H6 l2 with | some (.lst xs) => xs.length | _ => 0) := ⟨_, rfl⟩
  have muat : ∀ (σ1 : St) (H6 : Hp) (xs : List V), H6 l2 = some (.lst xs) → mu σ1 H6 = xs.length := fun σ1 H6 xs e => by rw [hmu]; dsimp only; rw [e]
  clear hmu
  have wn : ws.Pairwise (fun x y => x.2.2.2.2.1 ≠ y.2.2.2.2.1) := by
    have h1 := rowsN_num es es.length
    rw [← wr, List.pairwise_map] at h1
    exact h1.imp fun h => Int.ne_of_lt h
  have wl : ws.length ≤ 40 := by
    have h1 := congrArg List.length wr
    rw [List.length_map] at h1
    have h2 := rowsN_len es es.length
    omega
  refine while_by Pw mu (by rw [hPw]; exact ⟨s4.trans s5, ws, [], [], _, _, _, _, _, s5 _ _ f4, wA.same s5, e5, (fun z h => nomatch h), rfl, by rw [List.nil_append, wr]; exact .refl _, .nil, (fun r h => nomatch h), wn, by rw [List.length_nil]; omega, rfl⟩) (fun σ1 H6 h => ?_) ?_
  · rw [hPw] at h
    obtain ⟨s6, vs, rs, so, y2, y3, y5, y7, y8, f6, vA, g6, rE, rce, pm, pw, lt, nn, l40, rfl⟩ := h
    open_k0
    intro pe H7 _ s7 e7
    have f7 := s7 _ _ f6
    have g7 := s7 _ _ g6
    have vA7 := vA.same s7
    refine ⟨2, .lst (vs.map fun x => rowD x.2.2), .lst [], Dp_lst (SqL.of f7) vA7.all2, Dp_lst (SqL.of e7) trivial, rfl, rfl, by decide, (by intro j x y _ h; cases h), _, rfl, ?_⟩
    cases hvs : vs with
    | nil =>
      refine ite_f (by decide) ?_
      subst hvs
      rw [List.map_nil, List.append_nil] at pm
      exact q l3 rs so H7 n3' (s6.trans s7) g7 (rE.same s7) ⟨pm, pw⟩ rce
    | cons w0 vs' =>
      refine ite_t rfl ?_
      have h0 : vs[0]? = some w0 := by rw [hvs]; rfl
      refine ixL (v := .ref w0.1) (SqL.of f7) (atI_nat (j := 0) (by rw [List.getElem?_map, h0]; rfl)) ?_
      ((try dsimp only); refine for_by fun R hR => ?_; simp only [tSortK, iVals, tDNewS, tDIn, tDNotIn, sDPut, tDPop1, tDGet2, tDGet, tCallKX, kwG_one, tEither, tTupS, tLstS, comp_K, capσ, sub_nil, sub_none, sub_some, tYes, List.replicate, Option.join_some, Option.join_none, SL_inj, iStr, tPart, tNoPart, tSl, tLst, tTup, cx_K, slT, CDiv, Int.reduceLT, Int.reduceLE, Int.reduceToNat, Int.reduceNeg, Int.reduceAdd, Int.reduceSub, Int.reduceMul, forall_const, tSeq, tNext, tIfS, tRet, tRetN, tDrop, tAsg, gName, gCons, gNil, tVar, tC, tOp, rI, rI0, tUn, rU, tTest, tB, tAnd, tOr, tNot, tAndV, tOrV, tNotV, tIf, tCons, tNil, tCallX, tCallL, tCB, sRaise, rEq, rNe, scal_ii, scal_bb, scal_ss, scal_ni, scal_in, tChain, tAug, ipI, L2.start, List.map_cons, List.map_nil, List.length_cons, List.length_nil, List.cons_append, List.nil_append, List.append_nil, List.replicate_succ, List.replicate_zero, Nat.reduceAdd, Nat.reduceSub, List.getElem?_cons_zero, List.getElem?_cons_succ, List.set_cons_zero, List.set_cons_succ, Option.some.injEq, V.int.injEq, V.bl.injEq, V.ref.injEq, V.str.injEq, exists_eq_left', exists_eq_left, exists_eq', exists_and_left, List.cons.injEq, and_true, true_and, and_self, and_assoc, decide_eq_true_eq, if_true, if_false, Bool.true_eq_false, Bool.false_eq_true, Bool.not_eq_true', Bool.not_true, Bool.not_false, decide_eq_false_iff_not, ite_true, ite_false, reduceCtorEq, false_and, exists_false, false_or, or_false, and_false, iList, iTup, iZip, iEnum, iRng1, iRng2, Nat.reduceLeDiff])
      refine ⟨⟨_, SqL.of f7⟩, hR _ _ ?_⟩
      clear hR
      refine for_list (xs := vs.map fun w => V.ref w.1) (fun (i : Nat) σ1 H8 => Same H7 H8 ∧ ∃ (j : Nat) (w : Rx) (z8 : Option V), vs[j]? = some w ∧ (∀ (m : Nat) (wm : Rx), m < i → vs[m]? = some wm → ¬ rLt wm.2.2 w.2.2) ∧ σ1 = [some (.ref a), some (.ref l1), y2, y3, some (.ref l2), y5, some (.ref l3), some (.ref w.1), z8]) ⟨Same.refl _, 0, w0, _, h0, (fun m wm h => by omega), rfl⟩ (fun i σ1 H8 _ h => SqL.of (h.1 _ _ f7)) (fun i x σ1 H8 hx h => ?_) (fun σ1 H8 h => ?_)
      · obtain ⟨s8, j, w, z8, hj, least, rfl⟩ := h
        obtain ⟨wi, hwi, rfl⟩ : ∃ wi, vs[i]? = some wi ∧ x = V.ref wi.1 := by
          rw [List.getElem?_map] at hx
          obtain ⟨u, e, rfl⟩ := Option.map_eq_some_iff.mp hx
          exact ⟨u, e, rfl⟩
        have t1 := ((vA7.same s8) wi (List.mem_of_getElem? hwi)).1
        have t2 := ((vA7.same s8) w (List.mem_of_getElem? hj)).1
        open_k0
        refine slT3 (SqT.of t1) fun p1 H9 _ s9 e9 => slT3 (SqT.of (s9 _ _ t2)) fun p2 H10 _ s10 e10 => ⟨p1, p2, _, _, _, _, _, _, rfl, rfl, s10 _ _ e9, e10, _, rfl, ?_⟩
        have s810 := (s8.trans s9).trans s10
        by_cases c : rLt wi.2.2 w.2.2
        · refine ite_t ((lt3_row _ _).mpr c) ⟨s810, i, wi, hwi, fun m wm hm hwm => ?_, rfl⟩
          by_cases em : m = i
          · subst em
            rw [hwi] at hwm
            cases hwm
            exact rLt_irr _
          · exact fun y => least m wm (by omega) hwm (rLt_trans y c)
        · refine ite_f (fun y => c ((lt3_row _ _).mp y)) ⟨s810, j, w, hj, fun m wm hm hwm => ?_, rfl⟩
          by_cases em : m = i
          · subst em
            rw [hwi] at hwm
            cases hwm
            exact c
          · exact least m wm (by omega) hwm
      · obtain ⟨s8, j, w, z8, hj, least, rfl⟩ := h
        rw [List.length_map] at least
        have jl := (List.getElem?_eq_some_iff.mp hj).1
        have f8 := s8 _ _ f7
        have g8 := s8 _ _ g7
        have vA8 := vA7.same s8
        have t2 := vA8 w (List.mem_of_getElem? hj)
        lgec_open0
        refine ⟨.inl ⟨rfl, _, SqL.of f8⟩, l2, _, _, 2, j, vs.map (fun x => rowD x.2.2), rowD w.2.2, rfl, rfl, f8, vA8.all2, Dp_tup (SqT.of t2.1) ⟨Dp_int, Dp_int, Dp_int, Dp_tup t2.2 (chD_all2 _), trivial⟩, by decide, fun e he => ?_, by rw [List.getElem?_map, hj]; rfl, fun m e hm he => ?_, ?_⟩
        · obtain ⟨v, _, rfl⟩ := List.mem_map.mp he
          exact rowD_cmp _ _
        · rw [List.getElem?_map] at he
          obtain ⟨v, hv, rfl⟩ := Option.map_eq_some_iff.mp he
          have ml := (List.getElem?_eq_some_iff.mp hv).1
          refine rowD_ne ?_
          have := List.pairwise_iff_getElem.mp nn m j ml jl hm
          rw [List.getElem?_eq_getElem ml] at hv
          rw [List.getElem?_eq_getElem jl] at hj
          cases hv
          cases hj
          exact this
        have e9 : upd H8 l2 (.lst ((vs.map fun w => V.ref w.1).eraseIdx j)) l2 = some (.lst ((vs.eraseIdx j).map fun w => V.ref w.1)) := by rw [upd_same, erase_mapF]
        have g9 : upd H8 l2 (.lst ((vs.map fun w => V.ref w.1).eraseIdx j)) l3 = some (.lst (rs.map (·.1))) := by rw [upd_ne (Ne.symm l23)]; exact g8
        have A9 : RowsAt K (upd H8 l2 (.lst ((vs.map fun w => V.ref w.1).eraseIdx j))) vs := vA8.off f8
        have E9 : EnsAt K (upd H8 l2 (.lst ((vs.map fun w => V.ref w.1).eraseIdx j))) rs := (rE.same (s7.trans s8)).off f8 fun b o n e => by rw [upd_ne n]; exact e
        have S9 : Same H (upd H8 l2 (.lst ((vs.map fun w => V.ref w.1).eraseIdx j))) := ((s6.trans s7).trans s8).put n2 _
        generalize upd H8 l2 (.lst ((vs.map fun w => V.ref w.1).eraseIdx j)) = H9 at e9 g9 A9 E9 S9 ⊢
        have t9 := A9 w (List.mem_of_getElem? hj)
        refine ⟨.inl ⟨rfl, _, SqL.of g9⟩, ixT (SqT.of t9.1) (at_0 _ _) (ixT (SqT.of t9.1) (at_3 _ _ _ _ _) fun pn H10 _ s10 e10 => ⟨l3, _, _, rfl, rfl, s10 _ _ g9, small_len (by rw [List.length_map]; omega), ?_⟩)⟩
        have g10 := s10 _ _ g9
        have np : pn ≠ l3 := fun y => by rw [y, g10] at e10; cases e10
        have mj : ∀ v ∈ vs.eraseIdx j, v ∈ vs ∧ rLt w.2.2 v.2.2 := fun v hv => by
          obtain ⟨m, hm, hvm⟩ := List.mem_eraseIdx_iff_getElem?.mp hv
          have ml := (List.getElem?_eq_some_iff.mp hvm).1
          refine ⟨List.mem_of_getElem? hvm, rLt_total ?_ (least m v ml hvm)⟩
          rw [List.getElem?_eq_getElem ml] at hvm
          rw [List.getElem?_eq_getElem jl] at hj
          cases hvm
          cases hj
          rcases Nat.lt_or_gt_of_ne hm with h | h
          · exact fun y => (List.pairwise_iff_getElem.mp nn m j ml jl h) y.symm
          · exact List.pairwise_iff_getElem.mp nn j m jl ml h
        have pe' : vs.Perm (w :: vs.eraseIdx j) := perm_erase hj
        have el : (vs.eraseIdx j).length + 1 = vs.length := by
          have := pe'.length_eq
          rw [List.length_cons] at this
          omega
        have l2at : upd H10 l3 (.lst (rs.map (·.1) ++ [.ref pn])) l2 = some (.lst ((vs.eraseIdx j).map fun w => V.ref w.1)) := by rw [upd_ne l23]; exact s10 _ _ e9
        refine ⟨?_, ?_⟩
        · rw [hPw]
          refine ⟨(S9.trans s10).put n3' _, vs.eraseIdx j, rs ++ [(.ref pn, w.2.1, w.2.2.1, w.2.2.2.2.2)], so ++ [w.2.2], _, _, _, _, _, l2at, RowsAt.off (fun v hv => (A9.same s10) v (mj v hv).1) g10, by rw [upd_same, List.map_append]; rfl, fun v hv => ?_, by rw [List.map_append, List.map_append, rce]; rfl, ?_, ?_, fun r hr v hv => ?_, nn.sublist (List.eraseIdx_sublist ..), by rw [List.length_append, List.length_singleton]; omega, rfl⟩
          · rcases List.mem_append.mp hv with h | h
            · exact ((E9.same s10).off g10 fun b o n e => by rw [upd_ne n]; exact e) v h
            · rw [List.mem_singleton.mp h]
              refine ⟨pn, rfl, SqT.of (by rw [upd_ne np]; exact e10), ?_⟩
              exact sqT_off2 (s10.sqT t9.2) g10 g10 fun b o n _ e => by rw [upd_ne n]; exact e
          · rw [List.append_assoc]
            exact (List.Perm.append_left so (pe'.map (·.2.2)).symm).trans pm
          · rw [List.pairwise_append]
            refine ⟨pw, List.pairwise_singleton .., fun r hr v hv => ?_⟩
            rw [List.mem_singleton.mp hv]
            exact lt r hr w (List.mem_of_getElem? hj)
          · rcases List.mem_append.mp hr with h | h
            · exact lt r h v (mj v hv).1
            · rw [List.mem_singleton.mp h]
              exact (mj v hv).2
        · rw [muat _ _ _ l2at, muat _ _ _ f6, List.length_map, List.length_map]
          omega
  · intro σ1 H6 Q1 Q2 hm h
    obtain ⟨x, hx, hlen, h3⟩ := h
    refine ⟨x, hx, hlen, fun p H' a1 a2 a3 => ?_⟩
    obtain ⟨n, d, e, p1, p2, p3, p4, p5, p6, k, ek, r⟩ := h3 p H' a1 a2 a3
    exact ⟨n, d, e, p1, p2, p3, p4, p5, p6, k, ek, hm _ _ r⟩
def spLaw (K : PySem.W.Frag) (T : Addr) : Sp := fun vs H Q _ => ∃ (a : Addr) (ns : List Int), vs = [.ref a] ∧ SqL K H a (ns.map V.int) ∧ ns.length ≤ 63 ∧ H T = some (.tbl #[]) ∧ ∀ H', Q (.bl true) H'
theorem ensOk_undo {nms : List (List Nat)} {f e : Int} {zs : List En} (h : EnsOk nms f e zs) : UndoOk (chs zs) := fun i k hi => by
  unfold chs at hi
  rw [List.getElem?_map] at hi
  obtain ⟨z, hz, ez⟩ := Option.map_eq_some_iff.mp hi
  have := (h i z hz).2.2.2
  rw [ez, chs_take] at this
  exact this
theorem acc_sS {K : PySem.W.Frag} {H H' : Hp} {p : Addr} {f : Int} {dy : Bool} {cc : Int} {zs : List (V × Pl)} (h : Acc K H p f dy cc zs) (s : SameS H H') : Acc K H' p f dy cc zs := by
  obtain ⟨l, ⟨pc, h1, h2, h3, h4⟩, h5, h6, h7⟩ := h
  exact ⟨l, ⟨pc, h1, h2, ⟨s.sqT h3.1, h3.2⟩, s.tup h4⟩, s.seq h5, fun z hz => (let ⟨q, e, g⟩ := h6 z hz; ⟨q, e, s.sqT g⟩), h7⟩
/-- what is in time is in order -/
theorem time_ok {nms : List (List Nat)} {f e : Int} {ys rs : List En} {so : List Row} (h : EnsOk nms f e ys) (it : IsTime (ys.map ce) so) (hr : rs.map ce = so.map rc) : EnsOk nms f e rs ∧ UndoOk (chs rs) ∧ rs.length ≤ ys.length := by
  have row : ∀ r ∈ so, (f ≤ r.1 ∧ r.1 < e) ∧ (∀ L, ChIn nms f e L r.2.2.2) ∧ ∀ k, r.2.2.2 ≠ .undo k := fun r hr => by
    obtain ⟨i, _, hi⟩ := List.mem_filterMap.mp (it.1.mem_iff.mp hr)
    rcases (rowA_at hi).2 with ⟨_, b1, b2⟩ | ⟨_, b1, b2, b3, _⟩
    · rw [List.getElem?_map] at b1
      obtain ⟨z, hz, ez⟩ := Option.map_eq_some_iff.mp b1
      have ez' : (z.2.2.1, z.2.2.2) = (r.1, r.2.2.2) := ez
      have e1 : z.2.2.1 = r.1 := congrArg Prod.fst ez'
      have e2 : z.2.2.2 = r.2.2.2 := by injection ez'
      have hz' := h i z hz
      rw [e1, e2] at hz'
      obtain ⟨c1, c2, _, c4⟩ := hz'
      generalize r.2.2.2 = c at b2 c4
      cases c with
      | grant g => exact ⟨⟨c1, c2⟩, fun _ => c4, fun k z => by cases z⟩
      | back => exact ⟨⟨c1, c2⟩, fun _ => trivial, fun k z => by cases z⟩
      | _ => cases b2
    · rw [ces_snd] at b3
      unfold chs at b3
      rw [List.getElem?_map] at b3
      obtain ⟨z, hz, ez⟩ := Option.map_eq_some_iff.mp b3
      have c4 := (h i z hz).2.2.2
      rw [ez] at c4
      rw [b1]
      generalize r.2.2.2 = c at b2 c4
      cases c with
      | plan d nm => exact ⟨⟨c4.1, c4.2.1⟩, fun _ => c4, fun k z => by cases z⟩
      | seats d n => exact ⟨⟨c4.1, c4.2.1⟩, fun _ => c4, fun k z => by cases z⟩
      | word w d => exact ⟨⟨c4.2.1, c4.2.2⟩, fun _ => c4, fun k z => by cases z⟩
      | _ => cases b2
  have len : rs.length = so.length := by
    have := congrArg List.length hr
    rw [List.length_map, List.length_map] at this
    exact this
  have at_ : ∀ (i : Nat) z, rs[i]? = some z → ∃ r, so[i]? = some r ∧ z.2.2.1 = r.1 ∧ z.2.2.2 = r.2.2.2 := fun i z hz => by
    have h1 := congrArg (fun l => l[i]?) hr
    simp only [List.getElem?_map, hz, Option.map_some] at h1
    obtain ⟨r, h2, h3⟩ := Option.map_eq_some_iff.mp h1.symm
    exact ⟨r, h2, (congrArg Prod.fst h3).symm, (congrArg Prod.snd h3).symm⟩
  refine ⟨fun i z hz => ?_, fun i k hi => ?_, ?_⟩
  · obtain ⟨r, h1, h2, h3⟩ := at_ i z hz
    have b := row r (List.mem_of_getElem? h1)
    rw [h2, h3]
    refine ⟨b.1.1, b.1.2, fun y hy => ?_, b.2.1 _⟩
    obtain ⟨j, hj⟩ := List.mem_iff_getElem?.mp hy
    rw [List.getElem?_take] at hj
    by_cases ji : j < i
    · rw [if_pos ji] at hj
      obtain ⟨r', g1, g2, _⟩ := at_ j y hj
      rw [g2]
      have l1 := (List.getElem?_eq_some_iff.mp h1)
      have l2 := (List.getElem?_eq_some_iff.mp g1)
      have := List.pairwise_iff_getElem.mp it.2 j i l2.1 l1.1 ji
      rw [l2.2, l1.2] at this
      unfold rLt at this
      omega
    · rw [if_neg ji] at hj
      cases hj
  · unfold chs at hi
    rw [List.getElem?_map] at hi
    obtain ⟨z, hz, ez⟩ := Option.map_eq_some_iff.mp hi
    obtain ⟨r, h1, _, h3⟩ := at_ i z hz
    exact absurd (h3.symm.trans ez) ((row r (List.mem_of_getElem? h1)).2.2 k)
  · have h1 := it.1.length_eq
    have h2 := rowsN_len (ys.map ce) (ys.map ce).length
    unfold rowsF at h1
    rw [List.length_map] at h1 h2
    omega
theorem tab_off {H : Hp} {T l : Addr} {xs ys : List V} (h : Tab H T) (e : H l = some (.lst xs)) : Tab (upd H l (.lst ys)) T := by
  obtain ⟨ps, e1, tr, c⟩ := h
  refine ⟨ps, by rw [upd_ne (fun y => by rw [y, e] at e1; cases e1)]; exact e1, tr, ?_⟩
  rcases c with c | ⟨c', c1, c2⟩
  · exact .inl c
  · exact .inr ⟨c', c1, by rw [upd_ne (fun y => by rw [y, e] at c2; cases c2)]; exact c2⟩
theorem enD_map {rs ts : List En} (h : rs.map ce = ts.map ce) : rs.map enD = ts.map enD := by
  have := congrArg (List.map fun (c : Int × Ch) => D.tup [.int c.1, .tup (chD c.2)]) h
  rw [List.map_map, List.map_map] at this
  exact this
theorem sc_law : FnScope ["_law_script", "_law_account_here", "_law_entries_here", "_law_kept", "_law_found", "_law_entry", "_law_again"] ["_law_script"] (defScope s_law) := ⟨rfl, rfl, rfl, by decide +kernel, rfl, by decide +kernel, by decide +kernel⟩
theorem ok_law (T : Txt K mg t) (B : BM mg base) : FnOk P w K mg base (CXE P w) 11 t.a_law t.d_law ["_law_script"] (spLaw K t.p_in_time) := by
  refine T.fn_law.okX sc_law (fun vs H Q E h => ?_) (fun cdv A outer s H vs Q E L hr h => ?_)
  · obtain ⟨a, ns, rfl, hS, h63, hT, q⟩ := h
    rfl
  obtain ⟨a, ns, rfl, hS, h63, hT, q⟩ := h
  have nd := sc_law.nd
  refine ⟨_, (pss_cons (ps_set (i := 1) nd rfl (Or.inl rfl) (pe_callX L.toLv (ok_xL_account T) (hr.mono (by decide)) (by rfl) T.mg_xL_account T.fn_xL_account.kp T.b_xL_account .nil (pa_cons (pv 0) pa_nil))) (pss_cons (ps_set (i := 2) nd rfl (Or.inl rfl) (pe_callX L.toLv (ok_xL_entries T) (hr.mono (by decide)) (by rfl) T.mg_xL_entries T.fn_xL_entries.kp T.b_xL_entries .nil (pa_cons (pv 0) (pa_cons (pv 1) (pa_cons pe_int pa_nil star_Constant) star_Name) star_Name))) (pss_cons (ps_set (i := 3) nd rfl (Or.inl rfl) (pe_callTy call_list_ofS (by rfl) T.no_list bb_list (pa_cons (pv 2) pa_nil))) (pss_cons (ps_set (i := 4) nd rfl (Or.inl rfl) (pe_callX L.toLv (ok_in_time T B) (hr.mono (by decide)) (by rfl) T.mg_in_time T.fn_in_time.kp T.b_in_time .nil (pa_cons (pv 2) pa_nil))) (pss_cons (ps_if (pw_or (pt_not (pt_val (pe_callB call_isinstQ (by rfl) T.no_isinstance bb_isinstance (pa_cons (pv 4) (pa_cons (pe_ty (by rfl) T.no_list bb_list) pa_nil star_Name) star_Name)))) (pw_or (pt_cmpR (op_neD hr) (pv 4) (pe_callX L.toLv (ok_xL_due T) (hr.mono (by decide)) (by rfl) T.mg_xL_due T.fn_xL_due.kp T.b_xL_due .nil (pa_cons (pv 3) pa_nil)) (nomark _)) (pw_or1 (pt_cmpR (op_neD hr) (pv 2) (pv 3) (nomark _))))).pt (pss_one (ps_ret pe_bl)) pss_nil) (pss_cons (ps_for (by passes_own) rfl (pi_list (pv 4)) (pg_name (i := 5) nd rfl (Or.inl rfl)) (pss_one (ps_if (pw_or (pt_not (pt_val (pe_callB call_isinstQ (by rfl) T.no_isinstance bb_isinstance (pa_cons (pv 5) (pa_cons (pe_ty (by rfl) T.no_tuple bb_tuple) pa_nil star_Name) star_Name)))) (pw_or1 (pt_not (pt_val (pe_callB call_isinstQ (by rfl) T.no_isinstance bb_isinstance (pa_cons (pe_ix ix_tup (pv 5) pe_int (fun _ _ => rfl)) (pa_cons (pe_ty (by rfl) T.no_tuple bb_tuple) pa_nil star_Name) star_Subscript)))))).pt (pss_one (ps_ret pe_bl)) pss_nil))) (pss_cons (ps_if (pw_or (pt_cmpR op_notN (pe_callX L.toLv (ok_check_entries T) (hr.mono (by decide)) (by rfl) T.mg_check_entries T.fn_check_entries.kp T.b_check_entries .nil (pa_cons (pv 1) (pa_cons (pv 4) pa_nil star_Name) star_Name)) pe_non (nomark _)) (pw_or1 (pt_cmpR (op_neD hr) (pe_callX L.toLv (ok_in_time T B) (hr.mono (by decide)) (by rfl) T.mg_in_time T.fn_in_time.kp T.b_in_time .nil (pa_cons (pv 4) pa_nil)) (pv 4) (nomark _)))).pt (pss_one (ps_ret pe_bl)) pss_nil) (pss_cons (ps_set (i := 6) nd rfl (Or.inl rfl) (pe_callX L.toLv (ok_in_time T B) (hr.mono (by decide)) (by rfl) T.mg_in_time T.fn_in_time.kp T.b_in_time .nil (pa_cons (pv 4) pa_nil))) (pss_cons (ps_expr (pe_bm PySem.F.plainAttrs_list PySem.F.slot_list_append PySem.F.type_list_append mt_append (pv 6) (pa_cons (pe_tupS (pa_cons pe_int (pa_cons (pe_tupS (pa_cons (pe_strL st_11) pa_nil)) pa_nil star_Tuple) star_Constant)) pa_nil))) (pss_one (ps_ret (pe_and (pe_cmpR (op_eqD hr) (pe_callX L.toLv (ok_in_time T B) (hr.mono (by decide)) (by rfl) T.mg_in_time T.fn_in_time.kp T.b_in_time .nil (pa_cons (pv 2) pa_nil)) (pv 4) (nomark _)) (pe_one (pe_cmpR op_eq (pe_callB call_len_seq (by rfl) T.no_len bb_len (pa_cons (pv 6) pa_nil)) (pe_op op_add (pe_callB call_len_seq (by rfl) T.no_len bb_len (pa_cons (pv 4) pa_nil)) pe_int) (nomark _))))))))))))))), ?_⟩
  open_k0
  refine ⟨a, ns, rfl, hS, h63, fun p l zs f dy cc H1 s1 hA el za zi => ?_⟩
  have hz : AccZ K H1 p l f dy cc zs := ⟨hA, el, za, zi⟩
  refine ⟨a, ns, p, l, f, dy, cc, zs, 3, rfl, s1.seq hS, h63, by decide, by decide, hz, fun le ys H2 s2 yE yO y40 e2 => ?_⟩
  refine ⟨le, rfl, _, .inl (SqL.of e2), fun lk H3 _ s3 e3 => ?_⟩
  have hT3 : Tab H3 t.p_in_time := ⟨#[], s3 _ _ (s2 _ _ (s1 _ _ hT)), trivial, .inl rfl⟩
  refine ⟨le, ys, rfl, SqL.of (s3 _ _ e2), yE.same s3, y40, ensOk_undo yO, hT3, fun lf rs so H4 n4 s4 t4 e4 rE4 it rce => ?_⟩
  have yE4 := ens_sS (yE.same s3) s4
  have ele := s4.lst (s3 _ _ e2)
  have elk := s4.lst e3
  try open_k0
  refine ⟨_, .x (.old (.lst e4)), _, rfl, _, kit_lst_lst, ite_f (by decide) ?_⟩
  refine ⟨lk, ys, rfl, SqL.of elk, yE4, y40, fun ld rs2 so2 H5 n5 s5 e5 rE5 it2 rce2 => ?_⟩
  obtain rfl := it2.uniq it
  have d2 : rs2.map enD = rs.map enD := enD_map (rce2.trans rce.symm)
  have e45 := s5 _ _ e4
  have rE45 := rE4.same s5
  have yE45 := yE4.same s5
  refine neD (n := 2) (d := .lst (rs.map enD)) (Dp_lst (SqL.of e45) rE45.all2) (Dp_lst (SqL.of e5) (by rw [← d2]; exact rE5.all2)) rfl (by decide) ⟨_, rfl, ite_f (by decide) ?_⟩
  refine neD (n := 2) (d := .lst (ys.map enD)) (Dp_lst (SqL.of (s5 _ _ ele)) yE45.all2) (Dp_lst (SqL.of (s5 _ _ elk)) yE45.all2) rfl (by decide) ⟨_, rfl, ite_f (by decide) ?_⟩
  ((try dsimp only); refine for_by fun R hR => ?_; simp only [tSortK, iVals, tDNewS, tDIn, tDNotIn, sDPut, tDPop1, tDGet2, tDGet, tCallKX, kwG_one, tEither, tTupS, tLstS, comp_K, capσ, sub_nil, sub_none, sub_some, tYes, List.replicate, Option.join_some, Option.join_none, SL_inj, iStr, tPart, tNoPart, tSl, tLst, tTup, cx_K, slT, CDiv, Int.reduceLT, Int.reduceLE, Int.reduceToNat, Int.reduceNeg, Int.reduceAdd, Int.reduceSub, Int.reduceMul, forall_const, tSeq, tNext, tIfS, tRet, tRetN, tDrop, tAsg, gName, gCons, gNil, tVar, tC, tOp, rI, rI0, tUn, rU, tTest, tB, tAnd, tOr, tNot, tAndV, tOrV, tNotV, tIf, tCons, tNil, tCallX, tCallL, tCB, sRaise, rEq, rNe, scal_ii, scal_bb, scal_ss, scal_ni, scal_in, tChain, tAug, ipI, L2.start, List.map_cons, List.map_nil, List.length_cons, List.length_nil, List.cons_append, List.nil_append, List.append_nil, List.replicate_succ, List.replicate_zero, Nat.reduceAdd, Nat.reduceSub, List.getElem?_cons_zero, List.getElem?_cons_succ, List.set_cons_zero, List.set_cons_succ, Option.some.injEq, V.int.injEq, V.bl.injEq, V.ref.injEq, V.str.injEq, exists_eq_left', exists_eq_left, exists_eq', exists_and_left, List.cons.injEq, and_true, true_and, and_self, and_assoc, decide_eq_true_eq, if_true, if_false, Bool.true_eq_false, Bool.false_eq_true, Bool.not_eq_true', Bool.not_true, Bool.not_false, decide_eq_false_iff_not, ite_true, ite_false, reduceCtorEq, false_and, exists_false, false_or, or_false, and_false, iList, iTup, iZip, iEnum, iRng1, iRng2, Nat.reduceLeDiff])
  refine ⟨⟨_, SqL.of e45⟩, hR _ _ ?_⟩
  clear hR
  obtain ⟨Pv, hPv⟩ : ∃ Pv : Nat → St → Hp → Prop, Pv = fun (i : Nat) σ1 H6 => Same H5 H6 ∧ ∃ x5 : Option V, σ1 = [some (.ref a), some (.ref p), some (.ref le), some (.ref lk), some (.ref lf), x5, none] := ⟨_, rfl⟩
  refine for_list (xs := rs.map (·.1)) Pv (by rw [hPv]; exact ⟨Same.refl _, _, rfl⟩) (fun _ _ _ _ h => by rw [hPv] at h; exact SqL.of (h.1 _ _ e45)) (fun i x σ1 H6 hxx h => ?_) (fun σ1 H6 h => ?_)
  · rw [hPv] at h
    obtain ⟨s6, x5, rfl⟩ := h
    obtain ⟨z, hzz, rfl⟩ : ∃ z, rs[i]? = some z ∧ x = z.1 := by
      rw [List.getElem?_map] at hxx
      obtain ⟨u, e, rfl⟩ := Option.map_eq_some_iff.mp hxx
      exact ⟨u, e, rfl⟩
    obtain ⟨pe, ee, q1, q2⟩ := (rE45.same s6) z (List.mem_of_getElem? hzz)
    rw [ee]
    open_k0
    refine ⟨_, .sq q1, _, rfl, _, kit_tup_tup, ite_f (by decide) (ixT q1 (at_1 _ _ _) ⟨_, .sq q2, _, rfl, _, kit_tup_tup, ite_f (by decide) ?_⟩)⟩
    rw [hPv]
    exact ⟨s6, _, rfl⟩
  rw [hPv] at h
  obtain ⟨s6, x5, rfl⟩ := h
  clear hPv
  obtain ⟨rok, rundo, rlen⟩ := time_ok yO it rce
  have s36 : SameS H3 H6 := s4.trans (same_sS (s5.trans s6))
  have hAcc6 : Acc K H6 p f dy cc zs := acc_sS (⟨l, (hA.same s2).same s3, SqL.of (s3 _ _ (s2 _ _ el)), (za.same s2).same s3, zi.1, zi.2.1⟩ : Acc K H3 p f dy cc zs) s36
  have e46 := s6 _ _ e45
  have rE46 := rE45.same s6
  open_k0
  refine ⟨p, lf, f, dy, cc, zs, rs, rfl, hAcc6, SqL.of e46, rE46, by omega, rok, fun H7 s7 => ?_⟩
  show if ¬ V.non = V.non then _ else _
  rw [if_neg (fun z => z rfl)]
  have e47 := s7 _ _ e46
  have rE47 := rE46.same s7
  have t7 : Tab H7 t.p_in_time := (t4.same ((s5.trans s6).trans s7))
  refine ⟨lf, rs, rfl, SqL.of e47, rE47, by omega, rundo, t7, fun l8 rs3 so3 H8 n8 s8 t8 e8 rE8 it3 rce3 => ?_⟩
  rw [rce] at it3
  have d3 : rs3.map enD = rs.map enD := enD_map (rce3.trans ((time_again it it3).trans rce.symm))
  have e48 := s8.lst e47
  have rE48 := ens_sS rE47 s8
  refine neD (n := 2) (d := .lst (rs.map enD)) (Dp_lst (SqL.of e8) (by rw [← d3]; exact rE8.all2)) (Dp_lst (SqL.of e48) rE48.all2) rfl (by decide) ⟨_, rfl, ite_f (by decide) ?_⟩
  refine ⟨lf, rs, rfl, SqL.of e48, rE48, by omega, rundo, t8, fun l9 rs4 so4 H9 n9 s9 t9 e9 rE9 it4 rce4 => ?_⟩
  rw [rce] at it4
  have r4l : rs4.length = rs.length := by
    have := congrArg List.length (rce4.trans ((time_again it it4).trans rce.symm))
    rw [List.length_map, List.length_map] at this
    exact this
  have s39 : SameS H3 H9 := (s36.trans (same_sS s7)).trans (s8.trans s9)
  lgec_open0
  refine ⟨.inl ⟨rfl, _, SqL.of e9⟩, fun pb H10 _ s10 e10 pr H11 _ s11 e11 => ⟨l9, _, _, rfl, rfl, s11 _ _ (s10 _ _ e9), small_len (by rw [List.length_map]; omega), ?_⟩⟩
  have e9' := s11 _ _ (s10 _ _ e9)
  have s311 : SameS H3 H11 := s39.trans (same_sS (s10.trans s11))
  have lfl : lf ≠ l9 := fun z => by rw [← z, e48] at n9; cases n9
  have lel : le ≠ l9 := fun z => by
    have := ((s36.trans (same_sS s7)).trans s8).lst (s3 _ _ e2)
    rw [← z, this] at n9
    cases n9
  have A12 : upd H11 l9 (.lst (rs4.map (·.1) ++ [.ref pr])) l9 = some (.lst (rs4.map (·.1) ++ [.ref pr])) := upd_same
  have E12 : EnsAt K (upd H11 l9 (.lst (rs4.map (·.1) ++ [.ref pr]))) ys := (ens_sS (yE.same s3) s311).off e9' fun b o n e => by rw [upd_ne n]; exact e
  have R12 : EnsAt K (upd H11 l9 (.lst (rs4.map (·.1) ++ [.ref pr]))) rs := ((ens_sS rE48 s9).same (s10.trans s11)).off e9' fun b o n e => by rw [upd_ne n]; exact e
  have F12 : upd H11 l9 (.lst (rs4.map (·.1) ++ [.ref pr])) lf = some (.lst (rs.map (·.1))) := by rw [upd_ne lfl]; exact s11 _ _ (s10 _ _ (s9.lst e48))
  have L12 : upd H11 l9 (.lst (rs4.map (·.1) ++ [.ref pr])) le = some (.lst (ys.map (·.1))) := by rw [upd_ne lel]; exact s311.lst (s3 _ _ e2)
  have T12 : Tab (upd H11 l9 (.lst (rs4.map (·.1) ++ [.ref pr]))) t.p_in_time := tab_off (t9.same (s10.trans s11)) e9'
  generalize upd H11 l9 (.lst (rs4.map (·.1) ++ [.ref pr])) = H12 at A12 E12 R12 F12 L12 T12 ⊢
  refine ⟨le, ys, rfl, SqL.of L12, E12, y40, ensOk_undo yO, T12, fun l13 rs5 so5 H13 n13 s13 t13 e13 rE13 it5 rce5 => ?_⟩
  obtain rfl := it5.uniq it
  have d5 : rs5.map enD = rs.map enD := enD_map (rce5.trans rce.symm)
  refine eqD (n := 2) (d := .lst (rs.map enD)) (Dp_lst (SqL.of e13) (by rw [← d5]; exact rE13.all2)) (Dp_lst (SqL.of (s13.lst F12)) (ens_sS R12 s13).all2) rfl (by decide) ⟨_, rfl, ?_⟩
  refine ite_t rfl ⟨_, .inl (SqL.of (s13.lst A12)), _, .inl (SqL.of (s13.lst F12)), ?_⟩
  rw [decide_eq_true (by rw [List.length_append, List.length_map, List.length_map, List.length_singleton, r4l]; omega)]
  exact q H13
end
theorem txt_mk {K : PySem.W.Frag} {h : Heap} {mg : Str → Option Value} (X : K.In h) (G : h.Ns mainGlobals mg)
    {f0 : Addr} {od0 an0 : Option Addr} {sl0 : Array (Option Value)} {oc0 kV0 dc0 pm0 cd0 ct0 : Value}
    {f1 : Addr} {od1 an1 : Option Addr} {sl1 : Array (Option Value)} {oc1 kV1 dc1 pm1 cd1 ct1 : Value}
    {f2 : Addr} {od2 an2 : Option Addr} {sl2 : Array (Option Value)} {oc2 kV2 dc2 pm2 cd2 ct2 : Value}
    {f3 : Addr} {od3 an3 : Option Addr} {sl3 : Array (Option Value)} {oc3 kV3 dc3 pm3 cd3 ct3 : Value}
    {f4 : Addr} {od4 an4 : Option Addr} {sl4 : Array (Option Value)} {oc4 kV4 dc4 pm4 cd4 ct4 : Value}
    {f5 : Addr} {od5 an5 : Option Addr} {sl5 : Array (Option Value)} {oc5 kV5 dc5 pm5 cd5 ct5 : Value}
    {f6 : Addr} {od6 an6 : Option Addr} {sl6 : Array (Option Value)} {oc6 kV6 dc6 pm6 cd6 ct6 : Value}
    {f7 : Addr} {od7 an7 : Option Addr} {sl7 : Array (Option Value)} {oc7 kV7 dc7 pm7 cd7 ct7 : Value}
    {f8 : Addr} {od8 an8 : Option Addr} {sl8 : Array (Option Value)} {oc8 kV8 dc8 pm8 cd8 ct8 : Value}
    {f9 : Addr} {od9 an9 : Option Addr} {sl9 : Array (Option Value)} {oc9 kV9 dc9 pm9 cd9 ct9 : Value}
    {f10 : Addr} {od10 an10 : Option Addr} {sl10 : Array (Option Value)} {oc10 kV10 dc10 pm10 cd10 ct10 : Value}
    {f11 : Addr} {od11 an11 : Option Addr} {sl11 : Array (Option Value)} {oc11 kV11 dc11 pm11 cd11 ct11 : Value}
    {f12 : Addr} {od12 an12 : Option Addr} {sl12 : Array (Option Value)} {oc12 kV12 dc12 pm12 cd12 ct12 : Value}
    {f13 : Addr} {od13 an13 : Option Addr} {sl13 : Array (Option Value)} {oc13 kV13 dc13 pm13 cd13 ct13 : Value}
    {f14 : Addr} {od14 an14 : Option Addr} {sl14 : Array (Option Value)} {oc14 kV14 dc14 pm14 cd14 ct14 : Value}
    {f15 : Addr} {od15 an15 : Option Addr} {sl15 : Array (Option Value)} {oc15 kV15 dc15 pm15 cd15 ct15 : Value}
    {f16 : Addr} {od16 an16 : Option Addr} {sl16 : Array (Option Value)} {oc16 kV16 dc16 pm16 cd16 ct16 : Value}
    {f17 : Addr} {od17 an17 : Option Addr} {sl17 : Array (Option Value)} {oc17 kV17 dc17 pm17 cd17 ct17 : Value}
    {f18 : Addr} {od18 an18 : Option Addr} {sl18 : Array (Option Value)} {oc18 kV18 dc18 pm18 cd18 ct18 : Value}
    {f19 : Addr} {od19 an19 : Option Addr} {sl19 : Array (Option Value)} {oc19 kV19 dc19 pm19 cd19 ct19 : Value}
    {f20 : Addr} {od20 an20 : Option Addr} {sl20 : Array (Option Value)} {oc20 kV20 dc20 pm20 cd20 ct20 : Value}
    {cK20 pK20 : Addr} {oK20 : Option Addr} {vK20 : Array Value} {sK20 : Array (Option Value)} {fK20 : Str} {uK20 gK20 tK20 : Tok} {lK20 xK20 : Int} {bK20 : Bool}
    {f21 : Addr} {od21 an21 : Option Addr} {sl21 : Array (Option Value)} {oc21 kV21 dc21 pm21 cd21 ct21 : Value}
    {f22 : Addr} {od22 an22 : Option Addr} {sl22 : Array (Option Value)} {oc22 kV22 dc22 pm22 cd22 ct22 : Value}
    {f23 : Addr} {od23 an23 : Option Addr} {sl23 : Array (Option Value)} {oc23 kV23 dc23 pm23 cd23 ct23 : Value}
    {f24 : Addr} {od24 an24 : Option Addr} {sl24 : Array (Option Value)} {oc24 kV24 dc24 pm24 cd24 ct24 : Value}
    {f25 : Addr} {od25 an25 : Option Addr} {sl25 : Array (Option Value)} {oc25 kV25 dc25 pm25 cd25 ct25 : Value}
    {f26 : Addr} {od26 an26 : Option Addr} {sl26 : Array (Option Value)} {oc26 kV26 dc26 pm26 cd26 ct26 : Value}
    {f27 : Addr} {od27 an27 : Option Addr} {sl27 : Array (Option Value)} {oc27 kV27 dc27 pm27 cd27 ct27 : Value}
    {f28 : Addr} {od28 an28 : Option Addr} {sl28 : Array (Option Value)} {oc28 kV28 dc28 pm28 cd28 ct28 : Value}
    {C_SpanError : Addr} {cd_SpanError : ClassData}
    {C_NoDate : Addr} {cd_NoDate : ClassData}
    {C_NoSpan : Addr} {cd_NoSpan : ClassData}
    {C_TooLong : Addr} {cd_TooLong : ClassData}
    {C_NoEntry : Addr} {cd_NoEntry : ClassData}
    {tk_LAST_YEAR : Tok}
    {tk_LAST_DAY : Tok}
    {A_MONTH_DAYS : Addr} {od_MONTH_DAYS : Option Addr} {its_MONTH_DAYS : Array Value} {n_MONTH_DAYS : Nat} {sl_MONTH_DAYS : Array (Option Value)}
    {tk_ROUND_DAYS : Tok}
    {tk_HUNDRED_YEARS_DAYS : Tok}
    {tk_FOUR_YEARS_DAYS : Tok}
    {tk_YEAR_DAYS : Tok}
    {tk_SPANS : Tok}
    {tk_MOST_ENTRIES : Tok}
    {tk_MOST_SEATS : Tok}
    {A_TERMS : Addr} {od_TERMS : Option Addr} {its_TERMS : Array Value} {n_TERMS : Nat} {sl_TERMS : Array (Option Value)}
    (ha0 : PySem.W.nsIn K mainGlobals "has_leap_day" = some (some (.ref f0)))
    (hl0 : K.lookup f0 = some ⟨oc0, od0, .func (PySem.W.fnOf "has_leap_day" "has_leap_day" (defArgs s_has_leap_day) (defBody s_has_leap_day) (defScope s_has_leap_day) .none kV0 dc0 pm0 an0 cd0 ct0), sl0⟩)
    (hc0 : PySem.W.codeIn K cd0 "has_leap_day" = true)
    (hk0 : PySem.W.keepIn K (.ref f0) = true)
    (ha1 : PySem.W.nsIn K mainGlobals "days_in" = some (some (.ref f1)))
    (hl1 : K.lookup f1 = some ⟨oc1, od1, .func (PySem.W.fnOf "days_in" "days_in" (defArgs s_days_in) (defBody s_days_in) (defScope s_days_in) .none kV1 dc1 pm1 an1 cd1 ct1), sl1⟩)
    (hc1 : PySem.W.codeIn K cd1 "days_in" = true)
    (hk1 : PySem.W.keepIn K (.ref f1) = true)
    (ha2 : PySem.W.nsIn K mainGlobals "days_ahead_of_year" = some (some (.ref f2)))
    (hl2 : K.lookup f2 = some ⟨oc2, od2, .func (PySem.W.fnOf "days_ahead_of_year" "days_ahead_of_year" (defArgs s_days_ahead_of_year) (defBody s_days_ahead_of_year) (defScope s_days_ahead_of_year) .none kV2 dc2 pm2 an2 cd2 ct2), sl2⟩)
    (hc2 : PySem.W.codeIn K cd2 "days_ahead_of_year" = true)
    (hk2 : PySem.W.keepIn K (.ref f2) = true)
    (ha3 : PySem.W.nsIn K mainGlobals "day_of" = some (some (.ref f3)))
    (hl3 : K.lookup f3 = some ⟨oc3, od3, .func (PySem.W.fnOf "day_of" "day_of" (defArgs s_day_of) (defBody s_day_of) (defScope s_day_of) .none kV3 dc3 pm3 an3 cd3 ct3), sl3⟩)
    (hc3 : PySem.W.codeIn K cd3 "day_of" = true)
    (hk3 : PySem.W.keepIn K (.ref f3) = true)
    (ha4 : PySem.W.nsIn K mainGlobals "year_of" = some (some (.ref f4)))
    (hl4 : K.lookup f4 = some ⟨oc4, od4, .func (PySem.W.fnOf "year_of" "year_of" (defArgs s_year_of) (defBody s_year_of) (defScope s_year_of) .none kV4 dc4 pm4 an4 cd4 ct4), sl4⟩)
    (hc4 : PySem.W.codeIn K cd4 "year_of" = true)
    (hk4 : PySem.W.keepIn K (.ref f4) = true)
    (ha5 : PySem.W.nsIn K mainGlobals "date_of" = some (some (.ref f5)))
    (hl5 : K.lookup f5 = some ⟨oc5, od5, .func (PySem.W.fnOf "date_of" "date_of" (defArgs s_date_of) (defBody s_date_of) (defScope s_date_of) .none kV5 dc5 pm5 an5 cd5 ct5), sl5⟩)
    (hc5 : PySem.W.codeIn K cd5 "date_of" = true)
    (hk5 : PySem.W.keepIn K (.ref f5) = true)
    (ha6 : PySem.W.nsIn K mainGlobals "months_on" = some (some (.ref f6)))
    (hl6 : K.lookup f6 = some ⟨oc6, od6, .func (PySem.W.fnOf "months_on" "months_on" (defArgs s_months_on) (defBody s_months_on) (defScope s_months_on) .none kV6 dc6 pm6 an6 cd6 ct6), sl6⟩)
    (hc6 : PySem.W.codeIn K cd6 "months_on" = true)
    (hk6 : PySem.W.keepIn K (.ref f6) = true)
    (ha7 : PySem.W.nsIn K mainGlobals "begin_of" = some (some (.ref f7)))
    (hl7 : K.lookup f7 = some ⟨oc7, od7, .func (PySem.W.fnOf "begin_of" "begin_of" (defArgs s_begin_of) (defBody s_begin_of) (defScope s_begin_of) .none kV7 dc7 pm7 an7 cd7 ct7), sl7⟩)
    (hc7 : PySem.W.codeIn K cd7 "begin_of" = true)
    (hk7 : PySem.W.keepIn K (.ref f7) = true)
    (ha8 : PySem.W.nsIn K mainGlobals "is_whole" = some (some (.ref f8)))
    (hl8 : K.lookup f8 = some ⟨oc8, od8, .func (PySem.W.fnOf "is_whole" "is_whole" (defArgs s_is_whole) (defBody s_is_whole) (defScope s_is_whole) .none kV8 dc8 pm8 an8 cd8 ct8), sl8⟩)
    (hc8 : PySem.W.codeIn K cd8 "is_whole" = true)
    (hk8 : PySem.W.keepIn K (.ref f8) = true)
    (ha9 : PySem.W.nsIn K mainGlobals "is_whole_between" = some (some (.ref f9)))
    (hl9 : K.lookup f9 = some ⟨oc9, od9, .func (PySem.W.fnOf "is_whole_between" "is_whole_between" (defArgs s_is_whole_between) (defBody s_is_whole_between) (defScope s_is_whole_between) .none kV9 dc9 pm9 an9 cd9 ct9), sl9⟩)
    (hc9 : PySem.W.codeIn K cd9 "is_whole_between" = true)
    (hk9 : PySem.W.keepIn K (.ref f9) = true)
    (ha10 : PySem.W.nsIn K mainGlobals "end_of_account" = some (some (.ref f10)))
    (hl10 : K.lookup f10 = some ⟨oc10, od10, .func (PySem.W.fnOf "end_of_account" "end_of_account" (defArgs s_end_of_account) (defBody s_end_of_account) (defScope s_end_of_account) .none kV10 dc10 pm10 an10 cd10 ct10), sl10⟩)
    (hc10 : PySem.W.codeIn K cd10 "end_of_account" = true)
    (hk10 : PySem.W.keepIn K (.ref f10) = true)
    (ha11 : PySem.W.nsIn K mainGlobals "is_day_of" = some (some (.ref f11)))
    (hl11 : K.lookup f11 = some ⟨oc11, od11, .func (PySem.W.fnOf "is_day_of" "is_day_of" (defArgs s_is_day_of) (defBody s_is_day_of) (defScope s_is_day_of) .none kV11 dc11 pm11 an11 cd11 ct11), sl11⟩)
    (hc11 : PySem.W.codeIn K cd11 "is_day_of" = true)
    (hk11 : PySem.W.keepIn K (.ref f11) = true)
    (ha12 : PySem.W.nsIn K mainGlobals "is_term" = some (some (.ref f12)))
    (hl12 : K.lookup f12 = some ⟨oc12, od12, .func (PySem.W.fnOf "is_term" "is_term" (defArgs s_is_term) (defBody s_is_term) (defScope s_is_term) .none kV12 dc12 pm12 an12 cd12 ct12), sl12⟩)
    (hc12 : PySem.W.codeIn K cd12 "is_term" = true)
    (hk12 : PySem.W.keepIn K (.ref f12) = true)
    (ha13 : PySem.W.nsIn K mainGlobals "names_of" = some (some (.ref f13)))
    (hl13 : K.lookup f13 = some ⟨oc13, od13, .func (PySem.W.fnOf "names_of" "names_of" (defArgs s_names_of) (defBody s_names_of) (defScope s_names_of) .none kV13 dc13 pm13 an13 cd13 ct13), sl13⟩)
    (hc13 : PySem.W.codeIn K cd13 "names_of" = true)
    (hk13 : PySem.W.keepIn K (.ref f13) = true)
    (ha14 : PySem.W.nsIn K mainGlobals "fits_term" = some (some (.ref f14)))
    (hl14 : K.lookup f14 = some ⟨oc14, od14, .func (PySem.W.fnOf "fits_term" "fits_term" (defArgs s_fits_term) (defBody s_fits_term) (defScope s_fits_term) .none kV14 dc14 pm14 an14 cd14 ct14), sl14⟩)
    (hc14 : PySem.W.codeIn K cd14 "fits_term" = true)
    (hk14 : PySem.W.keepIn K (.ref f14) = true)
    (ha15 : PySem.W.nsIn K mainGlobals "fits_grant" = some (some (.ref f15)))
    (hl15 : K.lookup f15 = some ⟨oc15, od15, .func (PySem.W.fnOf "fits_grant" "fits_grant" (defArgs s_fits_grant) (defBody s_fits_grant) (defScope s_fits_grant) .none kV15 dc15 pm15 an15 cd15 ct15), sl15⟩)
    (hc15 : PySem.W.codeIn K cd15 "fits_grant" = true)
    (hk15 : PySem.W.keepIn K (.ref f15) = true)
    (ha16 : PySem.W.nsIn K mainGlobals "fits_undo" = some (some (.ref f16)))
    (hl16 : K.lookup f16 = some ⟨oc16, od16, .func (PySem.W.fnOf "fits_undo" "fits_undo" (defArgs s_fits_undo) (defBody s_fits_undo) (defScope s_fits_undo) .none kV16 dc16 pm16 an16 cd16 ct16), sl16⟩)
    (hc16 : PySem.W.codeIn K cd16 "fits_undo" = true)
    (hk16 : PySem.W.keepIn K (.ref f16) = true)
    (ha17 : PySem.W.nsIn K mainGlobals "fits" = some (some (.ref f17)))
    (hl17 : K.lookup f17 = some ⟨oc17, od17, .func (PySem.W.fnOf "fits" "fits" (defArgs s_fits) (defBody s_fits) (defScope s_fits) .none kV17 dc17 pm17 an17 cd17 ct17), sl17⟩)
    (hc17 : PySem.W.codeIn K cd17 "fits" = true)
    (hk17 : PySem.W.keepIn K (.ref f17) = true)
    (ha18 : PySem.W.nsIn K mainGlobals "standing_terms" = some (some (.ref f18)))
    (hl18 : K.lookup f18 = some ⟨oc18, od18, .func (PySem.W.fnOf "standing_terms" "standing_terms" (defArgs s_standing_terms) (defBody s_standing_terms) (defScope s_standing_terms) .none kV18 dc18 pm18 an18 cd18 ct18), sl18⟩)
    (hc18 : PySem.W.codeIn K cd18 "standing_terms" = true)
    (hk18 : PySem.W.keepIn K (.ref f18) = true)
    (ha19 : PySem.W.nsIn K mainGlobals "check_entries" = some (some (.ref f19)))
    (hl19 : K.lookup f19 = some ⟨oc19, od19, .func (PySem.W.fnOf "check_entries" "check_entries" (defArgs s_check_entries) (defBody s_check_entries) (defScope s_check_entries) .none kV19 dc19 pm19 an19 cd19 ct19), sl19⟩)
    (hc19 : PySem.W.codeIn K cd19 "check_entries" = true)
    (hk19 : PySem.W.keepIn K (.ref f19) = true)
    (ha20 : PySem.W.nsIn K mainGlobals "in_time" = some (some (.ref f20)))
    (hl20 : K.lookup f20 = some ⟨oc20, od20, .func (PySem.W.fnOf "in_time" "in_time" (defArgs s_in_time) (defBody s_in_time) (defScope s_in_time) .none kV20 dc20 pm20 an20 cd20 ct20), sl20⟩)
    (hc20 : PySem.W.codeIn K cd20 "in_time" = true)
    (hk20 : PySem.W.keepIn K (.ref f20) = true)
    (qc20 : cd20 = .ref cK20)
    (ql20 : K.lookup cK20 = some ⟨.type "code", oK20, .fields vK20, sK20⟩)
    (qa20 : vK20[11]? = some (.ref pK20))
    (qb20 : vK20.getD 11 .none = .ref pK20)
    (qd20 : vK20.getD 18 .none = .str fK20 uK20)
    (qe20 : vK20.getD 7 .none = .int lK20 gK20)
    (qf20 : vK20.getD 9 .none = .bool bK20)
    (qg20 : vK20.getD 10 .none = .int xK20 tK20)
    (qh20 : cK20 ≠ pK20)
    (qi20 : K.lookup pK20 = none)
    (ha21 : PySem.W.nsIn K mainGlobals "_law_cell_at" = some (some (.ref f21)))
    (hl21 : K.lookup f21 = some ⟨oc21, od21, .func (PySem.W.fnOf "_law_cell_at" "_law_cell_at" (defArgs s_xL_cell_at) (defBody s_xL_cell_at) (defScope s_xL_cell_at) .none kV21 dc21 pm21 an21 cd21 ct21), sl21⟩)
    (hc21 : PySem.W.codeIn K cd21 "_law_cell_at" = true)
    (hk21 : PySem.W.keepIn K (.ref f21) = true)
    (ha22 : PySem.W.nsIn K mainGlobals "_law_mixed" = some (some (.ref f22)))
    (hl22 : K.lookup f22 = some ⟨oc22, od22, .func (PySem.W.fnOf "_law_mixed" "_law_mixed" (defArgs s_xL_mixed) (defBody s_xL_mixed) (defScope s_xL_mixed) .none kV22 dc22 pm22 an22 cd22 ct22), sl22⟩)
    (hc22 : PySem.W.codeIn K cd22 "_law_mixed" = true)
    (hk22 : PySem.W.keepIn K (.ref f22) = true)
    (ha23 : PySem.W.nsIn K mainGlobals "_law_plan_names" = some (some (.ref f23)))
    (hl23 : K.lookup f23 = some ⟨oc23, od23, .func (PySem.W.fnOf "_law_plan_names" "_law_plan_names" (defArgs s_xL_plan_names) (defBody s_xL_plan_names) (defScope s_xL_plan_names) .none kV23 dc23 pm23 an23 cd23 ct23), sl23⟩)
    (hc23 : PySem.W.codeIn K cd23 "_law_plan_names" = true)
    (hk23 : PySem.W.keepIn K (.ref f23) = true)
    (ha24 : PySem.W.nsIn K mainGlobals "_law_account" = some (some (.ref f24)))
    (hl24 : K.lookup f24 = some ⟨oc24, od24, .func (PySem.W.fnOf "_law_account" "_law_account" (defArgs s_xL_account) (defBody s_xL_account) (defScope s_xL_account) .none kV24 dc24 pm24 an24 cd24 ct24), sl24⟩)
    (hc24 : PySem.W.codeIn K cd24 "_law_account" = true)
    (hk24 : PySem.W.keepIn K (.ref f24) = true)
    (ha25 : PySem.W.nsIn K mainGlobals "_law_change" = some (some (.ref f25)))
    (hl25 : K.lookup f25 = some ⟨oc25, od25, .func (PySem.W.fnOf "_law_change" "_law_change" (defArgs s_xL_change) (defBody s_xL_change) (defScope s_xL_change) .none kV25 dc25 pm25 an25 cd25 ct25), sl25⟩)
    (hc25 : PySem.W.codeIn K cd25 "_law_change" = true)
    (hk25 : PySem.W.keepIn K (.ref f25) = true)
    (ha26 : PySem.W.nsIn K mainGlobals "_law_entries" = some (some (.ref f26)))
    (hl26 : K.lookup f26 = some ⟨oc26, od26, .func (PySem.W.fnOf "_law_entries" "_law_entries" (defArgs s_xL_entries) (defBody s_xL_entries) (defScope s_xL_entries) .none kV26 dc26 pm26 an26 cd26 ct26), sl26⟩)
    (hc26 : PySem.W.codeIn K cd26 "_law_entries" = true)
    (hk26 : PySem.W.keepIn K (.ref f26) = true)
    (ha27 : PySem.W.nsIn K mainGlobals "_law_due" = some (some (.ref f27)))
    (hl27 : K.lookup f27 = some ⟨oc27, od27, .func (PySem.W.fnOf "_law_due" "_law_due" (defArgs s_xL_due) (defBody s_xL_due) (defScope s_xL_due) .none kV27 dc27 pm27 an27 cd27 ct27), sl27⟩)
    (hc27 : PySem.W.codeIn K cd27 "_law_due" = true)
    (hk27 : PySem.W.keepIn K (.ref f27) = true)
    (ha28 : PySem.W.nsIn K mainGlobals "law" = some (some (.ref f28)))
    (hl28 : K.lookup f28 = some ⟨oc28, od28, .func (PySem.W.fnOf "law" "law" (defArgs s_law) (defBody s_law) (defScope s_law) .none kV28 dc28 pm28 an28 cd28 ct28), sl28⟩)
    (hc28 : PySem.W.codeIn K cd28 "law" = true)
    (hk28 : PySem.W.keepIn K (.ref f28) = true)
    (g_SpanError : PySem.W.nsIn K mainGlobals "SpanError" = some (some (.ref C_SpanError)))
    (gc_SpanError : PySem.W.clsIn K C_SpanError = some cd_SpanError)
    (gt_SpanError : PySem.W.typeIn K (.ref C_SpanError) = some (.type "type"))
    (gm_SpanError : PySem.W.mroIn K C_SpanError (.ref C_SpanError) = some true)
    (g_NoDate : PySem.W.nsIn K mainGlobals "NoDate" = some (some (.ref C_NoDate)))
    (gc_NoDate : PySem.W.clsIn K C_NoDate = some cd_NoDate)
    (gt_NoDate : PySem.W.typeIn K (.ref C_NoDate) = some (.type "type"))
    (gm_NoDate : PySem.W.mroIn K C_NoDate (.ref C_NoDate) = some true)
    (g_NoSpan : PySem.W.nsIn K mainGlobals "NoSpan" = some (some (.ref C_NoSpan)))
    (gc_NoSpan : PySem.W.clsIn K C_NoSpan = some cd_NoSpan)
    (gt_NoSpan : PySem.W.typeIn K (.ref C_NoSpan) = some (.type "type"))
    (gm_NoSpan : PySem.W.mroIn K C_NoSpan (.ref C_NoSpan) = some true)
    (g_TooLong : PySem.W.nsIn K mainGlobals "TooLong" = some (some (.ref C_TooLong)))
    (gc_TooLong : PySem.W.clsIn K C_TooLong = some cd_TooLong)
    (gt_TooLong : PySem.W.typeIn K (.ref C_TooLong) = some (.type "type"))
    (gm_TooLong : PySem.W.mroIn K C_TooLong (.ref C_TooLong) = some true)
    (g_NoEntry : PySem.W.nsIn K mainGlobals "NoEntry" = some (some (.ref C_NoEntry)))
    (gc_NoEntry : PySem.W.clsIn K C_NoEntry = some cd_NoEntry)
    (gt_NoEntry : PySem.W.typeIn K (.ref C_NoEntry) = some (.type "type"))
    (gm_NoEntry : PySem.W.mroIn K C_NoEntry (.ref C_NoEntry) = some true)
    (gx_NoDate : PySem.W.excIn K C_NoDate [.type "ValueError", .type "Exception", .type "BaseException", .type "object"] "ValueError.__new__" = true)
    (gx_NoSpan : PySem.W.excIn K C_NoSpan [.type "ValueError", .type "Exception", .type "BaseException", .type "object"] "ValueError.__new__" = true)
    (gx_TooLong : PySem.W.excIn K C_TooLong [.type "ValueError", .type "Exception", .type "BaseException", .type "object"] "ValueError.__new__" = true)
    (k_LAST_YEAR : PySem.W.nsIn K mainGlobals "LAST_YEAR" = some (some (.int 9999 tk_LAST_YEAR)))
    (k_LAST_DAY : PySem.W.nsIn K mainGlobals "LAST_DAY" = some (some (.int 3652058 tk_LAST_DAY)))
    (k_MONTH_DAYS : PySem.W.nsIn K mainGlobals "MONTH_DAYS" = some (some (.ref A_MONTH_DAYS)))
    (kl_MONTH_DAYS : K.lookup A_MONTH_DAYS = some ⟨.type "tuple", od_MONTH_DAYS, .seq its_MONTH_DAYS n_MONTH_DAYS, sl_MONTH_DAYS⟩)
    (kz_MONTH_DAYS : its_MONTH_DAYS.size ≤ sizeLine)
    (kv_MONTH_DAYS : Vals [.int 31, .int 28, .int 31, .int 30, .int 31, .int 30, .int 31, .int 31, .int 30, .int 31, .int 30, .int 31] its_MONTH_DAYS.toList)
    (k_ROUND_DAYS : PySem.W.nsIn K mainGlobals "ROUND_DAYS" = some (some (.int 146097 tk_ROUND_DAYS)))
    (k_HUNDRED_YEARS_DAYS : PySem.W.nsIn K mainGlobals "HUNDRED_YEARS_DAYS" = some (some (.int 36524 tk_HUNDRED_YEARS_DAYS)))
    (k_FOUR_YEARS_DAYS : PySem.W.nsIn K mainGlobals "FOUR_YEARS_DAYS" = some (some (.int 1461 tk_FOUR_YEARS_DAYS)))
    (k_YEAR_DAYS : PySem.W.nsIn K mainGlobals "YEAR_DAYS" = some (some (.int 365 tk_YEAR_DAYS)))
    (k_SPANS : PySem.W.nsIn K mainGlobals "SPANS" = some (some (.int 60 tk_SPANS)))
    (k_MOST_ENTRIES : PySem.W.nsIn K mainGlobals "MOST_ENTRIES" = some (some (.int 40 tk_MOST_ENTRIES)))
    (k_MOST_SEATS : PySem.W.nsIn K mainGlobals "MOST_SEATS" = some (some (.int 1000000 tk_MOST_SEATS)))
    (k_TERMS : PySem.W.nsIn K mainGlobals "TERMS" = some (some (.ref A_TERMS)))
    (kl_TERMS : K.lookup A_TERMS = some ⟨.type "tuple", od_TERMS, .seq its_TERMS n_TERMS, sl_TERMS⟩)
    (kz_TERMS : its_TERMS.size ≤ sizeLine)
    (kv_TERMS : Vals [.str (SL [112, 108, 97, 110]), .str (SL [115, 101, 97, 116, 115]), .str (SL [104, 111, 108, 100]), .str (SL [103, 111]), .str (SL [115, 116, 111, 112]), .str (SL [108, 97, 115, 116])] its_TERMS.toList)
    (z_range : PySem.W.nsIn K mainGlobals "range" = some none)
    (z_divmod : PySem.W.nsIn K mainGlobals "divmod" = some none)
    (z_min : PySem.W.nsIn K mainGlobals "min" = some none)
    (z_isinstance : PySem.W.nsIn K mainGlobals "isinstance" = some none)
    (z_int : PySem.W.nsIn K mainGlobals "int" = some none)
    (z_bool : PySem.W.nsIn K mainGlobals "bool" = some none)
    (z_len : PySem.W.nsIn K mainGlobals "len" = some none)
    (z_enumerate : PySem.W.nsIn K mainGlobals "enumerate" = some none)
    (z_sorted : PySem.W.nsIn K mainGlobals "sorted" = some none)
    (z_list : PySem.W.nsIn K mainGlobals "list" = some none)
    (z_tuple : PySem.W.nsIn K mainGlobals "tuple" = some none)
    : ∃ t, Txt K mg t :=
  ⟨{ a_has_leap_day := f0, d_has_leap_day := PySem.W.fnOf "has_leap_day" "has_leap_day" (defArgs s_has_leap_day) (defBody s_has_leap_day) (defScope s_has_leap_day) .none kV0 dc0 pm0 an0 cd0 ct0,
     a_days_in := f1, d_days_in := PySem.W.fnOf "days_in" "days_in" (defArgs s_days_in) (defBody s_days_in) (defScope s_days_in) .none kV1 dc1 pm1 an1 cd1 ct1,
     a_days_ahead_of_year := f2, d_days_ahead_of_year := PySem.W.fnOf "days_ahead_of_year" "days_ahead_of_year" (defArgs s_days_ahead_of_year) (defBody s_days_ahead_of_year) (defScope s_days_ahead_of_year) .none kV2 dc2 pm2 an2 cd2 ct2,
     a_day_of := f3, d_day_of := PySem.W.fnOf "day_of" "day_of" (defArgs s_day_of) (defBody s_day_of) (defScope s_day_of) .none kV3 dc3 pm3 an3 cd3 ct3,
     a_year_of := f4, d_year_of := PySem.W.fnOf "year_of" "year_of" (defArgs s_year_of) (defBody s_year_of) (defScope s_year_of) .none kV4 dc4 pm4 an4 cd4 ct4,
     a_date_of := f5, d_date_of := PySem.W.fnOf "date_of" "date_of" (defArgs s_date_of) (defBody s_date_of) (defScope s_date_of) .none kV5 dc5 pm5 an5 cd5 ct5,
     a_months_on := f6, d_months_on := PySem.W.fnOf "months_on" "months_on" (defArgs s_months_on) (defBody s_months_on) (defScope s_months_on) .none kV6 dc6 pm6 an6 cd6 ct6,
     a_begin_of := f7, d_begin_of := PySem.W.fnOf "begin_of" "begin_of" (defArgs s_begin_of) (defBody s_begin_of) (defScope s_begin_of) .none kV7 dc7 pm7 an7 cd7 ct7,
     a_is_whole := f8, d_is_whole := PySem.W.fnOf "is_whole" "is_whole" (defArgs s_is_whole) (defBody s_is_whole) (defScope s_is_whole) .none kV8 dc8 pm8 an8 cd8 ct8,
     a_is_whole_between := f9, d_is_whole_between := PySem.W.fnOf "is_whole_between" "is_whole_between" (defArgs s_is_whole_between) (defBody s_is_whole_between) (defScope s_is_whole_between) .none kV9 dc9 pm9 an9 cd9 ct9,
     a_end_of_account := f10, d_end_of_account := PySem.W.fnOf "end_of_account" "end_of_account" (defArgs s_end_of_account) (defBody s_end_of_account) (defScope s_end_of_account) .none kV10 dc10 pm10 an10 cd10 ct10,
     a_is_day_of := f11, d_is_day_of := PySem.W.fnOf "is_day_of" "is_day_of" (defArgs s_is_day_of) (defBody s_is_day_of) (defScope s_is_day_of) .none kV11 dc11 pm11 an11 cd11 ct11,
     a_is_term := f12, d_is_term := PySem.W.fnOf "is_term" "is_term" (defArgs s_is_term) (defBody s_is_term) (defScope s_is_term) .none kV12 dc12 pm12 an12 cd12 ct12,
     a_names_of := f13, d_names_of := PySem.W.fnOf "names_of" "names_of" (defArgs s_names_of) (defBody s_names_of) (defScope s_names_of) .none kV13 dc13 pm13 an13 cd13 ct13,
     a_fits_term := f14, d_fits_term := PySem.W.fnOf "fits_term" "fits_term" (defArgs s_fits_term) (defBody s_fits_term) (defScope s_fits_term) .none kV14 dc14 pm14 an14 cd14 ct14,
     a_fits_grant := f15, d_fits_grant := PySem.W.fnOf "fits_grant" "fits_grant" (defArgs s_fits_grant) (defBody s_fits_grant) (defScope s_fits_grant) .none kV15 dc15 pm15 an15 cd15 ct15,
     a_fits_undo := f16, d_fits_undo := PySem.W.fnOf "fits_undo" "fits_undo" (defArgs s_fits_undo) (defBody s_fits_undo) (defScope s_fits_undo) .none kV16 dc16 pm16 an16 cd16 ct16,
     a_fits := f17, d_fits := PySem.W.fnOf "fits" "fits" (defArgs s_fits) (defBody s_fits) (defScope s_fits) .none kV17 dc17 pm17 an17 cd17 ct17,
     a_standing_terms := f18, d_standing_terms := PySem.W.fnOf "standing_terms" "standing_terms" (defArgs s_standing_terms) (defBody s_standing_terms) (defScope s_standing_terms) .none kV18 dc18 pm18 an18 cd18 ct18,
     a_check_entries := f19, d_check_entries := PySem.W.fnOf "check_entries" "check_entries" (defArgs s_check_entries) (defBody s_check_entries) (defScope s_check_entries) .none kV19 dc19 pm19 an19 cd19 ct19,
     a_in_time := f20, d_in_time := PySem.W.fnOf "in_time" "in_time" (defArgs s_in_time) (defBody s_in_time) (defScope s_in_time) .none kV20 dc20 pm20 an20 cd20 ct20,
     k_in_time := cK20, p_in_time := pK20,
     a_xL_cell_at := f21, d_xL_cell_at := PySem.W.fnOf "_law_cell_at" "_law_cell_at" (defArgs s_xL_cell_at) (defBody s_xL_cell_at) (defScope s_xL_cell_at) .none kV21 dc21 pm21 an21 cd21 ct21,
     a_xL_mixed := f22, d_xL_mixed := PySem.W.fnOf "_law_mixed" "_law_mixed" (defArgs s_xL_mixed) (defBody s_xL_mixed) (defScope s_xL_mixed) .none kV22 dc22 pm22 an22 cd22 ct22,
     a_xL_plan_names := f23, d_xL_plan_names := PySem.W.fnOf "_law_plan_names" "_law_plan_names" (defArgs s_xL_plan_names) (defBody s_xL_plan_names) (defScope s_xL_plan_names) .none kV23 dc23 pm23 an23 cd23 ct23,
     a_xL_account := f24, d_xL_account := PySem.W.fnOf "_law_account" "_law_account" (defArgs s_xL_account) (defBody s_xL_account) (defScope s_xL_account) .none kV24 dc24 pm24 an24 cd24 ct24,
     a_xL_change := f25, d_xL_change := PySem.W.fnOf "_law_change" "_law_change" (defArgs s_xL_change) (defBody s_xL_change) (defScope s_xL_change) .none kV25 dc25 pm25 an25 cd25 ct25,
     a_xL_entries := f26, d_xL_entries := PySem.W.fnOf "_law_entries" "_law_entries" (defArgs s_xL_entries) (defBody s_xL_entries) (defScope s_xL_entries) .none kV26 dc26 pm26 an26 cd26 ct26,
     a_xL_due := f27, d_xL_due := PySem.W.fnOf "_law_due" "_law_due" (defArgs s_xL_due) (defBody s_xL_due) (defScope s_xL_due) .none kV27 dc27 pm27 an27 cd27 ct27,
     a_law := f28, d_law := PySem.W.fnOf "law" "law" (defArgs s_law) (defBody s_law) (defScope s_law) .none kV28 dc28 pm28 an28 cd28 ct28,
     c_SpanError := C_SpanError,
     c_NoDate := C_NoDate,
     c_NoSpan := C_NoSpan,
     c_TooLong := C_TooLong,
     c_NoEntry := C_NoEntry },
   { mg_has_leap_day := PySem.W.mg_of X G ha0,
     fn_has_leap_day := fun_mk (st := s_has_leap_day) hl0 hc0 hk0,
     b_has_leap_day := (fun_mk (st := s_has_leap_day) hl0 hc0 hk0).binds (ps := ["year"]) fun _ _ _ _ _ _ us hl => match us, hl with | [_], _ => rfl,
     mg_days_in := PySem.W.mg_of X G ha1,
     fn_days_in := fun_mk (st := s_days_in) hl1 hc1 hk1,
     b_days_in := (fun_mk (st := s_days_in) hl1 hc1 hk1).binds (ps := ["year", "month"]) fun _ _ _ _ _ _ us hl => match us, hl with | [_, _], _ => rfl,
     mg_days_ahead_of_year := PySem.W.mg_of X G ha2,
     fn_days_ahead_of_year := fun_mk (st := s_days_ahead_of_year) hl2 hc2 hk2,
     b_days_ahead_of_year := (fun_mk (st := s_days_ahead_of_year) hl2 hc2 hk2).binds (ps := ["year"]) fun _ _ _ _ _ _ us hl => match us, hl with | [_], _ => rfl,
     mg_day_of := PySem.W.mg_of X G ha3,
     fn_day_of := fun_mk (st := s_day_of) hl3 hc3 hk3,
     b_day_of := (fun_mk (st := s_day_of) hl3 hc3 hk3).binds (ps := ["year", "month", "day"]) fun _ _ _ _ _ _ us hl => match us, hl with | [_, _, _], _ => rfl,
     mg_year_of := PySem.W.mg_of X G ha4,
     fn_year_of := fun_mk (st := s_year_of) hl4 hc4 hk4,
     b_year_of := (fun_mk (st := s_year_of) hl4 hc4 hk4).binds (ps := ["number"]) fun _ _ _ _ _ _ us hl => match us, hl with | [_], _ => rfl,
     mg_date_of := PySem.W.mg_of X G ha5,
     fn_date_of := fun_mk (st := s_date_of) hl5 hc5 hk5,
     b_date_of := (fun_mk (st := s_date_of) hl5 hc5 hk5).binds (ps := ["number"]) fun _ _ _ _ _ _ us hl => match us, hl with | [_], _ => rfl,
     mg_months_on := PySem.W.mg_of X G ha6,
     fn_months_on := fun_mk (st := s_months_on) hl6 hc6 hk6,
     b_months_on := (fun_mk (st := s_months_on) hl6 hc6 hk6).binds (ps := ["number", "many"]) fun _ _ _ _ _ _ us hl => match us, hl with | [_, _], _ => rfl,
     mg_begin_of := PySem.W.mg_of X G ha7,
     fn_begin_of := fun_mk (st := s_begin_of) hl7 hc7 hk7,
     b_begin_of := (fun_mk (st := s_begin_of) hl7 hc7 hk7).binds (ps := ["first", "cycle", "k"]) fun _ _ _ _ _ _ us hl => match us, hl with | [_, _, _], _ => rfl,
     mg_is_whole := PySem.W.mg_of X G ha8,
     fn_is_whole := fun_mk (st := s_is_whole) hl8 hc8 hk8,
     b_is_whole := (fun_mk (st := s_is_whole) hl8 hc8 hk8).binds (ps := ["value"]) fun _ _ _ _ _ _ us hl => match us, hl with | [_], _ => rfl,
     mg_is_whole_between := PySem.W.mg_of X G ha9,
     fn_is_whole_between := fun_mk (st := s_is_whole_between) hl9 hc9 hk9,
     b_is_whole_between := (fun_mk (st := s_is_whole_between) hl9 hc9 hk9).binds (ps := ["value", "least", "greatest"]) fun _ _ _ _ _ _ us hl => match us, hl with | [_, _, _], _ => rfl,
     mg_end_of_account := PySem.W.mg_of X G ha10,
     fn_end_of_account := fun_mk (st := s_end_of_account) hl10 hc10 hk10,
     b_end_of_account := (fun_mk (st := s_end_of_account) hl10 hc10 hk10).binds (ps := ["account"]) fun _ _ _ _ _ _ us hl => match us, hl with | [_], _ => rfl,
     mg_is_day_of := PySem.W.mg_of X G ha11,
     fn_is_day_of := fun_mk (st := s_is_day_of) hl11 hc11 hk11,
     b_is_day_of := (fun_mk (st := s_is_day_of) hl11 hc11 hk11).binds (ps := ["account", "value"]) fun _ _ _ _ _ _ us hl => match us, hl with | [_, _], _ => rfl,
     mg_is_term := PySem.W.mg_of X G ha12,
     fn_is_term := fun_mk (st := s_is_term) hl12 hc12 hk12,
     b_is_term := (fun_mk (st := s_is_term) hl12 hc12 hk12).binds (ps := ["change"]) fun _ _ _ _ _ _ us hl => match us, hl with | [_], _ => rfl,
     mg_names_of := PySem.W.mg_of X G ha13,
     fn_names_of := fun_mk (st := s_names_of) hl13 hc13 hk13,
     b_names_of := (fun_mk (st := s_names_of) hl13 hc13 hk13).binds (ps := ["account"]) fun _ _ _ _ _ _ us hl => match us, hl with | [_], _ => rfl,
     mg_fits_term := PySem.W.mg_of X G ha14,
     fn_fits_term := fun_mk (st := s_fits_term) hl14 hc14 hk14,
     b_fits_term := (fun_mk (st := s_fits_term) hl14 hc14 hk14).binds (ps := ["account", "change"]) fun _ _ _ _ _ _ us hl => match us, hl with | [_, _], _ => rfl,
     mg_fits_grant := PySem.W.mg_of X G ha15,
     fn_fits_grant := fun_mk (st := s_fits_grant) hl15 hc15 hk15,
     b_fits_grant := (fun_mk (st := s_fits_grant) hl15 hc15 hk15).binds (ps := ["change"]) fun _ _ _ _ _ _ us hl => match us, hl with | [_], _ => rfl,
     mg_fits_undo := PySem.W.mg_of X G ha16,
     fn_fits_undo := fun_mk (st := s_fits_undo) hl16 hc16 hk16,
     b_fits_undo := (fun_mk (st := s_fits_undo) hl16 hc16 hk16).binds (ps := ["change", "standing"]) fun _ _ _ _ _ _ us hl => match us, hl with | [_, _], _ => rfl,
     mg_fits := PySem.W.mg_of X G ha17,
     fn_fits := fun_mk (st := s_fits) hl17 hc17 hk17,
     b_fits := (fun_mk (st := s_fits) hl17 hc17 hk17).binds (ps := ["account", "ahead", "change"]) fun _ _ _ _ _ _ us hl => match us, hl with | [_, _, _], _ => rfl,
     mg_standing_terms := PySem.W.mg_of X G ha18,
     fn_standing_terms := fun_mk (st := s_standing_terms) hl18 hc18 hk18,
     b_standing_terms := (fun_mk (st := s_standing_terms) hl18 hc18 hk18).binds (ps := ["entries"]) fun _ _ _ _ _ _ us hl => match us, hl with | [_], _ => rfl,
     mg_check_entries := PySem.W.mg_of X G ha19,
     fn_check_entries := fun_mk (st := s_check_entries) hl19 hc19 hk19,
     b_check_entries := (fun_mk (st := s_check_entries) hl19 hc19 hk19).binds (ps := ["account", "entries"]) fun _ _ _ _ _ _ us hl => match us, hl with | [_, _], _ => rfl,
     mg_in_time := PySem.W.mg_of X G ha20,
     cc_in_time := qc20,
     tb_in_time := ⟨⟨_, _, _, _, _, PySem.W.mg_of X G ha20, hl20, qc20⟩, ⟨_, _, _, _, _, _, _, _, _, _, ql20, qa20, qb20, qd20, qe20, qf20, qg20⟩, qh20, qi20⟩,
     fn_in_time := fun_mk (st := s_in_time) hl20 hc20 hk20,
     b_in_time := (fun_mk (st := s_in_time) hl20 hc20 hk20).binds (ps := ["entries"]) fun _ _ _ _ _ _ us hl => match us, hl with | [_], _ => rfl,
     mg_xL_cell_at := PySem.W.mg_of X G ha21,
     fn_xL_cell_at := fun_mk (st := s_xL_cell_at) hl21 hc21 hk21,
     b_xL_cell_at := (fun_mk (st := s_xL_cell_at) hl21 hc21 hk21).binds (ps := ["_law_script", "_law_k"]) fun _ _ _ _ _ _ us hl => match us, hl with | [_, _], _ => rfl,
     mg_xL_mixed := PySem.W.mg_of X G ha22,
     fn_xL_mixed := fun_mk (st := s_xL_mixed) hl22 hc22 hk22,
     b_xL_mixed := (fun_mk (st := s_xL_mixed) hl22 hc22 hk22).binds (ps := ["_law_cell", "_law_k"]) fun _ _ _ _ _ _ us hl => match us, hl with | [_, _], _ => rfl,
     mg_xL_plan_names := PySem.W.mg_of X G ha23,
     fn_xL_plan_names := fun_mk (st := s_xL_plan_names) hl23 hc23 hk23,
     b_xL_plan_names := (fun_mk (st := s_xL_plan_names) hl23 hc23 hk23).binds (ps := ["_law_cell", "_law_many"]) fun _ _ _ _ _ _ us hl => match us, hl with | [_, _], _ => rfl,
     mg_xL_account := PySem.W.mg_of X G ha24,
     fn_xL_account := fun_mk (st := s_xL_account) hl24 hc24 hk24,
     b_xL_account := (fun_mk (st := s_xL_account) hl24 hc24 hk24).binds (ps := ["_law_script"]) fun _ _ _ _ _ _ us hl => match us, hl with | [_], _ => rfl,
     mg_xL_change := PySem.W.mg_of X G ha25,
     fn_xL_change := fun_mk (st := s_xL_change) hl25 hc25 hk25,
     b_xL_change := (fun_mk (st := s_xL_change) hl25 hc25 hk25).binds (ps := ["_law_account_here", "_law_n", "_law_own", "_law_free"]) fun _ _ _ _ _ _ us hl => match us, hl with | [_, _, _, _], _ => rfl,
     mg_xL_entries := PySem.W.mg_of X G ha26,
     fn_xL_entries := fun_mk (st := s_xL_entries) hl26 hc26 hk26,
     b_xL_entries := (fun_mk (st := s_xL_entries) hl26 hc26 hk26).binds (ps := ["_law_script", "_law_account_here", "_law_start"]) fun _ _ _ _ _ _ us hl => match us, hl with | [_, _, _], _ => rfl,
     mg_xL_due := PySem.W.mg_of X G ha27,
     fn_xL_due := fun_mk (st := s_xL_due) hl27 hc27 hk27,
     b_xL_due := (fun_mk (st := s_xL_due) hl27 hc27 hk27).binds (ps := ["_law_entries_here"]) fun _ _ _ _ _ _ us hl => match us, hl with | [_], _ => rfl,
     mg_law := PySem.W.mg_of X G ha28,
     fn_law := fun_mk (st := s_law) hl28 hc28 hk28,
     b_law := (fun_mk (st := s_law) hl28 hc28 hk28).binds (ps := ["_law_script"]) fun _ _ _ _ _ _ us hl => match us, hl with | [_], _ => rfl,
     mg_SpanError := PySem.W.mg_of X G g_SpanError,
     cl_SpanError := ⟨by rw [gc_SpanError]; rfl, gt_SpanError, gm_SpanError⟩,
     mg_NoDate := PySem.W.mg_of X G g_NoDate,
     cl_NoDate := ⟨by rw [gc_NoDate]; rfl, gt_NoDate, gm_NoDate⟩,
     mg_NoSpan := PySem.W.mg_of X G g_NoSpan,
     cl_NoSpan := ⟨by rw [gc_NoSpan]; rfl, gt_NoSpan, gm_NoSpan⟩,
     mg_TooLong := PySem.W.mg_of X G g_TooLong,
     cl_TooLong := ⟨by rw [gc_TooLong]; rfl, gt_TooLong, gm_TooLong⟩,
     mg_NoEntry := PySem.W.mg_of X G g_NoEntry,
     cl_NoEntry := ⟨by rw [gc_NoEntry]; rfl, gt_NoEntry, gm_NoEntry⟩,
     ex_NoDate := ⟨_, _, _, PySem.F.excBase_ValueError, gx_NoDate⟩,
     ex_NoSpan := ⟨_, _, _, PySem.F.excBase_ValueError, gx_NoSpan⟩,
     ex_TooLong := ⟨_, _, _, PySem.F.excBase_ValueError, gx_TooLong⟩,
     k_LAST_YEAR := ⟨_, PySem.W.mg_of X G k_LAST_YEAR, ⟨_, rfl⟩⟩,
     k_LAST_DAY := ⟨_, PySem.W.mg_of X G k_LAST_DAY, ⟨_, rfl⟩⟩,
     k_MONTH_DAYS := ⟨A_MONTH_DAYS, PySem.W.mg_of X G k_MONTH_DAYS, fun H => .inr ⟨_, its_MONTH_DAYS, n_MONTH_DAYS, kl_MONTH_DAYS, rfl, rfl, kz_MONTH_DAYS, kv_MONTH_DAYS⟩⟩,
     k_ROUND_DAYS := ⟨_, PySem.W.mg_of X G k_ROUND_DAYS, ⟨_, rfl⟩⟩,
     k_HUNDRED_YEARS_DAYS := ⟨_, PySem.W.mg_of X G k_HUNDRED_YEARS_DAYS, ⟨_, rfl⟩⟩,
     k_FOUR_YEARS_DAYS := ⟨_, PySem.W.mg_of X G k_FOUR_YEARS_DAYS, ⟨_, rfl⟩⟩,
     k_YEAR_DAYS := ⟨_, PySem.W.mg_of X G k_YEAR_DAYS, ⟨_, rfl⟩⟩,
     k_SPANS := ⟨_, PySem.W.mg_of X G k_SPANS, ⟨_, rfl⟩⟩,
     k_MOST_ENTRIES := ⟨_, PySem.W.mg_of X G k_MOST_ENTRIES, ⟨_, rfl⟩⟩,
     k_MOST_SEATS := ⟨_, PySem.W.mg_of X G k_MOST_SEATS, ⟨_, rfl⟩⟩,
     k_TERMS := ⟨A_TERMS, PySem.W.mg_of X G k_TERMS, fun H => .inr ⟨_, its_TERMS, n_TERMS, kl_TERMS, rfl, rfl, kz_TERMS, kv_TERMS⟩⟩,
     no_range := PySem.W.mg_none_of X G z_range,
     no_divmod := PySem.W.mg_none_of X G z_divmod,
     no_min := PySem.W.mg_none_of X G z_min,
     no_isinstance := PySem.W.mg_none_of X G z_isinstance,
     no_int := PySem.W.mg_none_of X G z_int,
     no_bool := PySem.W.mg_none_of X G z_bool,
     no_len := PySem.W.mg_none_of X G z_len,
     no_enumerate := PySem.W.mg_none_of X G z_enumerate,
     no_sorted := PySem.W.mg_none_of X G z_sorted,
     no_list := PySem.W.mg_none_of X G z_list,
     no_tuple := PySem.W.mg_none_of X G z_tuple }⟩
theorem bind_law {K : PySem.W.Frag} {mg : Str → Option Value} {t : Adr} (T : Txt K mg t) : ∀ (s : Shared) (u : Value), BindsTo s t.d_law ⟨[u], []⟩ [("_law_script", u)] := by
  obtain ⟨oc, od, kV, doc, pm, an, cdv, ct, osl, e, lk, hcd⟩ := T.fn_law.ex
  intro s u
  rw [e]
  exact .of_eq rfl
theorem walk {l : PySem.W.OpenLaw} {q : Program} {loose : List Str} {XP : (Str → Option Value) → Heap → Prop} {YP : World → Heap → Prop} {d : DefRec} {K : Params → PySem.W.Frag} (hn : l.most = some 63) (hdf : d.params.defaults = [])
    (hY : ∀ (w : World) (h : Heap), YP w h → (K w.params).In h) (hy : ∃ e ∈ PyProof.Rows.recsOf q, e.name = "in_time")
    (F : ∀ (w : World) (mg : Str → Option Value) (fa : Addr) (h : Heap), (K w.params).In h → h.Ns mainGlobals mg → mg d.name = some (.ref fa) →
      ∃ (fd : FuncData) (c T : Addr), TabK (K w.params) mg "in_time" c T ∧ (∀ (s : Shared) (u : Value), BindsTo s fd ⟨[u], []⟩ [("_law_script", u)]) ∧ ∀ base : Heap, (K w.params).In base → base.Ns mainGlobals mg → BM mg base → FnOk l.prog w (K w.params) mg base (CXE l.prog w) 16 fa fd ["_law_script"] (spLaw (K w.params) T)) :
    PySem.W.WalkO q loose XP YP l.row.toRowW d [] (fun f vs => PySem.call f vs) :=
  L2.walk_ofT (n := 63) (k := 16) (x := "_law_script") (y := "in_time") (CX := fun w => CXE l.prog w) (sp := fun K T => spLaw K T) hn (by decide) hdf ⟨rfl, by decide, by decide⟩ hY hy F (fun _ _ _ a ns hl hO hS => ⟨a, ns, rfl, hS, hl, hO.1, fun _ => rfl⟩) fun _ _ _ _ _ ⟨_, _, _, _, _, z⟩ => z
end K70
set_option maxRecDepth 100000 in
def PySem.W.Fast.tw10907726497200793916 : Unit := ()
set_option maxRecDepth 100000 in
def PySem.W.Fast.tw17534260339443869101 : Unit := ()
set_option maxRecDepth 100000 in
def PySem.W.Fast.tw749355421595668776 : Unit := ()
set_option maxRecDepth 100000 in
def PySem.W.Fast.tw16333635130331841126 : PySem.Program := PySem.Challenge.pw_paidspan_k70_entries_in_their_time
set_option maxRecDepth 100000 in
theorem PySem.W.Fast.te16333635130331841126 : PySem.Challenge.pw_paidspan_k70_entries_in_their_time = PySem.W.Fast.tw16333635130331841126 := rfl
set_option maxRecDepth 100000 in
def PySem.W.Fast.tw14700460339426649427 : Unit := ()
set_option maxRecDepth 100000 in
def PySem.W.Fast.tw8822984341390237887 : Unit := ()
set_option maxRecDepth 100000 in
def PySem.W.Fast.tw8955567491566165458 : Unit := ()
set_option maxRecDepth 100000 in
def PySem.W.Fast.tw1367966106172774357 : Unit := ()
set_option maxRecDepth 100000 in
def PySem.W.Fast.tw9677123290697906409 : Unit := ()
set_option maxRecDepth 100000 in
def PySem.W.Fast.tw936818847234726082 : Unit := ()
set_option maxRecDepth 100000 in
def PySem.W.Fast.tw12178045104151249752 : Unit := ()
set_option maxRecDepth 100000 in
def PySem.W.Fast.tw14570164237180382392 : Unit := ()
set_option maxRecDepth 100000 in
def PySem.W.Fast.tw18325979626320913001 : Unit := ()
set_option maxRecDepth 100000 in
def PySem.W.Fast.tw4539596669325252993 : Unit := ()
set_option maxRecDepth 100000 in
def PySem.W.Fast.tw14218961523245734376 : Unit := ()
set_option maxRecDepth 100000 in
def PySem.W.Fast.tw1446857175170079333 : Unit := ()
set_option maxRecDepth 100000 in
def PySem.W.Fast.tw16049778380367662901 : Unit := ()
set_option maxRecDepth 100000 in
def PySem.W.Fast.tw15484168058430864664 : Unit := ()
set_option maxRecDepth 100000 in
def PySem.W.Fast.tw15573130808841292521 : Unit := ()
set_option maxRecDepth 100000 in
def PySem.W.Fast.tw2099376243863847596 : Unit := ()
set_option maxRecDepth 100000 in
def PySem.W.Fast.tw16783241416018639502 : Unit := ()
set_option maxRecDepth 100000 in
def PySem.W.Fast.tw12475583986269293130 : Unit := ()
set_option maxRecDepth 100000 in
def PySem.W.Fast.tw15234476911907566881 : Unit := ()
set_option maxRecDepth 100000 in
def PySem.W.Fast.tw14710876286326008192 : Unit := ()
set_option maxRecDepth 100000 in
def PySem.W.Fast.tw14902596449138392657 : Unit := ()
set_option maxRecDepth 100000 in
def PySem.W.Fast.tw10040474150181035687 : Unit := ()
set_option maxRecDepth 100000 in
def PySem.W.Fast.tw6563183622536708840 : Unit := ()
set_option maxRecDepth 100000 in
def PySem.W.Fast.tw4394992106702295846 : Unit := ()
set_option maxRecDepth 100000 in
def PySem.W.Fast.tw16638599938863103242 : Unit := ()
set_option maxRecDepth 100000 in
def PySem.W.Fast.tw16129331835700962144 : Unit := ()
set_option maxRecDepth 100000 in
def PySem.W.Fast.tw2217054501625887613 : Unit := ()
set_option maxRecDepth 100000 in
def PySem.W.Fast.tw1231969365762228408 : Unit := ()
set_option maxRecDepth 100000 in
def PySem.W.Fast.tw16393500808109031703 : Unit := ()
set_option maxRecDepth 100000 in
def PySem.W.Fast.tw8472375815722296850 : Unit := ()
set_option maxRecDepth 100000 in
def PySem.W.Fast.tw16792476659744648988 : Unit := ()
set_option maxRecDepth 100000 in
def PySem.W.Fast.tw11287684925760774260 : Unit := ()
set_option maxRecDepth 100000 in
def PySem.W.Fast.tw1329535478672604779 : Unit := ()
set_option maxRecDepth 100000 in
def PySem.W.Fast.tw3357172298433924639 : Unit := ()
set_option maxRecDepth 100000 in
def PySem.W.Fast.tw1813000263995745976 : Unit := ()
set_option maxRecDepth 100000 in
def PySem.W.Fast.tw4814056103546474008 : Unit := ()
set_option maxRecDepth 100000 in
def PySem.W.Fast.tw4894231630540290022 : Unit := ()
set_option maxRecDepth 100000 in
def PySem.W.Fast.tw9795230970660996728 : Unit := ()
set_option maxRecDepth 100000 in
def PySem.W.Fast.tw5710173010625387638 : Unit := ()
set_option maxRecDepth 100000 in
def PySem.W.Fast.tw17048603625342527743 : Unit := ()
set_option maxRecDepth 100000 in
def PySem.W.Fast.tw12522361215670068126 : Unit := ()
set_option maxRecDepth 100000 in
def PySem.W.Fast.tw6311866136528172460 : Unit := ()
set_option maxRecDepth 100000 in
def PySem.W.Fast.tw10929184823573005484 : Unit := ()
set_option maxRecDepth 100000 in
def PySem.W.Fast.tw9545132950686562585 : Unit := ()
set_option maxRecDepth 100000 in
def PySem.W.Fast.tw5349778424359805286 : Unit := ()
set_option maxRecDepth 100000 in
def PySem.W.Fast.tw15005210142430907712 : Unit := ()
set_option maxRecDepth 100000 in
def PySem.W.Fast.tw11609508748652936170 : Unit := ()
set_option maxRecDepth 100000 in
def PySem.W.Fast.tw8172735829587519896 : Unit := ()
set_option maxRecDepth 100000 in
def PySem.W.Fast.tw1855327903526325053 : Unit := ()
set_option maxRecDepth 100000 in
def PySem.W.Fast.tw12274323553767678960 : Unit := ()
set_option maxRecDepth 100000 in
def PySem.W.Fast.tw4376130746234129134 : Unit := ()
set_option maxRecDepth 100000 in
def PySem.W.Fast.tw3624738082876527494 : Unit := ()
set_option maxRecDepth 100000 in
def PySem.W.Fast.tw13426196215453923846 : Unit := ()
open PySem PySem.W PyProof.Rows
set_option maxRecDepth 100000 in
set_option maxHeartbeats 0 in
theorem PySem.Challenge.cw_paidspan_k70_entries_in_their_time_holds : PySem.Challenge.rw_paidspan_k70_entries_in_their_time.Holds := by
  w_on; o_law; k_head; (case hw => w_witness2)
  k_fill
  refine K70.walk (l := PySem.Challenge.rw_paidspan_k70_entries_in_their_time) rfl rfl (fun w h Y => PySem.W.km_in_of Y) ?hy ?F
  case hy => exact L2.recs_any (by kernel_rfl)
  case F =>
    intro w mg fa h KX G hmg
    have T : ∃ t, K70.Txt (L2.KOf KX) mg t := by
      dsimp only [L2.KOf]
      refine' K70.txt_mk KX G ?ha0 ?hl0 ?hc0 ?hk0 ?ha1 ?hl1 ?hc1 ?hk1 ?ha2 ?hl2 ?hc2 ?hk2 ?ha3 ?hl3 ?hc3 ?hk3 ?ha4 ?hl4 ?hc4 ?hk4 ?ha5 ?hl5 ?hc5 ?hk5 ?ha6 ?hl6 ?hc6 ?hk6 ?ha7 ?hl7 ?hc7 ?hk7 ?ha8 ?hl8 ?hc8 ?hk8 ?ha9 ?hl9 ?hc9 ?hk9 ?ha10 ?hl10 ?hc10 ?hk10 ?ha11 ?hl11 ?hc11 ?hk11 ?ha12 ?hl12 ?hc12 ?hk12 ?ha13 ?hl13 ?hc13 ?hk13 ?ha14 ?hl14 ?hc14 ?hk14 ?ha15 ?hl15 ?hc15 ?hk15 ?ha16 ?hl16 ?hc16 ?hk16 ?ha17 ?hl17 ?hc17 ?hk17 ?ha18 ?hl18 ?hc18 ?hk18 ?ha19 ?hl19 ?hc19 ?hk19 ?ha20 ?hl20 ?hc20 ?hk20 ?qc20 ?ql20 ?qa20 ?qb20 ?qd20 ?qe20 ?qf20 ?qg20 ?qh20 ?qi20 ?ha21 ?hl21 ?hc21 ?hk21 ?ha22 ?hl22 ?hc22 ?hk22 ?ha23 ?hl23 ?hc23 ?hk23 ?ha24 ?hl24 ?hc24 ?hk24 ?ha25 ?hl25 ?hc25 ?hk25 ?ha26 ?hl26 ?hc26 ?hk26 ?ha27 ?hl27 ?hc27 ?hk27 ?ha28 ?hl28 ?hc28 ?hk28 ?g_SpanError ?gc_SpanError ?gt_SpanError ?gm_SpanError ?g_NoDate ?gc_NoDate ?gt_NoDate ?gm_NoDate ?g_NoSpan ?gc_NoSpan ?gt_NoSpan ?gm_NoSpan ?g_TooLong ?gc_TooLong ?gt_TooLong ?gm_TooLong ?g_NoEntry ?gc_NoEntry ?gt_NoEntry ?gm_NoEntry ?gx_NoDate ?gx_NoSpan ?gx_TooLong ?k_LAST_YEAR ?k_LAST_DAY ?k_MONTH_DAYS ?kl_MONTH_DAYS ?kz_MONTH_DAYS ?kv_MONTH_DAYS ?k_ROUND_DAYS ?k_HUNDRED_YEARS_DAYS ?k_FOUR_YEARS_DAYS ?k_YEAR_DAYS ?k_SPANS ?k_MOST_ENTRIES ?k_MOST_SEATS ?k_TERMS ?kl_TERMS ?kz_TERMS ?kv_TERMS ?z_range ?z_divmod ?z_min ?z_isinstance ?z_int ?z_bool ?z_len ?z_enumerate ?z_sorted ?z_list ?z_tuple
      (case g_SpanError => k_is)
      (case g_NoDate => k_is)
      (case g_NoSpan => k_is)
      (case g_TooLong => k_is)
      (case g_NoEntry => k_is)
      (case ha0 => k_is)
      (case hl0 => k_is)
      (case hc0 => k_is)
      (case hk0 => k_is)
      (case ha1 => k_is)
      (case hl1 => k_is)
      (case hc1 => k_is)
      (case hk1 => k_is)
      (case ha2 => k_is)
      (case hl2 => k_is)
      (case hc2 => k_is)
      (case hk2 => k_is)
      (case ha3 => k_is)
      (case hl3 => k_is)
      (case hc3 => k_is)
      (case hk3 => k_is)
      (case ha4 => k_is)
      (case hl4 => k_is)
      (case hc4 => k_is)
      (case hk4 => k_is)
      (case ha5 => k_is)
      (case hl5 => k_is)
      (case hc5 => k_is)
      (case hk5 => k_is)
      (case ha6 => k_is)
      (case hl6 => k_is)
      (case hc6 => k_is)
      (case hk6 => k_is)
      (case ha7 => k_is)
      (case hl7 => k_is)
      (case hc7 => k_is)
      (case hk7 => k_is)
      (case ha8 => k_is)
      (case hl8 => k_is)
      (case hc8 => k_is)
      (case hk8 => k_is)
      (case ha9 => k_is)
      (case hl9 => k_is)
      (case hc9 => k_is)
      (case hk9 => k_is)
      (case ha10 => k_is)
      (case hl10 => k_is)
      (case hc10 => k_is)
      (case hk10 => k_is)
      (case ha11 => k_is)
      (case hl11 => k_is)
      (case hc11 => k_is)
      (case hk11 => k_is)
      (case ha12 => k_is)
      (case hl12 => k_is)
      (case hc12 => k_is)
      (case hk12 => k_is)
      (case ha13 => k_is)
      (case hl13 => k_is)
      (case hc13 => k_is)
      (case hk13 => k_is)
      (case ha14 => k_is)
      (case hl14 => k_is)
      (case hc14 => k_is)
      (case hk14 => k_is)
      (case ha15 => k_is)
      (case hl15 => k_is)
      (case hc15 => k_is)
      (case hk15 => k_is)
      (case ha16 => k_is)
      (case hl16 => k_is)
      (case hc16 => k_is)
      (case hk16 => k_is)
      (case ha17 => k_is)
      (case hl17 => k_is)
      (case hc17 => k_is)
      (case hk17 => k_is)
      (case ha18 => k_is)
      (case hl18 => k_is)
      (case hc18 => k_is)
      (case hk18 => k_is)
      (case ha19 => k_is)
      (case hl19 => k_is)
      (case hc19 => k_is)
      (case hk19 => k_is)
      (case ha20 => k_is)
      (case hl20 => k_is)
      (case hc20 => k_is)
      (case hk20 => k_is)
      (case qc20 => rfl)
      (case ql20 => k_is)
      (case qa20 => rfl)
      (case qb20 => rfl)
      (case qd20 => rfl)
      (case qe20 => rfl)
      (case qf20 => rfl)
      (case qg20 => rfl)
      (case qh20 => decide)
      (case qi20 => kernel_rfl)
      (case ha21 => k_is)
      (case hl21 => k_is)
      (case hc21 => k_is)
      (case hk21 => k_is)
      (case ha22 => k_is)
      (case hl22 => k_is)
      (case hc22 => k_is)
      (case hk22 => k_is)
      (case ha23 => k_is)
      (case hl23 => k_is)
      (case hc23 => k_is)
      (case hk23 => k_is)
      (case ha24 => k_is)
      (case hl24 => k_is)
      (case hc24 => k_is)
      (case hk24 => k_is)
      (case ha25 => k_is)
      (case hl25 => k_is)
      (case hc25 => k_is)
      (case hk25 => k_is)
      (case ha26 => k_is)
      (case hl26 => k_is)
      (case hc26 => k_is)
      (case hk26 => k_is)
      (case ha27 => k_is)
      (case hl27 => k_is)
      (case hc27 => k_is)
      (case hk27 => k_is)
      (case ha28 => k_is)
      (case hl28 => k_is)
      (case hc28 => k_is)
      (case hk28 => k_is)
      (case gc_SpanError => k_is)
      (case gt_SpanError => k_is)
      (case gm_SpanError => k_is)
      (case gc_NoDate => k_is)
      (case gt_NoDate => k_is)
      (case gm_NoDate => k_is)
      (case gc_NoSpan => k_is)
      (case gt_NoSpan => k_is)
      (case gm_NoSpan => k_is)
      (case gc_TooLong => k_is)
      (case gt_TooLong => k_is)
      (case gm_TooLong => k_is)
      (case gc_NoEntry => k_is)
      (case gt_NoEntry => k_is)
      (case gm_NoEntry => k_is)
      (case gx_NoDate => k_exc)
      (case gx_NoSpan => k_exc)
      (case gx_TooLong => k_exc)
      (case k_LAST_YEAR => k_is)
      (case k_LAST_DAY => k_is)
      (case k_MONTH_DAYS => k_is)
      (case kl_MONTH_DAYS => k_is)
      (case kz_MONTH_DAYS => decide)
      (case kv_MONTH_DAYS => exact (.cons ⟨_, rfl⟩ (.cons ⟨_, rfl⟩ (.cons ⟨_, rfl⟩ (.cons ⟨_, rfl⟩ (.cons ⟨_, rfl⟩ (.cons ⟨_, rfl⟩ (.cons ⟨_, rfl⟩ (.cons ⟨_, rfl⟩ (.cons ⟨_, rfl⟩ (.cons ⟨_, rfl⟩ (.cons ⟨_, rfl⟩ (.cons ⟨_, rfl⟩ .nil)))))))))))))
      (case k_ROUND_DAYS => k_is)
      (case k_HUNDRED_YEARS_DAYS => k_is)
      (case k_FOUR_YEARS_DAYS => k_is)
      (case k_YEAR_DAYS => k_is)
      (case k_SPANS => k_is)
      (case k_MOST_ENTRIES => k_is)
      (case k_MOST_SEATS => k_is)
      (case k_TERMS => k_is)
      (case kl_TERMS => k_is)
      (case kz_TERMS => decide)
      (case kv_TERMS => exact (.cons ⟨_, rfl⟩ (.cons ⟨_, rfl⟩ (.cons ⟨_, rfl⟩ (.cons ⟨_, rfl⟩ (.cons ⟨_, rfl⟩ (.cons ⟨_, rfl⟩ .nil)))))))
      (case z_range => k_is)
      (case z_divmod => k_is)
      (case z_min => k_is)
      (case z_isinstance => k_is)
      (case z_int => k_is)
      (case z_bool => k_is)
      (case z_len => k_is)
      (case z_enumerate => k_is)
      (case z_sorted => k_is)
      (case z_list => k_is)
      (case z_tuple => k_is)
    obtain ⟨t, T⟩ := T
    have e0 := hmg.symm.trans T.mg_law
    cases e0
    refine ⟨_, t.k_in_time, t.p_in_time, T.tb_in_time, ?b, fun base _ _ B => (K70.ok_law T B).mono (by decide)⟩
    exact K70.bind_law T

