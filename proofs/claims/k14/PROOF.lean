import PyProof.Rows.All
import Wide.All
import OpenK.AllK
import Wide.FinOn
import Lean
import PyProof.EqAt
import PyProof.EqKinds
import PyProof.TupleCall
import PySem.Challenge.RW_paidspan_k14_texts_of_no_amount
set_option Elab.async false
set_option linter.all false
set_option maxRecDepth 100000
/-! THE HAND LAYER, for ints, bools, texts, own classes, LISTS and tuples (index, slices, in, append, pop ..), calls, loops. Paste it whole ahead of your own text; what your proof does not reach may be deleted. -/
namespace L2
open PySem PySem.Spec PyProof.Rows

/-- a key: an int or a str -/
abbrev Key := Sum Int Str
def keyIs : Key → Value → Bool
  | .inl k, v => Value.isInt k v
  | .inr x, v => Value.isStrOf x v
def keyH (w : World) : Key → Int
  | .inl k => hashInt k
  | .inr x => hashStr w x
theorem keyIs_shape : ∀ {k : Key} {v : Value}, keyIs k v = true → (∃ i t, k = Sum.inl i ∧ v = Value.int i t) ∨ (∃ x t, k = Sum.inr x ∧ v = Value.str x t)
  | .inl i, v, h => by
    obtain ⟨t, e⟩ := Value.isInt_shape (k := i) (v := v) h
    exact .inl ⟨i, t, rfl, e⟩
  | .inr x, v, h => by
    obtain ⟨t, e⟩ := Value.isStrOf_shape (x := x) (v := v) h
    exact .inr ⟨x, t, rfl, e⟩
theorem key_ll (a b : Int) : decide ((Sum.inl a : Key) = Sum.inl b) = (a == b) := by
  by_cases e : a = b
  · subst e; simp
  · have h : ¬ (Sum.inl a : Key) = Sum.inl b := fun q => e (Sum.inl.inj q)
    rw [decide_eq_false h]
    exact (beq_eq_false_iff_ne.mpr e).symm
theorem key_rr (a b : Str) : decide ((Sum.inr a : Key) = Sum.inr b) = decide (a = b) := by
  by_cases e : a = b
  · subst e; simp
  · have h : ¬ (Sum.inr a : Key) = Sum.inr b := fun q => e (Sum.inr.inj q)
    rw [decide_eq_false h, decide_eq_false e]
theorem key_lr (a : Int) (b : Str) : decide ((Sum.inl a : Key) = Sum.inr b) = false := decide_eq_false (fun q => nomatch q)
theorem key_rl (a : Str) (b : Int) : decide ((Sum.inr a : Key) = Sum.inl b) = false := decide_eq_false (fun q => nomatch q)

def mixKind (prog : Program) (w : World) : PySem.KeyKind prog w Key where
  is := keyIs
  hash := keyH w
  inj := fun v a b ha hb => by
    rcases keyIs_shape ha with ⟨i, t, rfl, rfl⟩ | ⟨x, t, rfl, rfl⟩
    · rcases keyIs_shape hb with ⟨j, u, rfl, e⟩ | ⟨y, u, rfl, e⟩
      · injection e with e1 _; rw [e1]
      · exact nomatch e
    · rcases keyIs_shape hb with ⟨j, u, rfl, e⟩ | ⟨y, u, rfl, e⟩
      · exact nomatch e
      · injection e with e1 _; rw [e1]
  byValue := fun k v h => by
    rcases keyIs_shape h with ⟨i, t, rfl, rfl⟩ | ⟨x, t, rfl, rfl⟩ <;> rfl
  pyHash := fun hv h => by
    rcases keyIs_shape hv with ⟨i, t, rfl, rfl⟩ | ⟨x, t, rfl, rfl⟩
    · exact wpAny_pyHash_int h
    · exact wpAny_pyHash_str h
  eqBool := fun hu hv h => by
    rcases keyIs_shape hu with ⟨i, t, rfl, rfl⟩ | ⟨x, t, rfl, rfl⟩
    · rcases keyIs_shape hv with ⟨j, u, rfl, rfl⟩ | ⟨y, u, rfl, rfl⟩
      · rw [key_ll] at h; exact wpAny_eqBool_int h
      · rw [key_lr] at h; exact SeqAt.EqAt.int_str i t y u _ _ _ _ h
    · rcases keyIs_shape hv with ⟨j, u, rfl, rfl⟩ | ⟨y, u, rfl, rfl⟩
      · rw [key_rl] at h; exact SeqAt.EqAt.str_int x t j u _ _ _ _ h
      · rw [key_rr] at h; exact wpAny_eqBool_str h
  «strs» := fun k x t v h => by
    rcases keyIs_shape h with ⟨i, u, rfl, e⟩ | ⟨y, u, rfl, e⟩
    · exact nomatch e
    · injection e with e1 _
      subst e1
      cases v <;> rfl

end L2

namespace L2
open PySem PySem.Spec PyProof.Rows

/-- a value, without the heap -/
inductive V where
  | non | bl (b : Bool) | int (i : Int) | str (x : Str) | byt (b : Array UInt8) | flt (b : UInt64) | ref (a : Addr) | ty (n : String)
  deriving DecidableEq

def RelV : V → Value → Prop
  | .non, u => u = Value.none
  | .bl b, u => u = Value.bool b
  | .int i, u => ∃ t, u = Value.int i t
  | .str x, u => ∃ t, u = Value.str x t
  | .byt b, u => ∃ t, u = Value.bytes b t
  | .flt b, u => ∃ t, u = Value.float b t
  | .ref a, u => u = Value.ref a
  | .ty n, u => u = Value.type n

abbrev Vals : List V → List Value → Prop := Paired RelV
theorem Vals.length {xs : List V} {us : List Value} (r : Vals xs us) : xs.length = us.length := Paired.length r
theorem Vals.get : ∀ {xs : List V} {us : List Value} {i : Nat} {x : V}, Vals xs us → xs[i]? = some x → ∃ u, us[i]? = some u ∧ RelV x u
  | _, _, _, _, .nil, e => by simp at e
  | _, _, 0, _, .cons r _, e => by simp at e; subst e; exact ⟨_, rfl, r⟩
  | _, _, i + 1, x, .cons _ t, e => by
    obtain ⟨u, h1, h2⟩ := Vals.get (i := i) (x := x) t (by simpa using e)
    exact ⟨u, by simpa using h1, h2⟩
theorem Vals.set {x : V} {u : Value} (r : RelV x u) : ∀ {xs : List V} {us : List Value} (i : Nat), Vals xs us → Vals (xs.set i x) (us.set i u)
  | _, _, _, .nil => .nil
  | _, _, 0, .cons _ t => .cons r t
  | _, _, i + 1, .cons q t => .cons q (Vals.set r i t)
theorem Vals.append : ∀ {xs ys : List V} {us ws : List Value}, Vals xs us → Vals ys ws → Vals (xs ++ ys) (us ++ ws)
  | _, _, _, _, .nil, s => s
  | _, _, _, _, .cons r t, s => .cons r (Vals.append t s)
theorem Vals.take : ∀ {xs : List V} {us : List Value} (n : Nat), Vals xs us → Vals (xs.take n) (us.take n)
  | _, _, 0, _ => .nil
  | _, _, _ + 1, .nil => .nil
  | _, _, n + 1, .cons r t => .cons r (Vals.take n t)
theorem Vals.drop : ∀ {xs : List V} {us : List Value} (n : Nat), Vals xs us → Vals (xs.drop n) (us.drop n)
  | _, _, 0, r => r
  | _, _, _ + 1, .nil => .nil
  | _, _, n + 1, .cons _ t => Vals.drop n t
theorem Vals.none_of : ∀ {xs : List V} {us : List Value} {i : Nat}, Vals xs us → xs[i]? = none → us[i]? = none := fun {xs us i} r e => by
  have h1 := r.length
  have h2 : xs.length ≤ i := List.getElem?_eq_none_iff.mp e
  exact List.getElem?_eq_none_iff.mpr (by omega)

def RelO : Option V → Option Value → Prop
  | some v, some u => RelV v u
  | none, none => True
  | _, _ => False
def KV {κ : Type} : List (κ × V) → List (κ × Value) → Prop := Paired fun (p : κ × V) (q : κ × Value) => p.1 = q.1 ∧ RelV p.2 q.2

/-- a key of a dict (00_mix): an int or a text -/
def kV : Key → V
  | .inl i => .int i
  | .inr x => .str x

/-- what stands at a tracked address -/
inductive HO where
  /-- a list -/
  | lst (xs : List V)
  /-- a tuple (never changes) -/
  | tup (xs : List V)
  /-- a dict whose keys are ints and texts; one whose keys are tuples of ints and texts (the empty one is both) -/
  | dK (kvs : List (Key × V)) | dT (kvs : List (List Key × V))
  /-- a set of ints: its members, its size -/
  | set (S : Int → Bool) (n : Nat)
  /-- an instance of the class at C, its dict at dx, its attributes -/
  | ins (C dx : Addr) (fs : List (Str × V))
  /-- the dict of the instance at x -/
  | own (x : Addr)
  /-- the dict of an exception -/
  | xd (fs : List (Str × V))
  /-- a bound method, f of x -/
  | met (f x : Addr)
  /-- a range object lo, lo + 1, .. below hi -/
  | rng (lo hi : Int)
  /-- a thing that is known to the object (the script; a dict while a loop walks it): read, never written while it is so -/
  | frz (o : Obj) (u : HO)
  /-- a code object's table -/
  | tbl (ps : Array Value)
  /-- any other thing, by what is true of its one object (a def of one's own: SetO a S n := HO.ext fun h => ..) -/
  | ext (φ : Heap → Prop)

abbrev Hp := Addr → Option HO
def upd (H : Hp) (a : Addr) (o : HO) : Hp := fun b => if b = a then some o else H b
theorem upd_same {H : Hp} {a : Addr} {o : HO} : upd H a o a = some o := by unfold upd; rw [if_pos rfl]
theorem upd_ne {H : Hp} {a b : Addr} {o : HO} (h : b ≠ a) : upd H a o b = H b := by unfold upd; rw [if_neg h]
theorem ne_of_none {H : Hp} {a b : Addr} {o : HO} (h : H a = some o) (h' : H b = none) : a ≠ b := by
  intro e; subst e; rw [h] at h'; cases h'

section
variable (P : Program) (w : World)
def ObjOk (H : Hp) (h : Heap) (a : Addr) : HO → Prop
  | .lst xs => xs.length ≤ sizeLine ∧ ∃ (its : List Value) (n : Nat), Vals xs its ∧ h.get? a = some { cls := .type "list", data := .seq its.toArray n }
  | .tup xs => xs.length ≤ sizeLine ∧ ∃ its : List Value, Vals xs its ∧ IsTup h a its.toArray
  | .dK kvs => kvs.length ≤ sizeLine ∧ (a == sysModules) = false ∧ ∃ vs, KV kvs vs ∧ h.DictOf (mixKind P w) a vs
  | .dT kvs => kvs.length ≤ sizeLine ∧ (a == sysModules) = false ∧ ∃ xs : List (List Key × Addr × Value),
      Paired (fun (p : List Key × V) (q : List Key × Addr × Value) => p.1 = q.1 ∧ H q.2.1 = some (.tup (p.1.map kV)) ∧ RelV p.2 q.2.2) kvs xs ∧
      ∃ o es ep, h.get? a = some o ∧ o.ExactDict ∧ o.data = .dict es ep ∧ es.toList = xs.map (entryOfKey (tupleKind (mixKind P w))) ∧ (xs.map (·.1)).Nodup
  | .set S n => h.SetOf (intKind P w) a S n
  | .ins C dx fs => H dx = some (.own a) ∧ fs.length ≤ 1000 ∧ dx ≠ a ∧ h.get? a = some (PySem.W.instObj C dx) ∧
      ∃ mA, h.Ns1 dx mA ∧ (∀ f, RelO (fs.lookup f) (mA f)) ∧ PySem.Within mA (fs.map (·.1))
  | .own _ => ∃ o, h.get? a = some o
  | .xd fs => ∃ mA, h.Ns1 a mA ∧ ∀ f, RelO (fs.lookup f) (mA f)
  | .rng lo hi => ∃ t u v, h.get? a = some { cls := .type "range", data := .fields #[.int lo t, .int hi u, .int 1 v] }
  | .frz o u => h.get? a = some o ∧ ObjOk H h a u
  | .tbl ps => h.get? a = some { cls := .none, data := .fields ps }
  | .met f x => h.get? a = some (PySem.W.methodObj (.ref f) (.ref x))
  | .ext φ => φ h ∧ (∃ o, h.get? a = some o) ∧ ∀ h1 h2 : Heap, φ h1 → (∀ o, h1.get? a = some o → h2.get? a = some o) → φ h2
/-- the abstract heap is held -/
def HOk (H : Hp) (h : Heap) : Prop := ∀ a o, H a = some o → ObjOk P w H h a o
end

section
variable {P : Program} {w : World} {H H' : Hp} {h h' : Heap} {a : Addr} {o : HO}
theorem ObjOk.lt (x : ObjOk P w H h a o) : a < h.objs.size := by
  cases o with
  | lst xs => obtain ⟨_, _, _, _, e⟩ := x; exact Heap.lt_size e
  | tup xs => obtain ⟨_, _, _, p⟩ := x; exact p.lt
  | dK kvs => obtain ⟨_, _, _, _, o, _, _, e, _⟩ := x; exact Heap.lt_size e
  | dT kvs => obtain ⟨_, _, _, _, o, _, _, e, _⟩ := x; exact Heap.lt_size e
  | set S n => obtain ⟨o, _, _, _, e, _⟩ := x; exact Heap.lt_size e
  | ins C dx fs => obtain ⟨_, _, _, e, _⟩ := x; exact Heap.lt_size e
  | own y => obtain ⟨_, e⟩ := x; exact Heap.lt_size e
  | xd fs => obtain ⟨_, ⟨_, _, _, e, _⟩, _⟩ := x; exact Heap.lt_size e
  | rng lo hi => obtain ⟨_, _, _, e⟩ := x; exact Heap.lt_size e
  | frz ob u => obtain ⟨e, _⟩ := x; exact Heap.lt_size e
  | tbl ps => exact Heap.lt_size (show h.get? a = some _ from x)
  | met f y => exact Heap.lt_size (show h.get? a = some _ from x)
  | ext φ => obtain ⟨_, ⟨_, e⟩, _⟩ := x; exact Heap.lt_size e
theorem Paired.mapP {α β : Type} {F G : α → β → Prop} : ∀ {l₁ : List α} {l₂ : List β}, Paired F l₁ l₂ → (∀ a b, F a b → G a b) → Paired G l₁ l₂
  | _, _, .nil, _ => .nil
  | _, _, .cons r t, f => .cons (f _ _ r) (Paired.mapP t f)
/-- what an object's description leans on: its own object, its own dict, the tuples -/
theorem ObjOk.stay (x : ObjOk P w H h a o) (k : ∀ b u, (b = a ∨ H b = some (.own a)) → h.get? b = some u → h'.get? b = some u)
    (ho : ∀ b, H b = some (.own a) → H' b = some (.own a)) (ht : ∀ b xs, H b = some (.tup xs) → H' b = some (.tup xs)) : ObjOk P w H' h' a o := by
  induction o with
  | lst xs => obtain ⟨z, its, n, r, e⟩ := x; exact ⟨z, its, n, r, k _ _ (.inl rfl) e⟩
  | tup xs => obtain ⟨z, its, r, ob, e, c⟩ := x; exact ⟨z, its, r, ob, k _ _ (.inl rfl) e, c⟩
  | dK kvs => obtain ⟨z, y, vs, r, ob, es, ep, e, c⟩ := x; exact ⟨z, y, vs, r, ob, es, ep, k _ _ (.inl rfl) e, c⟩
  | dT kvs =>
    obtain ⟨z, y, xs, r, ob, es, ep, e, c⟩ := x
    exact ⟨z, y, xs, Paired.mapP r fun p q z => ⟨z.1, ht _ _ z.2.1, z.2.2⟩, ob, es, ep, k _ _ (.inl rfl) e, c⟩
  | set S n => obtain ⟨ob, es, ep, t, e, c⟩ := x; exact ⟨ob, es, ep, t, k _ _ (.inl rfl) e, c⟩
  | ins C dx fs =>
    obtain ⟨d, z, ne, e, mA, ⟨od, es, ep, e2, c⟩, r⟩ := x
    exact ⟨ho _ d, z, ne, k _ _ (.inl rfl) e, mA, ⟨od, es, ep, k _ _ (.inr d) e2, c⟩, r⟩
  | own y => obtain ⟨ob, e⟩ := x; exact ⟨ob, k _ _ (.inl rfl) e⟩
  | xd fs => obtain ⟨mA, ⟨od, es, ep, e, c⟩, r⟩ := x; exact ⟨mA, ⟨od, es, ep, k _ _ (.inl rfl) e, c⟩, r⟩
  | rng lo hi => obtain ⟨t, u, v, e⟩ := x; exact ⟨t, u, v, k _ _ (.inl rfl) e⟩
  | frz ob u ih => obtain ⟨e, q⟩ := x; exact ⟨k _ _ (.inl rfl) e, ih q⟩
  | tbl ps =>
    have e : h.get? a = some { cls := .none, data := .fields ps } := x
    show h'.get? a = some { cls := .none, data := .fields ps }
    exact k a _ (.inl rfl) e
  | met f y =>
    have e : h.get? a = some (PySem.W.methodObj (.ref f) (.ref y)) := x
    show h'.get? a = some (PySem.W.methodObj (.ref f) (.ref y))
    exact k a _ (.inl rfl) e
  | ext φ => obtain ⟨p, ⟨o, e⟩, st⟩ := x; exact ⟨st _ _ p fun o q => k _ _ (.inl rfl) q, ⟨o, k _ _ (.inl rfl) e⟩, st⟩
theorem HOk.lt (x : HOk P w H h) (e : H a = some o) : a < h.objs.size := (x a o e).lt
theorem HOk.fresh (x : HOk P w H h) (e : h.objs.size ≤ a) : H a = none := by
  cases q : H a with
  | none => rfl
  | some u => exact absurd (Nat.lt_of_lt_of_le (x.lt q) e) (Nat.lt_irrefl _)
/-- every object of the heap is kept -/
theorem HOk.kept (x : HOk P w H h) (k : ∀ b u, h.get? b = some u → h'.get? b = some u) : HOk P w H h' := fun a o e =>
  (x a o e).stay (fun b u _ q => k b u q) (fun _ q => q) fun _ _ q => q
/-- a new object is laid and tracked -/
theorem HOk.laid (x : HOk P w H h) (k : ∀ b u, h.get? b = some u → h'.get? b = some u) (hp : h.objs.size ≤ a) (new : ObjOk P w (upd H a o) h' a o) : HOk P w (upd H a o) h' := fun b u e => by
  have hn := x.fresh hp
  by_cases hb : b = a
  · subst hb; rw [upd_same] at e; cases e; exact new
  · rw [upd_ne hb] at e
    exact (x b u e).stay (fun c v _ q => k c v q) (fun c q => by rw [upd_ne (ne_of_none q hn)]; exact q) fun c xs q => by rw [upd_ne (ne_of_none q hn)]; exact q
end

/-- what may be read as u: it is u, or a known u -/
def Rd (H : Hp) (a : Addr) (u : HO) : Prop := H a = some u ∨ ∃ o, H a = some (.frz o u)
theorem Rd.of {H : Hp} {a : Addr} {u : HO} (h : H a = some u) : Rd H a u := .inl h
theorem Rd.ok {P : Program} {w : World} {H : Hp} {h : Heap} {a : Addr} {u : HO} (r : Rd H a u) (x : HOk P w H h) : ObjOk P w H h a u := by
  rcases r with r | ⟨o, r⟩
  · exact x a u r
  · obtain ⟨_, q⟩ := x a _ r
    exact q
/-- what may be written -/
def Mut : Option HO → Prop
  | some (.lst _) => True
  | some (.dK _) => True
  | some (.dT _) => True
  | some (.set _ _) => True
  | some (.ins _ _ _) => True
  | some (.ext _) => True
  | _ => False
section
variable {P : Program} {w : World} {H : Hp} {h h' : Heap} {x e : Addr} {o' : HO}
/-- the object at e is changed: x itself, or the dict of the instance x -/
theorem HOk.write (ok : HOk P w H h) (mu : Mut (H x)) (he : e = x ∨ H e = some (.own x)) (k : ∀ b u, b ≠ e → h.get? b = some u → h'.get? b = some u) (heo : ∃ u, h'.get? e = some u)
    (new : ObjOk P w (upd H x o') h' x o') : HOk P w (upd H x o') h' := fun b u q => by
  have nown : ∀ c y, H c = some (.own y) → c ≠ x := fun c y r z => by subst z; rw [r] at mu; exact mu
  have ntup : ∀ c xs, H c = some (.tup xs) → c ≠ x := fun c xs r z => by subst z; rw [r] at mu; exact mu
  by_cases hb : b = x
  · subst hb; rw [upd_same] at q; cases q; exact new
  · rw [upd_ne hb] at q
    by_cases hbe : b = e
    · have q' : H b = some (.own x) := by
        rcases he with z | z
        · exact absurd (hbe.trans z) hb
        · rw [hbe]; exact z
      rw [q] at q'; cases q'
      obtain ⟨v, hv⟩ := heo
      exact ⟨v, by rw [hbe]; exact hv⟩
    · refine (ok b u q).stay (fun c v hc r => k c v ?_ r) (fun c r => by rw [upd_ne (nown c b r)]; exact r) fun c xs r => by rw [upd_ne (ntup c xs r)]; exact r
      rcases hc with rfl | hc
      · exact hbe
      · rintro rfl
        rcases he with z | z
        · exact nown c b hc z
        · rw [hc] at z; cases z; exact hb rfl
end

/-! ### kept unless tracked; of the frames at fs (the callers') the slots may change (an exception that passes writes there); of the records at ex (iterators) nothing is said -/
structure Un (fs ex : List Addr) (H H' : Hp) (h h' : Heap) : Prop where
  keep : ∀ b o, h.get? b = some o → H b = none → b ∉ fs → b ∉ ex → h'.get? b = some o
  slot : ∀ b o, h.get? b = some o → H b = none → b ∈ fs → b ∉ ex → ∃ sl, h'.get? b = some { o with slots := sl }
  free : ∀ b o, h.get? b = some o → H b = none → b ∉ ex → H' b = none
  there : ∀ b o, h.get? b = some o → b ∉ ex → ∃ o', h'.get? b = some o'
  tups : ∀ b xs, H b = some (.tup xs) → H' b = some (.tup xs)
  frzs : ∀ b o u, H b = some (.frz o u) → H' b = some (.frz o u)
  tbls : ∀ b ps, H b = some (.tbl ps) → ∃ more, H' b = some (.tbl (ps ++ more))
section
variable {fs fs' ex ex' : List Addr} {H H1 H2 : Hp} {h h1 h2 h' : Heap} {a x e : Addr} {o : HO}
theorem Un.any (u : Un fs ex H H1 h h1) {b : Addr} {ob : Obj} (q : h.get? b = some ob) (n : H b = none) (hx : b ∉ ex) : ∃ sl, h1.get? b = some { ob with slots := sl } := by
  by_cases hb : b ∈ fs
  · exact u.slot b ob q n hb hx
  · exact ⟨ob.slots, u.keep b ob q n hb hx⟩
theorem Un.trans (a : Un fs ex H H1 h h1) (b : Un fs ex H1 H2 h1 h2) : Un fs ex H H2 h h2 where
  keep := fun c ob q n hc hx => b.keep c ob (a.keep c ob q n hc hx) (a.free c ob q n hx) hc hx
  slot := fun c ob q n hc hx => by
    obtain ⟨sl, e1⟩ := a.slot c ob q n hc hx
    obtain ⟨sl', e2⟩ := b.slot c _ e1 (a.free c ob q n hx) hc hx
    exact ⟨sl', e2⟩
  free := fun c ob q n hx => by
    obtain ⟨o', e1⟩ := a.there c ob q hx
    exact b.free c o' e1 (a.free c ob q n hx) hx
  there := fun c ob q hx => by
    obtain ⟨o', e1⟩ := a.there c ob q hx
    exact b.there c o' e1 hx
  tups := fun c xs q => b.tups c xs (a.tups c xs q)
  frzs := fun c ob xs q => b.frzs c ob xs (a.frzs c ob xs q)
  tbls := fun c ps q => by
    obtain ⟨m1, e1⟩ := a.tbls c ps q
    obtain ⟨m2, e2⟩ := b.tbls c _ e1
    exact ⟨m1 ++ m2, by rw [e2, Array.append_assoc]⟩
theorem Un.kept (k : ∀ b u, h.get? b = some u → h'.get? b = some u) : Un fs ex H H h h' :=
  ⟨fun b ob q _ _ _ => k b ob q, fun b ob q _ _ _ => ⟨ob.slots, k b ob q⟩, fun _ _ _ n _ => n, fun b ob q _ => ⟨ob, k b ob q⟩, fun _ _ q => q, fun _ _ _ q => q, fun _ ps q => ⟨#[], by rw [q]; simp⟩⟩
theorem Un.refl : Un fs ex H H h h := Un.kept fun _ _ q => q
theorem Un.laid (k : ∀ b u, h.get? b = some u → h'.get? b = some u) (hp : h.objs.size ≤ a) (hn : H a = none) : Un fs ex H (upd H a o) h h' where
  keep := fun b u q _ _ _ => k b u q
  slot := fun b u q _ _ _ => ⟨u.slots, k b u q⟩
  free := fun b u q n _ => by rw [upd_ne (Nat.ne_of_lt (Nat.lt_of_lt_of_le (Heap.lt_size q) hp))]; exact n
  there := fun b u q _ => ⟨u, k b u q⟩
  tups := fun b xs q => by rw [upd_ne (ne_of_none q hn)]; exact q
  frzs := fun b u xs q => by rw [upd_ne (ne_of_none q hn)]; exact q
  tbls := fun b ps q => ⟨#[], by rw [upd_ne (ne_of_none q hn), q]; simp⟩
theorem Un.write (mu : Mut (H x)) (he : e = x ∨ H e = some (.own x)) (k : ∀ b u, b ≠ e → h.get? b = some u → h'.get? b = some u) (heo : ∃ u, h'.get? e = some u) : Un fs ex H (upd H x o) h h' := by
  have hx : ∀ b, H b = none → b ≠ x := fun b n z => by subst z; rw [n] at mu; exact mu
  have hb : ∀ b, H b = none → b ≠ e := fun b n z => by
    subst z
    rcases he with r | r
    · exact hx b n r
    · rw [n] at r; cases r
  have hm : ∀ b u, H b = some u → ¬ Mut (some u) → b ≠ x := fun b u q nm z => by subst z; rw [q] at mu; exact nm mu
  refine ⟨fun b u q n _ _ => k b u (hb b n) q, fun b u q n _ _ => ⟨u.slots, k b u (hb b n) q⟩, fun b u q n _ => by rw [upd_ne (hx b n)]; exact n, fun b u q _ => ?_,
    fun b xs q => by rw [upd_ne (hm b _ q fun z => z)]; exact q, fun b u xs q => by rw [upd_ne (hm b _ q fun z => z)]; exact q, fun b ps q => ⟨#[], by rw [upd_ne (hm b _ q fun z => z), q]; simp⟩⟩
  by_cases hbe : b = e
  · subst hbe; exact heo
  · exact ⟨u, k b u hbe q⟩
theorem Un.mono (u : Un fs ex H H1 h h1) (hs : ∀ b ∈ fs, b ∈ fs') (hx : ∀ b ∈ ex, b ∈ ex') : Un fs' ex' H H1 h h1 :=
  ⟨fun b ob q n hb he => u.keep b ob q n (fun z => hb (hs b z)) fun z => he (hx b z), fun _ _ q n _ he => u.any q n fun z => he (hx _ z), fun b ob q n he => u.free b ob q n fun z => he (hx b z), fun b ob q he => u.there b ob q fun z => he (hx b z), u.tups, u.frzs, u.tbls⟩
end

/-! ### the heap without what is tracked -/
def trk (h : Heap) (H : Hp) : List Addr := (List.range h.objs.size).filter fun a => (H a).isSome
def hidT (h : Heap) (H : Hp) : Heap := PySem.W.hideAll h (trk h H)
theorem hidT_size (h : Heap) (H : Hp) : (hidT h H).objs.size = h.objs.size := PySem.W.hideAll_size _ _
theorem hidT_get {h : Heap} {H : Hp} {b : Addr} {o : Obj} (e : h.get? b = some o) (n : H b = none) : (hidT h H).get? b = some o :=
  PySem.W.hideAll_get _ e fun hm => by
    have q : (H b).isSome = true := (List.mem_filter.mp hm).2
    rw [n] at q; simp at q
theorem of_hidT {h : Heap} {H : Hp} {b : Addr} {o : Obj} (e : (hidT h H).get? b = some o) : h.get? b = some o ∧ H b = none := by
  have e' : h.get? b = some o := PySem.W.of_hideAll (trk h H) e
  refine ⟨e', ?_⟩
  cases q : H b with
  | none => rfl
  | some x =>
    have hm : b ∈ trk h H := List.mem_filter.mpr ⟨List.mem_range.mpr (Heap.lt_size e'), by simp [q]⟩
    have z : (hidT h H).get? b = none := PySem.W.hideAll_none (trk h H) hm
    rw [z] at e; cases e

/-! ### OpenK's ledger, filled with every new object but one -/
def allNews (g h : Heap) (L : Addr) : List (Addr × Obj) := (List.range h.objs.size).filterMap fun a => if a = L ∨ (g.get? a).isSome = true then none else (h.get? a).map fun o => (a, o)
def rest (g h : Heap) (L d : Addr) : List (Addr × Obj) := (allNews g h L).filter fun p => decide (p.1 ≠ d)
end L2

namespace L2
open PySem PySem.Spec PyProof.Rows

/-- the module's facts, over the base: the heap at the law's entry without what is tracked there -/
structure Mod (K : PySem.W.Frag) (mg : Str → Option Value) (base : Heap) : Prop where
  kin : K.In base
  glob : base.Ns mainGlobals mg
  blt : ∃ mb, base.Ns builtinsNs mb ∧ ∀ x : Str, x ≠ "__name__" → mb x = bootBuiltins x
  nolimit : base.NoLimit

/-- the context: a def's body (or a comprehension's block) running. base: fixed through the whole law; s₀, H₀: the entry; outer: the frames whose slots others may change (a def's callers); stack: all frames that run;
   ex: iterators that were made ahead of the entry and are walked here (a comprehension's); fn: the names whose cells were made at the entry (a def: all; a comprehension's block: its own); calm: not within an except suite; pn: pins that every state bears; xe: what is wanted of an exception that leaves the code -/
structure Cx where
  prog : Program
  w : World
  K : PySem.W.Frag
  mg : Str → Option Value
  base : Heap
  A : Around
  N : List Str
  s₀ : Shared
  H₀ : Hp
  env : Env
  outer : List Env
  stack : List Env
  ex : List Addr
  fn : Str → Bool
  calm : Bool
  pn : List (Addr × Obj)
  xe : Value → Shared → Prop
/-- the callers' frames -/
def frs (l : List Env) : List Addr := l.filterMap (·.frame)
abbrev Cx.fs (X : Cx) : List Addr := frs X.outer

def Vis (sc : Scope) (x : Str) : Prop := sc.names.lookup x = some .local ∨ sc.names.lookup x = some .cell ∨ sc.names.lookup x = some .free
def Loc (sc : Scope) (x : Str) : Prop := sc.names.lookup x = some .local ∨ sc.names.lookup x = some .cell
def Look (env : Env) (h : Heap) (m : Str → Option Value) (x : Str) (u : Value) : Prop :=
  (env.kindOf x = some .local ∧ m x = some u) ∨ ((env.kindOf x = some .cell ∨ env.kindOf x = some .free) ∧ ∃ c, env.cells.lookup x = some c ∧ h.IsCell c (some u))

structure Cx.Ok (X : Cx) : Prop where
  mod : Mod X.K X.mg X.base
  kind : X.env.scope.kind = .function
  glob : X.env.globals = mainGlobals
  blt : X.env.builtins = builtinsNs
  above : X.s₀.heap.objs.size ≤ X.env.locals
  inj : ∀ x y c, X.env.cells.lookup x = some c → X.env.cells.lookup y = some c → x = y
  has : ∀ x, (X.env.kindOf x = some .cell ∨ X.env.kindOf x = some .free) → ∃ c, X.env.cells.lookup x = some c
  cab : ∀ x c, X.fn x = true → X.env.cells.lookup x = some c → X.s₀.heap.objs.size ≤ c
  hd : X.calm = true → X.A.handled = none
  frames : X.A.frames = some X.stack
  stk : X.stack = X.outer ∨ (X.stack = X.env :: X.outer ∧ X.env.frame = some X.env.locals)
  exf : ∀ b ∈ X.ex, b ≠ X.env.locals ∧ ∀ x c, X.env.cells.lookup x = some c → c ≠ b
  bs : ∀ b o, X.base.get? b = some o → X.s₀.heap.get? b = some o ∧ X.H₀ b = none
  bsz : X.base.objs.size ≤ X.s₀.heap.objs.size
  noex : ∀ b o, X.base.get? b = some o → b ∉ X.ex
  exfs : ∀ b ∈ X.ex, b ∉ X.fs
  funs : X.s₀.heap.FunFrames X.base X.outer
  frf : ∀ b ∈ X.fs, X.H₀ b = none

structure Inv (X : Cx) (pins : List (Addr × Obj)) (σ : List (Option V)) (H : Hp) (s : Shared) : Prop where
  ok : X.Ok
  os : s.os = X.s₀.os
  bare : AllBare s.gens
  base : Un X.fs X.ex X.H₀ H X.s₀.heap s.heap
  loc : ∃ m, s.heap.Ns X.env.locals m ∧ ∀ (i : Nat) (x : Str) (v : V), X.N[i]? = some x → σ[i]? = some (some v) → Vis X.env.scope x → ∃ u, RelV v u ∧ Look X.env s.heap m x u
  cell : ∀ x c, X.env.cells.lookup x = some c → ∃ v, s.heap.IsCell c v
  free : H X.env.locals = none
  freeC : ∀ x c, X.env.cells.lookup x = some c → H c = none
  pin : ∀ p ∈ X.pn ++ pins, s.heap.get? p.1 = some p.2 ∧ H p.1 = none ∧ p.1 ≠ X.env.locals ∧ p.1 ∉ X.fs ∧ ∀ v, p.2.data ≠ .cell v
  hok : HOk X.prog X.w H s.heap
  len : σ.length = X.N.length

section
variable {X : Cx} {pins : List (Addr × Obj)} {σ : List (Option V)} {H H' : Hp} {s : Shared} {h' : Heap}

theorem Cx.Ok.nofr (ok : X.Ok) {b : Addr} {o : Obj} (e : X.base.get? b = some o) : b ∉ X.fs := fun hb => by
  have := (ok.funs.mem hb).1
  rw [e] at this; cases this
theorem Inv.bs (I : Inv X pins σ H s) : ∀ b o, X.base.get? b = some o → s.heap.get? b = some o ∧ H b = none := fun b o e =>
  ⟨I.base.keep b o (I.ok.bs b o e).1 (I.ok.bs b o e).2 (I.ok.nofr e) (I.ok.noex b o e), I.base.free b o (I.ok.bs b o e).1 (I.ok.bs b o e).2 (I.ok.noex b o e)⟩
theorem Inv.bk (I : Inv X pins σ H s) : ∀ b o, X.base.get? b = some o → s.heap.get? b = some o := fun b o e => (I.bs b o e).1
theorem Inv.mod (I : Inv X pins σ H s) : Mod X.K X.mg X.base := I.ok.mod
theorem Inv.kIn (I : Inv X pins σ H s) : X.K.In s.heap := I.ok.mod.kin.keeps I.bk
theorem Inv.nolimit (I : Inv X pins σ H s) : s.heap.NoLimit := I.ok.mod.nolimit.keeps I.bk
/-- the frame over the base: for OpenK's rules (K.In X.base is I.mod.kin) -/
theorem Inv.fr (I : Inv X pins σ H s) : ∃ m, Fr X.base X.env.locals s.heap m :=
  let ⟨m, hn, _⟩ := I.loc
  ⟨m, hn, I.bk, Nat.le_trans I.ok.bsz I.ok.above⟩
theorem Inv.lt (I : Inv X pins σ H s) : X.env.locals < s.heap.objs.size := let ⟨_, hn, _⟩ := I.loc; hn.lt
theorem Inv.sz (I : Inv X pins σ H s) : X.s₀.heap.objs.size ≤ s.heap.objs.size := Nat.le_trans I.ok.above (Nat.le_of_lt I.lt)
theorem Inv.nofs (I : Inv X pins σ H s) {a : Addr} (h : s.heap.objs.size ≤ a) : a ∉ X.fs := fun hb => by
  obtain ⟨_, o, ho, _⟩ := I.ok.funs.mem hb
  exact absurd (Nat.lt_of_lt_of_le (Heap.lt_size ho) (Nat.le_trans I.sz h)) (Nat.lt_irrefl _)
theorem Inv.cne (I : Inv X pins σ H s) : ∀ x c, X.env.cells.lookup x = some c → c ≠ X.env.locals := fun x c e z => by
  obtain ⟨v, o, ho, hd⟩ := I.cell x c e
  obtain ⟨m, ⟨o', es, ep, ho', hd', _⟩, _⟩ := I.loc
  rw [z, ho'] at ho; cases ho; rw [hd'] at hd; cases hd
theorem Inv.funs (I : Inv X pins σ H s) : s.heap.FunFrames X.base X.outer := by
  have all : ∀ (l : List Env), (∀ b ∈ frs l, b ∈ X.fs) → X.s₀.heap.FunFrames X.base l → s.heap.FunFrames X.base l := by
    intro l
    induction l with
    | nil => intro _ _; trivial
    | cons env r ih =>
      intro hs hl
      obtain ⟨hk, ⟨L, o, hf, hn, ho, hd⟩, hr⟩ := hl
      have hL : L ∈ X.fs := hs L (by unfold frs; rw [List.filterMap_cons, hf]; exact List.mem_cons_self)
      obtain ⟨sl, e⟩ := I.base.slot L o ho (I.ok.frf L hL) hL fun z => I.ok.exfs L z hL
      exact ⟨hk, ⟨L, _, hf, hn, e, hd⟩, ih (fun b hb => hs b (by unfold frs; rw [List.filterMap_cons, hf]; exact List.mem_cons_of_mem _ hb)) hr⟩
  exact all X.outer (fun _ hb => hb) I.ok.funs

/-- the frames that run, for a call -/
theorem Inv.stack (I : Inv X pins σ H s) : s.heap.FunFrames X.base X.stack := by
  rcases I.ok.stk with e | ⟨e, hf⟩
  · rw [e]; exact I.funs
  · rw [e]
    obtain ⟨m, hn, _⟩ := I.loc
    refine .cons (by rw [I.ok.kind]; decide) hf hn ?_ I.funs
    exact Heap.get?_none_of_le (Nat.le_trans I.ok.bsz I.ok.above)
theorem Inv.stkSub (I : Inv X pins σ H s) : ∀ b ∈ frs X.stack, b ∈ X.env.locals :: X.fs := fun b hb => by
  rcases I.ok.stk with e | ⟨e, hf⟩
  · rw [e] at hb; exact List.mem_cons_of_mem _ hb
  · rw [e] at hb
    unfold frs at hb
    rw [List.filterMap_cons, hf] at hb
    exact hb
theorem Inv.stkFree (I : Inv X pins σ H s) : ∀ b ∈ frs X.stack, H b = none := fun b hb => by
  rcases List.mem_cons.mp (I.stkSub b hb) with e | hb
  · rw [e]; exact I.free
  · obtain ⟨_, o, ho, _⟩ := I.ok.funs.mem hb
    exact I.base.free b o ho (I.ok.frf b hb) fun z => I.ok.exfs b z hb

/-- THE STEP: the untracked objects but the frame and the records at ch are kept (the callers' frames up to slots), the frame's map is kept, the new abstract heap is held -/
theorem Inv.step {g' : Array GenState} {t' : Nat} {d' : Drawn} {ch : List Addr} (I : Inv X pins σ H s)
    (hch : ∀ b ∈ ch, (b ∈ X.ex ∨ X.s₀.heap.objs.size ≤ b) ∧ b ≠ X.env.locals ∧ (∀ x c, X.env.cells.lookup x = some c → c ≠ b) ∧ ∀ p ∈ X.pn ++ pins, p.1 ≠ b)
    (keep : ∀ b o, b ≠ X.env.locals → b ∉ X.fs → b ∉ ch → s.heap.get? b = some o → H b = none → h'.get? b = some o)
    (slot : ∀ b o, b ≠ X.env.locals → b ∈ X.fs → b ∉ ch → s.heap.get? b = some o → H b = none → ∃ sl, h'.get? b = some { o with slots := sl }) (free : ∀ b o, b ∉ ch → s.heap.get? b = some o → H b = none → H' b = none)
    (there : ∀ b o, b ∉ ch → s.heap.get? b = some o → ∃ o', h'.get? b = some o')
    (tups : ∀ b xs, H b = some (.tup xs) → H' b = some (.tup xs)) (frzs : ∀ b o u, H b = some (.frz o u) → H' b = some (.frz o u)) (tbls : ∀ b ps, H b = some (.tbl ps) → ∃ more, H' b = some (.tbl (ps ++ more)))
    (ns : ∀ m, s.heap.Ns X.env.locals m → h'.Ns X.env.locals m) (hok : HOk X.prog X.w H' h') (hg : AllBare g') :
    Inv X pins σ H' { s with heap := h', gens := g', drawn := d', toks := t' } := by
  have neL : ∀ b o, X.s₀.heap.get? b = some o → b ≠ X.env.locals := fun b o e => Nat.ne_of_lt (Nat.lt_of_lt_of_le (Heap.lt_size e) I.ok.above)
  have neC : ∀ b o, X.s₀.heap.get? b = some o → b ∉ X.ex → b ∉ ch := fun b o e hx hb => by
    rcases (hch b hb).1 with z | z
    · exact hx z
    · exact absurd (Nat.lt_of_lt_of_le (Heap.lt_size e) z) (Nat.lt_irrefl _)
  have cellK : ∀ x c, X.env.cells.lookup x = some c → ∀ v, s.heap.IsCell c v → h'.IsCell c v := fun x c e v ⟨o, ho, hd⟩ => by
    have nch : c ∉ ch := fun z => (hch c z).2.2.1 x c e rfl
    by_cases hc : c ∈ X.fs
    · obtain ⟨sl, q⟩ := slot c o (I.cne x c e) hc nch ho (I.freeC x c e)
      exact ⟨_, q, hd⟩
    · exact ⟨o, keep c o (I.cne x c e) hc nch ho (I.freeC x c e), hd⟩
  refine ⟨I.ok, I.os, hg, ⟨fun b o e n hb hx => ?_, fun b o e n hb hx => ?_, fun b o e n hx => ?_, fun b o e hx => ?_, fun b xs e => tups b xs (I.base.tups b xs e), fun b o xs e => frzs b o xs (I.base.frzs b o xs e), fun b ps e => ?_⟩, ?_, fun x c e => ?_, ?_, fun x c e => ?_, fun p hp => ?_, hok, I.len⟩
  · exact keep b o (neL b o e) hb (neC b o e hx) (I.base.keep b o e n hb hx) (I.base.free b o e n hx)
  · obtain ⟨sl, e1⟩ := I.base.slot b o e n hb hx
    obtain ⟨sl', e2⟩ := slot b _ (neL b o e) hb (neC b o e hx) e1 (I.base.free b o e n hx)
    exact ⟨sl', e2⟩
  · obtain ⟨o', e1⟩ := I.base.there b o e hx
    exact free b o' (neC b o e hx) e1 (I.base.free b o e n hx)
  · obtain ⟨o', e1⟩ := I.base.there b o e hx
    exact there b o' (neC b o e hx) e1
  · obtain ⟨m1, e1⟩ := I.base.tbls b ps e
    obtain ⟨m2, e2⟩ := tbls b _ e1
    exact ⟨m1 ++ m2, by rw [e2, Array.append_assoc]⟩
  · obtain ⟨m, hn, hl⟩ := I.loc
    refine ⟨m, ns m hn, fun i x v e1 e2 e3 => ?_⟩
    obtain ⟨u, r, l⟩ := hl i x v e1 e2 e3
    refine ⟨u, r, ?_⟩
    rcases l with l | ⟨k, c, e, z⟩
    · exact .inl l
    · exact .inr ⟨k, c, e, cellK x c e _ z⟩
  · obtain ⟨v, z⟩ := I.cell x c e
    exact ⟨v, cellK x c e v z⟩
  · obtain ⟨m, ⟨o, _, _, ho, _⟩, _⟩ := I.loc
    exact free _ o (fun z => (hch _ z).2.1 rfl) ho I.free
  · obtain ⟨v, o, ho, hd⟩ := I.cell x c e
    exact free c o (fun z => (hch c z).2.2.1 x c e rfl) ho (I.freeC x c e)
  · obtain ⟨e, n, ne, nf, d⟩ := I.pin p hp
    have nch : p.1 ∉ ch := fun z => (hch p.1 z).2.2.2 p hp rfl
    exact ⟨keep p.1 p.2 ne nf nch e n, free p.1 p.2 nch e n, ne, nf, d⟩
/-- .. where the frame's own object is kept too -/
theorem Inv.un {t' : Nat} (I : Inv X pins σ H s) (u : Un X.fs [] H H' s.heap h') (hok : HOk X.prog X.w H' h') : Inv X pins σ H' { s with heap := h', toks := t' } := by
  obtain ⟨m, ⟨o, es, ep, ho, r⟩, _⟩ := id I.loc
  obtain ⟨sl, hL⟩ := u.any ho I.free (by simp)
  exact I.step (g' := s.gens) (d' := s.drawn) (ch := []) (fun _ z => nomatch z) (fun b o _ hb _ e n => u.keep b o e n hb (by simp)) (fun b o _ hb _ e n => u.slot b o e n hb (by simp)) (fun b o _ e n => u.free b o e n (by simp)) (fun b o _ e => u.there b o e (by simp)) u.tups u.frzs u.tbls (fun m' hm => by
    obtain ⟨o', es', ep', ho', r'⟩ := hm
    rw [ho] at ho'; cases ho'
    exact ⟨_, es', ep', hL, r'⟩) hok I.bare
/-- behind a call (or a comprehension's block): the slots of this frame may have changed too, the records at ch may have turned -/
theorem Inv.call {g' : Array GenState} {t' : Nat} {d' : Drawn} {ch : List Addr} (I : Inv X pins σ H s) (u : Un (frs X.stack) ch H H' s.heap h') (hok : HOk X.prog X.w H' h') (hg : AllBare g')
    (hch : ∀ b ∈ ch, (b ∈ X.ex ∨ X.s₀.heap.objs.size ≤ b) ∧ b ≠ X.env.locals ∧ (∀ x c, X.env.cells.lookup x = some c → c ≠ b) ∧ ∀ p ∈ X.pn ++ pins, p.1 ≠ b) :
    Inv X pins σ H' { s with heap := h', gens := g', drawn := d', toks := t' } := by
  obtain ⟨m, ⟨o, es, ep, ho, r⟩, _⟩ := id I.loc
  obtain ⟨sl, hL⟩ := u.any ho I.free fun z => (hch _ z).2.1 rfl
  exact I.step (ch := ch) hch (fun b o hL hb hc e n => u.keep b o e n (fun z => (List.mem_cons.mp (I.stkSub b z)).elim hL hb) hc) (fun b o _ _ hc e n => u.any e n hc) (fun b o hc e n => u.free b o e n hc) (fun b o hc e => u.there b o e hc) u.tups u.frzs u.tbls (fun m' hm => by
    obtain ⟨o', es', ep', ho', r'⟩ := hm
    rw [ho] at ho'; cases ho'
    exact ⟨_, es', ep', hL, r'⟩) hok hg
/-- an untracked record of ours (an iterator) has turned -/
theorem Inv.turned {t' : Nat} {it : Addr} (I : Inv X pins σ H s) (k : ∀ b o, b ≠ it → s.heap.get? b = some o → h'.get? b = some o) (hn : H it = none) (hL : it ≠ X.env.locals)
    (h1 : it ∈ X.ex ∨ X.s₀.heap.objs.size ≤ it) (h2 : ∀ x c, X.env.cells.lookup x = some c → c ≠ it) (h3 : ∀ p ∈ X.pn ++ pins, p.1 ≠ it) : Inv X pins σ H { s with heap := h', toks := t' } := by
  have nit : ∀ b u, H b = some u → b ≠ it := fun b u e z => by rw [z, hn] at e; cases e
  refine I.step (g' := s.gens) (d' := s.drawn) (ch := [it]) (fun b hb => ?_) (fun b o _ _ hc e _ => k b o (fun z => hc (by simp [z])) e) (fun b o _ _ hc e _ => ⟨o.slots, k b o (fun z => hc (by simp [z])) e⟩) (fun _ _ _ _ n => n)
    (fun b o hc e => ⟨o, k b o (fun z => hc (by simp [z])) e⟩) (fun _ _ e => e) (fun _ _ _ e => e) (fun b ps e => ⟨#[], by rw [e]; simp⟩) (fun m hm => ?_) (fun b u e => ?_) I.bare
  · have e : b = it := by simpa using hb
    subst e
    exact ⟨h1, hL, h2, h3⟩
  · obtain ⟨o, es, ep, ho, r⟩ := hm
    exact ⟨o, es, ep, k _ o (Ne.symm hL) ho, r⟩
  · refine (I.hok b u e).stay (fun c v hc q => k c v ?_ q) (fun _ q => q) fun _ _ q => q
    rcases hc with z | z
    · rw [z]; exact nit b u e
    · exact nit c _ z
theorem Inv.tok (I : Inv X pins σ H s) (t : Nat) : Inv X pins σ H { s with toks := t } := I.un (h' := s.heap) (t' := t) Un.refl I.hok
/-- all objects kept -/
theorem Inv.kept {t' : Nat} (I : Inv X pins σ H s) (k : ∀ b u, s.heap.get? b = some u → h'.get? b = some u) : Inv X pins σ H { s with heap := h', toks := t' } := I.un (Un.kept k) (I.hok.kept k)
/-- a new object laid and tracked -/
theorem Inv.laid {a : Addr} {o : HO} {t' : Nat} (I : Inv X pins σ H s) (k : ∀ b u, s.heap.get? b = some u → h'.get? b = some u) (hp : s.heap.objs.size ≤ a) (new : ObjOk X.prog X.w (upd H a o) h' a o) :
    Inv X pins σ (upd H a o) { s with heap := h', toks := t' } := I.un (Un.laid k hp (I.hok.fresh hp)) (I.hok.laid k hp new)
/-- an object written -/
theorem Inv.write {x e : Addr} {o : HO} {t' : Nat} (I : Inv X pins σ H s) (mu : Mut (H x)) (he : e = x ∨ H e = some (.own x)) (k : ∀ b u, b ≠ e → s.heap.get? b = some u → h'.get? b = some u) (heo : ∃ u, h'.get? e = some u)
    (new : ObjOk X.prog X.w (upd H x o) h' x o) : Inv X pins σ (upd H x o) { s with heap := h', toks := t' } := I.un (Un.write mu he k heo) (I.hok.write mu he k heo new)
theorem Inv.pins_of {pins' : List (Addr × Obj)} (I : Inv X pins σ H s) (h : ∀ p ∈ pins', s.heap.get? p.1 = some p.2 ∧ H p.1 = none ∧ p.1 ≠ X.env.locals ∧ p.1 ∉ X.fs ∧ ∀ v, p.2.data ≠ .cell v) : Inv X pins' σ H s :=
  ⟨I.ok, I.os, I.bare, I.base, I.loc, I.cell, I.free, I.freeC, fun p hp => (List.mem_append.mp hp).elim (fun z => I.pin p (List.mem_append_left _ z)) (h p), I.hok, I.len⟩

theorem nodup_ix {N : List Str} (hN : N.Nodup) {i j : Nat} {x : Str} (a : N[i]? = some x) (b : N[j]? = some x) : i = j := by
  obtain ⟨h1, e1⟩ := List.getElem?_eq_some_iff.mp a
  obtain ⟨h2, e2⟩ := List.getElem?_eq_some_iff.mp b
  exact (List.getElem_inj hN).mp (e1.trans e2.symm)

/-- a name is stored; what changed -/
theorem store_ok2 {M : Model} {A : Around} {E : Value → Shared → Prop} {i : Nat} {x : Str} {v : V} {u : Value} {Q : Unit → Shared → Prop} (I : Inv X pins σ H s) (hN : X.N.Nodup) (hi : X.N[i]? = some x) (hx : Loc X.env.scope x) (r : RelV v u)
    (h : ∀ s', Inv X pins (σ.set i (some v)) H s' → (∃ a, Heap.SameBut a s.heap s'.heap ∧ (a = X.env.locals ∨ X.env.cells.lookup x = some a)) → Q () s') (hf : X.fn x = true ∨ X.env.scope.names.lookup x = some .local := by first | exact .inl rfl | exact .inr rfl | assumption) : wpAny M A (storeName X.env x u) Q E s := by
  obtain ⟨m, hn, hl⟩ := id I.loc
  have hcls : (X.env.scope.kind == .class || (X.env.scope.kind == .module && X.env.locals != X.env.globals)) = false := by rw [I.ok.kind]; rfl
  have hiσ : i < σ.length := by rw [I.len]; exact (List.getElem?_eq_some_iff.mp hi).1
  have cne := I.cne
  have tracked : ∀ {a : Addr} {h' : Heap}, (∃ o, s.heap.get? a = some o ∧ H a = none) → Heap.SameBut a s.heap h' → HOk X.prog X.w H h' := fun {a h'} ha hs b ob e => by
    obtain ⟨_, _, hfree⟩ := ha
    refine (I.hok b ob e).stay (fun c w' hc q => (hs.2 c ?_).trans q) (fun _ q => q) fun _ _ q => q
    rintro rfl
    rcases hc with rfl | hc
    · rw [hfree] at e; cases e
    · rw [hfree] at hc; cases hc
  rcases hx with hk | hk
  · refine wpAny_storeName_local hk hn (fun h' hn' hs => ?_) hcls
    obtain ⟨oL, _, _, hoL, _⟩ := id hn
    refine h _ ⟨I.ok, I.os, I.bare, ⟨fun b o e n hb hx => ?_, fun b o e n hb hx => ?_, I.base.free, fun b o e hx => ?_, I.base.tups, I.base.frzs, I.base.tbls⟩, ⟨_, hn', fun j y v' e1 e2 e3 => ?_⟩, fun y c e => ?_, I.free, I.freeC, fun p hp => ?_, tracked ⟨oL, hoL, I.free⟩ hs, by simpa using I.len⟩ ⟨_, hs, .inl rfl⟩
    · exact (hs.2 b (Nat.ne_of_lt (Nat.lt_of_lt_of_le (Heap.lt_size e) I.ok.above))).trans (I.base.keep b o e n hb hx)
    · obtain ⟨sl, e1⟩ := I.base.slot b o e n hb hx
      exact ⟨sl, (hs.2 b (Nat.ne_of_lt (Nat.lt_of_lt_of_le (Heap.lt_size e) I.ok.above))).trans e1⟩
    · obtain ⟨o', e1⟩ := I.base.there b o e hx
      exact ⟨o', (hs.2 b (Nat.ne_of_lt (Nat.lt_of_lt_of_le (Heap.lt_size e) I.ok.above))).trans e1⟩
    · by_cases hj : j = i
      · subst hj
        rw [hi] at e1; cases e1
        rw [List.getElem?_set_self hiσ] at e2
        cases e2
        exact ⟨u, r, .inl ⟨hk, by simp⟩⟩
      · rw [List.getElem?_set_ne (Ne.symm hj)] at e2
        obtain ⟨u', r', q⟩ := hl j y v' e1 e2 e3
        refine ⟨u', r', ?_⟩
        rcases q with ⟨k, e⟩ | ⟨k, c, e, z⟩
        · refine .inl ⟨k, ?_⟩
          have : y ≠ x := fun e => hj (nodup_ix hN e1 (e ▸ hi))
          simp [this, e]
        · exact .inr ⟨k, c, e, z.sameBut hs (cne y c e)⟩
    · obtain ⟨w', z⟩ := I.cell y c e
      exact ⟨w', z.sameBut hs (cne y c e)⟩
    · obtain ⟨e, n, ne, nf, d⟩ := I.pin p hp
      exact ⟨(hs.2 p.1 ne).trans e, n, ne, nf, d⟩
  · have hfn : X.fn x = true := by
      rcases hf with z | z
      · exact z
      · rw [z] at hk; cases hk
    obtain ⟨c, hc⟩ := I.ok.has x (.inl hk)
    obtain ⟨w', z⟩ := I.cell x c hc
    refine wpAny_storeName_cell I.ok.kind hk hc z (fun h' hc' hs => ?_)
    obtain ⟨oc, hoc, hocd⟩ := id z
    refine h { s with heap := h' } ⟨I.ok, I.os, I.bare, ⟨fun b o e n hb hx => ?_, fun b o e n hb hx => ?_, I.base.free, fun b o e hx => ?_, I.base.tups, I.base.frzs, I.base.tbls⟩, ⟨m, hn.sameBut hs (Ne.symm (cne x c hc)), fun j y v' e1 e2 e3 => ?_⟩, fun y c' e => ?_, I.free, I.freeC, fun p hp => ?_, tracked ⟨oc, hoc, I.freeC x c hc⟩ hs, by simpa using I.len⟩ ⟨c, hs, .inr hc⟩
    · exact (hs.2 b (Nat.ne_of_lt (Nat.lt_of_lt_of_le (Heap.lt_size e) (I.ok.cab x c hfn hc)))).trans (I.base.keep b o e n hb hx)
    · obtain ⟨sl, e1⟩ := I.base.slot b o e n hb hx
      exact ⟨sl, (hs.2 b (Nat.ne_of_lt (Nat.lt_of_lt_of_le (Heap.lt_size e) (I.ok.cab x c hfn hc)))).trans e1⟩
    · obtain ⟨o', e1⟩ := I.base.there b o e hx
      exact ⟨o', (hs.2 b (Nat.ne_of_lt (Nat.lt_of_lt_of_le (Heap.lt_size e) (I.ok.cab x c hfn hc)))).trans e1⟩
    · by_cases hj : j = i
      · subst hj
        rw [hi] at e1; cases e1
        rw [List.getElem?_set_self hiσ] at e2
        cases e2
        exact ⟨u, r, .inr ⟨.inl hk, c, hc, hc'⟩⟩
      · rw [List.getElem?_set_ne (Ne.symm hj)] at e2
        obtain ⟨u', r', q⟩ := hl j y v' e1 e2 e3
        refine ⟨u', r', ?_⟩
        rcases q with q | ⟨k, c', e, z'⟩
        · exact .inl q
        · refine .inr ⟨k, c', e, z'.sameBut hs ?_⟩
          rintro rfl
          exact hj (nodup_ix hN e1 (I.ok.inj _ _ _ e hc ▸ hi))
    · by_cases hcc : c' = c
      · subst hcc; exact ⟨_, hc'⟩
      · obtain ⟨w2, z2⟩ := I.cell y c' e
        exact ⟨w2, z2.sameBut hs hcc⟩
    · obtain ⟨e, n, ne, nf, d⟩ := I.pin p hp
      refine ⟨(hs.2 p.1 ?_).trans e, n, ne, nf, d⟩
      intro q
      rw [q, hoc] at e
      have q' : oc = p.2 := Option.some.inj e
      exact d w' (by rw [← q']; exact hocd)
theorem store_ok {M : Model} {A : Around} {E : Value → Shared → Prop} {i : Nat} {x : Str} {v : V} {u : Value} {Q : Unit → Shared → Prop} (I : Inv X pins σ H s) (hN : X.N.Nodup) (hi : X.N[i]? = some x) (hx : Loc X.env.scope x) (r : RelV v u)
    (h : ∀ s', Inv X pins (σ.set i (some v)) H s' → Q () s') (hf : X.fn x = true ∨ X.env.scope.names.lookup x = some .local := by first | exact .inl rfl | exact .inr rfl | assumption) : wpAny M A (storeName X.env x u) Q E s :=
  store_ok2 I hN hi hx r (fun s' I' _ => h s' I') hf
end

/-! ### the judgements -/
/-- an exception: its class, its own dict's address (where it has one), the abstract heap behind it -/
abbrev XK := Value → Option Addr → Hp → Prop
abbrev St := List (Option V)
abbrev VK := V → Hp → Prop
/-- an expression's reading; a test's; an argument list's -/
abbrev TE := St → Hp → VK → Prop
abbrev TT := St → Hp → (Bool → Hp → Prop) → Prop
abbrev TA := St → Hp → (List V → Hp → Prop) → Prop
/-- what is wanted behind a statement -/
structure Ends where
  nx : St → Hp → Prop
  rt : VK
  bk : St → Hp → Prop := fun _ _ => False
  ct : St → Hp → Prop := fun _ _ => False
abbrev TS := Ends → St → Hp → Prop

def EP (X : Cx) (pins : List (Addr × Obj)) (σ : St) (Q : VK) (u : Value) (s' : Shared) : Prop := ∃ v H', Inv X pins σ H' s' ∧ RelV v u ∧ Q v H'
def TP (X : Cx) (pins : List (Addr × Obj)) (σ : St) (Q : Bool → Hp → Prop) (b : Bool) (s' : Shared) : Prop := ∃ H', Inv X pins σ H' s' ∧ Q b H'
def AP (X : Cx) (pins : List (Addr × Obj)) (σ : St) (Q : List V → Hp → Prop) (us : List Value) (s' : Shared) : Prop := ∃ vs H', Inv X pins σ H' s' ∧ Vals vs us ∧ Q vs H'
def SP (X : Cx) (pins : List (Addr × Obj)) (D : Ends) (f : Flow) (s' : Shared) : Prop :=
  match f with
  | .next => ∃ σ' H', Inv X pins σ' H' s' ∧ D.nx σ' H'
  | .brk => ∃ σ' H', Inv X pins σ' H' s' ∧ D.bk σ' H'
  | .cont => ∃ σ' H', Inv X pins σ' H' s' ∧ D.ct σ' H'
  | .ret u => ∃ v σ' H', Inv X pins σ' H' s' ∧ RelV v u ∧ D.rt v H'

def PE (X : Cx) (e : Expr) (t : TE) : Prop :=
  ∀ (pins : List (Addr × Obj)) (s : Shared) (σ : St) (H : Hp) (Q : VK), Inv X pins σ H s → t σ H Q → wpAny (model X.prog X.w) X.A (eval e X.env) (EP X pins σ Q) X.xe s
def PT (X : Cx) (e : Expr) (t : TT) : Prop :=
  ∀ (pins : List (Addr × Obj)) (s : Shared) (σ : St) (H : Hp) (Q : Bool → Hp → Prop), Inv X pins σ H s → t σ H Q → wpAny (model X.prog X.w) X.A (isTrue e X.env (eval e X.env)) (TP X pins σ Q) X.xe s
/-- a test whatever its 'whole' is (and, or) -/
def PW (X : Cx) (e : Expr) (t : TT) : Prop :=
  ∀ (whole : Sem Value) (pins : List (Addr × Obj)) (s : Shared) (σ : St) (H : Hp) (Q : Bool → Hp → Prop), Inv X pins σ H s → t σ H Q → wpAny (model X.prog X.w) X.A (isTrue e X.env whole) (TP X pins σ Q) X.xe s
theorem PW.pt {X : Cx} {e : Expr} {t : TT} (h : PW X e t) : PT X e t := h _
/-- an argument list (no star), from the left -/
def PA (X : Cx) (es : List Expr) (t : TA) : Prop :=
  ∀ (pos : Pos) (pins : List (Addr × Obj)) (s : Shared) (σ : St) (H : Hp) (Q : List V → Hp → Prop), Inv X pins σ H s → t σ H Q → wpAny (model X.prog X.w) X.A (spliced (backTo pos (starEach es X.env))) (AP X pins σ Q) X.xe s
def PS (X : Cx) (st : Stmt) (t : TS) : Prop :=
  ∀ (pins : List (Addr × Obj)) (s : Shared) (σ : St) (H : Hp) (D : Ends), Inv X pins σ H s → t D σ H → wpAny (model X.prog X.w) X.A (exec st X.env) (SP X pins D) X.xe s
def PSs (X : Cx) (st : List Stmt) (t : TS) : Prop :=
  ∀ (pins : List (Addr × Obj)) (s : Shared) (σ : St) (H : Hp) (D : Ends), Inv X pins σ H s → t D σ H → wpAny (model X.prog X.w) X.A (execs st X.env) (SP X pins D) X.xe s
/-- weaken the end -/
theorem thn {α : Type} {t : Sem α} {Q Q' : α → Shared → Prop} {M : Model} {A : Around} {E : Value → Shared → Prop} {s : Shared} (h : wpAny M A t Q E s) (hQ : ∀ a s, Q a s → Q' a s) : wpAny M A t Q' E s := wpAny_mono h hQ fun _ _ x => x
end L2

namespace L2
open PySem PySem.Spec PyProof.Rows
section
variable {X : Cx}

/-! ### names and constants -/
def tVar (i : Nat) : TE := fun σ H Q => ∃ v, σ[i]? = some (some v) ∧ Q v H
def tC (v : V) : TE := fun _ H Q => Q v H
theorem pe_var {i : Nat} {x : Str} {pos : Pos} (hN : X.N[i]? = some x) (hv : Vis X.env.scope x) (hd : (x == ("__debug__" : Str)) = false := by decide) (hcd : (x == ("__classdict__" : Str)) = false := by decide) : PE X (.Name x pos) (tVar i) := by
  intro pins s σ H Q I h
  obtain ⟨v, e, h⟩ := h
  obtain ⟨m, hn, hl⟩ := I.loc
  obtain ⟨u, r, l⟩ := hl i x v hN e hv
  have fin : EP X pins σ Q u s := ⟨v, H, I, r, h⟩
  rcases l with ⟨hk, hm⟩ | ⟨hk, c, hc, hcell⟩
  · exact wpAny_Name (wpAny_loadName_local I.ok.kind hk hn hm fin) hd
  · rcases hk with hk | hk
    · exact wpAny_Name (wpAny_loadName_cell I.ok.kind hk hc hcell fin) hd
    · exact wpAny_Name (wpAny_loadName_free I.ok.kind hk hc hcell fin hcd) hd
theorem pe_int {i j pos} : PE X (.Constant (.int i) j pos) (tC (.int i)) := fun _ _ _ H _ I h => wpAny_Constant_int ⟨.int i, H, I.tok _, ⟨_, rfl⟩, h⟩
theorem pe_bl {b j pos} : PE X (.Constant (.bool b) j pos) (tC (.bl b)) := fun _ _ _ H _ I h => Constant_bool ⟨.bl b, H, I, rfl, h⟩
theorem pe_non {j pos} : PE X (.Constant .none j pos) (tC .non) := fun _ _ _ H _ I h => Constant_none ⟨.non, H, I, rfl, h⟩
theorem pe_str {x j pos} : PE X (.Constant (.str x) j pos) (tC (.str x)) := fun _ _ _ H _ I h => Calls.Constant_str ⟨.str x, H, I.tok _, ⟨_, rfl⟩, h⟩

/-- a global name of the def -/
def Gl (X : Cx) (x : Str) : Prop := X.env.kindOf x = some .globalImplicit
theorem ld_glob {E : Value → Shared → Prop} {pins : List (Addr × Obj)} {s : Shared} {σ : St} {H : Hp} {x : Str} {u : Value} {pos : Pos} {Q : Value → Shared → Prop} (I : Inv X pins σ H s) (hg : Gl X x) (hm : X.mg x = some u) (h : Q u s)
    (hd : (x == ("__debug__" : Str)) = false := by decide) : wpAny (model X.prog X.w) X.A (eval (.Name x pos) X.env) Q E s :=
  Calls.Name_function_global I.ok.kind hg (Calls.loadGlobal_global (by rw [I.ok.glob]; exact I.mod.glob.keeps I.bk) hm h) hd
theorem ld_blt {E : Value → Shared → Prop} {pins : List (Addr × Obj)} {s : Shared} {σ : St} {H : Hp} {x : Str} {u : Value} {pos : Pos} {Q : Value → Shared → Prop} (I : Inv X pins σ H s) (hg : Gl X x) (hm : X.mg x = none) (hv : bootBuiltins x = some u) (h : Q u s)
    (hn : x ≠ "__name__" := by decide) (hd : (x == ("__debug__" : Str)) = false := by decide) : wpAny (model X.prog X.w) X.A (eval (.Name x pos) X.env) Q E s := by
  obtain ⟨mb, h1, h2⟩ := I.mod.blt
  exact Calls.Name_function_global I.ok.kind hg (Calls.loadGlobal_builtin (by rw [I.ok.glob]; exact I.mod.glob.keeps I.bk) hm (by rw [I.ok.blt]; exact h1.keeps I.bk) ((h2 x hn).trans hv) h) hd
/-- a module's constant, a class, a function, as a value -/
theorem pe_glob {x : Str} {v : V} {u : Value} {pos : Pos} (hg : Gl X x) (hm : X.mg x = some u) (r : RelV v u) (hd : (x == ("__debug__" : Str)) = false := by decide) : PE X (.Name x pos) (tC v) :=
  fun _ _ _ H _ I h => ld_glob I hg hm ⟨v, H, I, r, h⟩ hd
theorem pe_bltn {x : Str} {v : V} {u : Value} {pos : Pos} (hg : Gl X x) (hm : X.mg x = none) (hv : bootBuiltins x = some u) (r : RelV v u) (hn : x ≠ "__name__" := by decide) (hd : (x == ("__debug__" : Str)) = false := by decide) : PE X (.Name x pos) (tC v) :=
  fun _ _ _ H _ I h => ld_blt I hg hm hv ⟨v, H, I, r, h⟩ hn hd

/-! ### arithmetic -/
/-- two ints -/
def t2I (ta tb : TE) (k : Int → Int → Hp → Prop) : St → Hp → Prop := fun σ H => ta σ H fun x H1 => tb σ H1 fun y H2 => ∃ i j, x = .int i ∧ y = .int j ∧ k i j H2
def tAdd (ta tb : TE) : TE := fun σ H Q => t2I ta tb (fun i j H2 => Q (.int (i + j)) H2) σ H
def tSub (ta tb : TE) : TE := fun σ H Q => t2I ta tb (fun i j H2 => Q (.int (i - j)) H2) σ H
/-- the left factor below 2^64 -/
def tMul (ta tb : TE) : TE := fun σ H Q => t2I ta tb (fun i j H2 => (-(2 ^ 64) < i ∧ i < 2 ^ 64) ∧ Q (.int (i * j)) H2) σ H
variable {a b : Expr} {ta tb : TE} {pos : Pos}
/-! ### comparisons -/
def PC (X : Cx) (op : CmpOp) (a b : Expr) (t : TE) : Prop :=
  ∀ (pins : List (Addr × Obj)) (s : Shared) (σ : St) (H : Hp) (Q : VK), Inv X pins σ H s → t σ H Q →
    wpAny (model X.prog X.w) X.A (eval a X.env) (fun v s₁ => wpAny (model X.prog X.w) X.A (eval b X.env) (fun u s₂ => wpAny (model X.prog X.w) X.A (compareOp op v u) (EP X pins σ Q) X.xe s₂) X.xe s₁) X.xe s
def tCmp (p : Int → Int → Bool) (ta tb : TE) : TE := fun σ H Q => t2I ta tb (fun i j H2 => Q (.bl (p i j)) H2) σ H
abbrev tLt : TE → TE → TE := tCmp fun i j => decide (i < j)
abbrev tLe : TE → TE → TE := tCmp fun i j => decide (i ≤ j)
abbrev tGt : TE → TE → TE := tCmp fun i j => decide (j < i)
abbrev tGe : TE → TE → TE := tCmp fun i j => decide (j ≤ i)
abbrev tEqI : TE → TE → TE := tCmp fun i j => decide (i = j)
abbrev tNeI : TE → TE → TE := tCmp fun i j => !decide (i = j)
/-- is None -/
def tIsN (ta : TE) : TE := fun σ H Q => ta σ H fun x H1 => Q (.bl (decide (x = .non))) H1
def tNotN (ta : TE) : TE := fun σ H Q => ta σ H fun x H1 => Q (.bl (!decide (x = .non))) H1
/-- a comparison as a value, as a test -/
def tB (t : TE) : TT := fun σ H Q => t σ H fun x H1 => ∃ c, x = .bl c ∧ Q c H1
/-- an expression whose value is a bool, as a test -/
theorem pt_val {e : Expr} {t : TE} (h : PE X e t) (he : ∀ whole, isTrue e X.env whole = (do let v ← whole; standAt e.pos; holding [v] (truthy v)) := by intro _; rfl) : PT X e (tB t) := by
  intro pins s σ H Q I hw
  refine isTrue_plain (thn (h pins s σ H _ I hw) fun v s1 ⟨x, H1, I1, r1, q1⟩ => ?_) (he _)
  obtain ⟨d, rfl, q⟩ := q1
  cases r1
  exact wpAny_truthy_bool ⟨H1, I1, q⟩

/-! ### and, or, not -/
variable {tA tB' : TT} {rest : List Expr}
def tAnd (t u : TT) : TT := fun σ H Q => t σ H fun c H1 => if c = true then u σ H1 Q else Q false H1
def tOr (t u : TT) : TT := fun σ H Q => t σ H fun c H1 => if c = true then Q true H1 else u σ H1 Q
def tNot (t : TT) : TT := fun σ H Q => t σ H fun c H1 => Q (!c) H1
theorem pw_and1 (ha : PT X a tA) : PW X (.BoolOp .And [a] pos) tA := by
  intro wh pins s σ H Q I h
  refine isTrue_and (thn (ha pins s σ H Q I h) fun c s1 e => ?_)
  cases c with
  | true => exact isTrue_and_nil e
  | false => exact e
theorem pw_or1 (ha : PT X a tA) : PW X (.BoolOp .Or [a] pos) tA := by
  intro wh pins s σ H Q I h
  refine isTrue_or (thn (ha pins s σ H Q I h) fun c s1 e => ?_)
  cases c with
  | false => exact isTrue_or_nil e
  | true => exact e
theorem pw_and (ha : PT X a tA) (hb : PW X (.BoolOp .And (b :: rest) pos) tB') : PW X (.BoolOp .And (a :: b :: rest) pos) (tAnd tA tB') := by
  intro wh pins s σ H Q I h
  refine isTrue_and (thn (ha pins s σ H _ I h) fun c s1 ⟨H1, I1, q1⟩ => ?_)
  cases c with
  | true => exact hb wh pins s1 σ H1 Q I1 q1
  | false => exact ⟨H1, I1, q1⟩
theorem pw_or (ha : PT X a tA) (hb : PW X (.BoolOp .Or (b :: rest) pos) tB') : PW X (.BoolOp .Or (a :: b :: rest) pos) (tOr tA tB') := by
  intro wh pins s σ H Q I h
  refine isTrue_or (thn (ha pins s σ H _ I h) fun c s1 ⟨H1, I1, q1⟩ => ?_)
  cases c with
  | true => exact ⟨H1, I1, q1⟩
  | false => exact hb wh pins s1 σ H1 Q I1 q1
theorem pt_not (ha : PT X a tA) : PT X (.UnaryOp .Not a pos) (tNot tA) := by
  intro pins s σ H Q I h
  exact isTrue_not (ha pins s σ H (fun c H1 => Q (!c) H1) I h)
/-- .. as values (bools) -/
def tAndV (ta tb : TE) : TE := fun σ H Q => ta σ H fun x H1 => ∃ c, x = .bl c ∧ if c = true then tb σ H1 Q else Q (.bl false) H1
def tOrV (ta tb : TE) : TE := fun σ H Q => ta σ H fun x H1 => ∃ c, x = .bl c ∧ if c = true then Q (.bl true) H1 else tb σ H1 Q
def tNotV (ta : TE) : TE := fun σ H Q => ta σ H fun x H1 => ∃ c, x = .bl c ∧ Q (.bl (!c)) H1
theorem pe_one {op} {t : TE} (h : PE X a t) : PE X (.BoolOp op [a] pos) t := fun pins s σ H Q I hw => BoolOp_one (h pins s σ H Q I hw)
theorem pe_and (ha : PE X a ta) (hb : PE X (.BoolOp .And (b :: rest) pos) tb) : PE X (.BoolOp .And (a :: b :: rest) pos) (tAndV ta tb) := by
  intro pins s σ H Q I h
  refine BoolOp_and (thn (ha pins s σ H _ I h) fun v s1 ⟨x, H1, I1, r1, q1⟩ => ?_)
  obtain ⟨c, rfl, q1⟩ := q1
  cases r1
  refine wpAny_truthy_bool ?_
  cases c with
  | true => exact hb pins s1 σ H1 Q I1 q1
  | false => exact ⟨.bl false, H1, I1, rfl, q1⟩
theorem pe_not (ha : PE X a ta) : PE X (.UnaryOp .Not a pos) (tNotV ta) := by
  intro pins s σ H Q I h
  refine UnaryOp_ (thn (ha pins s σ H _ I h) fun v s1 ⟨x, H1, I1, r1, q1⟩ => ?_)
  obtain ⟨c, rfl, q1⟩ := q1
  cases r1
  exact not_of (wpAny_truthy_bool ⟨.bl (!c), H1, I1, rfl, q1⟩)
/-- a if t else b -/
def tIf (t : TT) (ta tb : TE) : TE := fun σ H Q => t σ H fun c H1 => if c = true then ta σ H1 Q else tb σ H1 Q
theorem pe_ifExp {c : Expr} (hc : PT X c tA) (ha : PE X a ta) (hb : PE X b tb) : PE X (.IfExp c a b pos) (tIf tA ta tb) := by
  intro pins s σ H Q I h
  refine wpAny_IfExp (thn (hc pins s σ H _ I h) fun d s1 ⟨H1, I1, q1⟩ => ?_)
  cases d with
  | true => exact ha pins s1 σ H1 Q I1 q1
  | false => exact hb pins s1 σ H1 Q I1 q1
end
end L2

namespace L2
open PySem PySem.Spec PyProof.Rows

/-! ### a list, a tuple that is read: tracked, frozen, or an object of the module -/
def SqL (K : PySem.W.Frag) (H : Hp) (a : Addr) (xs : List V) : Prop :=
  Rd H a (.lst xs) ∨
    ∃ (o : Obj) (its : Array Value) (n : Nat), K.lookup a = some o ∧ o.cls = .type "list" ∧ o.dict = none ∧ o.data = .seq its n ∧ its.size ≤ sizeLine ∧ Vals xs its.toList
def SqT (K : PySem.W.Frag) (H : Hp) (a : Addr) (xs : List V) : Prop :=
  Rd H a (.tup xs) ∨
    ∃ (o : Obj) (its : Array Value) (n : Nat), K.lookup a = some o ∧ o.cls = .type "tuple" ∧ o.data = .seq its n ∧ its.size ≤ sizeLine ∧ Vals xs its.toList
def absV : Value → Option V
  | .none => some .non
  | .bool b => some (.bl b)
  | .int i _ => some (.int i)
  | .str x _ => some (.str x)
  | .bytes b _ => some (.byt b)
  | .float b _ => some (.flt b)
  | .ref a => some (.ref a)
  | .type n => some (.ty n)
  | _ => none
theorem RelV.abs {x : V} {u : Value} (r : RelV x u) : absV u = some x := by
  cases x with
  | non => cases r; rfl
  | bl _ => cases r; rfl
  | int _ => obtain ⟨t, rfl⟩ := r; rfl
  | str _ => obtain ⟨t, rfl⟩ := r; rfl
  | byt _ => obtain ⟨t, rfl⟩ := r; rfl
  | flt _ => obtain ⟨t, rfl⟩ := r; rfl
  | ref _ => cases r; rfl
  | ty _ => cases r; rfl
theorem RelV.inj {x y : V} {u : Value} (r : RelV x u) (q : RelV y u) : x = y := Option.some.inj (r.abs.symm.trans q.abs)
theorem Vals.inj : ∀ {xs ys : List V} {us : List Value}, Vals xs us → Vals ys us → xs = ys
  | _, _, _, .nil, .nil => rfl
  | _, _, _, .cons r t, .cons r' t' => by rw [r.inj r', Vals.inj t t']
section
variable {X : Cx} {pins : List (Addr × Obj)} {σ : St} {H : Hp} {s : Shared} {a : Addr} {xs ys : List V}
theorem SqL.of {K : PySem.W.Frag} (h : H a = some (.lst xs)) : SqL K H a xs := .inl (.inl h)
theorem SqT.of {K : PySem.W.Frag} (h : H a = some (.tup xs)) : SqT K H a xs := .inl (.inl h)
theorem Inv.list (I : Inv X pins σ H s) (h : SqL X.K H a xs) : ∃ its : List Value, Vals xs its ∧ PlainL s.heap a its.toArray ∧ xs.length ≤ sizeLine := by
  rcases h with h | ⟨o, its, n, hk, hc, hd, hs, hz, r⟩
  · obtain ⟨z, its, n, r, e⟩ := h.ok I.hok
    exact ⟨its, r, ⟨_, n, e, rfl, rfl, rfl⟩, z⟩
  · refine ⟨its.toList, r, ⟨o, n, I.kIn a o hk, hc, hd, by simpa using hs⟩, ?_⟩
    have e := r.length
    simp only [Array.length_toList] at e
    omega
theorem Inv.tuple (I : Inv X pins σ H s) (h : SqT X.K H a xs) : ∃ its : List Value, Vals xs its ∧ IsTup s.heap a its.toArray ∧ xs.length ≤ sizeLine := by
  rcases h with h | ⟨o, its, n, hk, hc, hs, hz, r⟩
  · obtain ⟨z, its, r, p⟩ := h.ok I.hok
    exact ⟨its, r, p, z⟩
  · refine ⟨its.toList, r, ⟨o, I.kIn a o hk, hc, n, by simpa using hs⟩, ?_⟩
    have e := r.length
    simp only [Array.length_toList] at e
    omega
theorem Inv.list_inj (I : Inv X pins σ H s) (h : SqL X.K H a xs) (h' : SqL X.K H a ys) : xs = ys := by
  obtain ⟨its, r, ⟨o, n, e, _, _, d⟩, _⟩ := I.list h
  obtain ⟨its', r', ⟨o', n', e', _, _, d'⟩, _⟩ := I.list h'
  rw [e] at e'; cases e'
  rw [d] at d'
  injection d' with d1 _
  have : its = its' := by simpa using congrArg Array.toList d1
  subst this
  exact r.inj r'
end

/-! ### another wish about exceptions -/
abbrev Cx.wish (X : Cx) (E : Value → Shared → Prop) : Cx := { X with xe := E }
/-- no exception leaves -/
abbrev Cx.nox (X : Cx) : Cx := X.wish fun _ _ => False
theorem Cx.Ok.wish {X : Cx} (ok : X.Ok) (E : Value → Shared → Prop) : (X.wish E).Ok :=
  ⟨ok.mod, ok.kind, ok.glob, ok.blt, ok.above, ok.inj, ok.has, ok.cab, ok.hd, ok.frames, ok.stk, ok.exf, ok.bs, ok.bsz, ok.noex, ok.exfs, ok.funs, ok.frf⟩
theorem Cx.Ok.unwish {X : Cx} {E : Value → Shared → Prop} (ok : (X.wish E).Ok) : X.Ok :=
  ⟨ok.mod, ok.kind, ok.glob, ok.blt, ok.above, ok.inj, ok.has, ok.cab, ok.hd, ok.frames, ok.stk, ok.exf, ok.bs, ok.bsz, ok.noex, ok.exfs, ok.funs, ok.frf⟩
section
variable {X : Cx} {pins : List (Addr × Obj)} {σ : St} {H : Hp} {s : Shared} {E : Value → Shared → Prop}
theorem Inv.wish (I : Inv X pins σ H s) (E : Value → Shared → Prop) : Inv (X.wish E) pins σ H s := ⟨I.ok.wish E, I.os, I.bare, I.base, I.loc, I.cell, I.free, I.freeC, I.pin, I.hok, I.len⟩
theorem Inv.unwish (I : Inv (X.wish E) pins σ H s) : Inv X pins σ H s := ⟨I.ok.unwish, I.os, I.bare, I.base, I.loc, I.cell, I.free, I.freeC, I.pin, I.hok, I.len⟩
theorem SP.unwish {D : Ends} {f : Flow} {s' : Shared} (h : SP (X.wish E) pins D f s') : SP X pins D f s' := by
  cases f with
  | next => obtain ⟨σ', H', I, q⟩ := h; exact ⟨σ', H', I.unwish, q⟩
  | brk => obtain ⟨σ', H', I, q⟩ := h; exact ⟨σ', H', I.unwish, q⟩
  | cont => obtain ⟨σ', H', I, q⟩ := h; exact ⟨σ', H', I.unwish, q⟩
  | ret u => obtain ⟨v, σ', H', I, r, q⟩ := h; exact ⟨v, σ', H', I.unwish, r, q⟩
theorem PE.nox {e : Expr} {t : TE} (h : PE X.nox e t) : PE X e t := fun pins s σ H Q I hw =>
  wpAny_mono (h pins s σ H Q (I.wish _) hw) (fun _ _ ⟨v, H', I', r, q⟩ => ⟨v, H', I'.unwish, r, q⟩) fun _ _ z => False.elim z
theorem PT.nox {e : Expr} {t : TT} (h : PT X.nox e t) : PT X e t := fun pins s σ H Q I hw =>
  wpAny_mono (h pins s σ H Q (I.wish _) hw) (fun _ _ ⟨H', I', q⟩ => ⟨H', I'.unwish, q⟩) fun _ _ z => False.elim z
theorem PSs.nox {st : List Stmt} {t : TS} (h : PSs X.nox st t) : PSs X st t := fun pins s σ H D I hw =>
  wpAny_mono (h pins s σ H D (I.wish _) hw) (fun _ _ q => q.unwish) fun _ _ z => False.elim z
end

/-! ### blocks and small statements -/
section
variable {X : Cx} {st : Stmt} {rest : List Stmt} {t u : TS} {e : Expr} {te : TE} {pos : Pos}
def tNext : TS := fun D σ H => D.nx σ H
def tSeq (t u : TS) : TS := fun D σ H => t { D with nx := u D } σ H
theorem pss_nil : PSs X [] tNext := fun _ _ σ H _ I h => wpAny_execs_nil ⟨σ, H, I, h⟩
theorem pss_cons (h1 : PS X st t) (h2 : PSs X rest u) : PSs X (st :: rest) (tSeq t u) := by
  intro pins s σ H D I h
  refine wpAny_execs_cons (thn (h1 pins s σ H { D with nx := u D } I h) fun f s1 q => ?_)
  cases f with
  | next =>
    obtain ⟨σ', H', I', q⟩ := q
    exact h2 pins s1 σ' H' D I' q
  | ret v => exact q
  | brk => exact q
  | cont => exact q
theorem pss_one (h1 : PS X st t) : PSs X [st] t := by
  intro pins s σ H D I h
  refine wpAny_execs_cons (thn (h1 pins s σ H D I h) fun f s1 q => ?_)
  cases f with
  | next => exact wpAny_execs_nil q
  | ret v => exact q
  | brk => exact q
  | cont => exact q
def tBreak : TS := fun D σ H => D.bk σ H
def tCont : TS := fun D σ H => D.ct σ H
/-- an expression whose value is dropped -/
def tDrop (te : TE) : TS := fun D σ H => te σ H fun _ H1 => D.nx σ H1
def tRet (te : TE) : TS := fun D σ H => te σ H D.rt
theorem ps_ret (he : PE X e te) : PS X (.Return (some e) pos) (tRet te) := by
  intro pins s σ H D I h
  exact wpAny_Return_some (thn (he pins s σ H _ I h) fun v s1 ⟨x, H1, I1, r1, q1⟩ => ⟨x, σ, H1, I1, r1, q1⟩)
def tRetN : TS := fun D _ H => D.rt .non H
def tIfS (c : TT) (t u : TS) : TS := fun D σ H => c σ H fun b H1 => if b = true then t D σ H1 else u D σ H1
theorem ps_if {c : Expr} {a b : List Stmt} {tc : TT} (hc : PT X c tc) (ha : PSs X a t) (hb : PSs X b u) : PS X (.If c a b pos) (tIfS tc t u) := by
  intro pins s σ H D I h
  refine wpAny_If (thn (hc pins s σ H _ I h) fun d s1 ⟨H1, I1, q1⟩ => ?_)
  cases d with
  | true => exact ha pins s1 σ H1 D I1 q1
  | false => exact hb pins s1 σ H1 D I1 q1
/-- code that the proof never comes to -/
def tNever : TS := fun _ _ _ => False
end

/-! ### targets -/
abbrev TG := V → St → Hp → (St → Hp → Prop) → Prop
abbrev TGs := List V → St → Hp → (St → Hp → Prop) → Prop
def PG (X : Cx) (target : Expr) (t : TG) : Prop :=
  ∀ (pins : List (Addr × Obj)) (s : Shared) (σ : St) (H : Hp) (v : V) (u : Value) (Q : St → Hp → Prop), Inv X pins σ H s → RelV v u → t v σ H Q →
    wpAny (model X.prog X.w) X.A (assign target X.env u) (fun _ s' => ∃ σ' H', Inv X pins σ' H' s' ∧ Q σ' H') X.xe s
/-- several targets, one after another -/
def PGs (X : Cx) (ts : List Expr) (t : TGs) : Prop :=
  ∀ (pins : List (Addr × Obj)) (s : Shared) (σ : St) (H : Hp) (vs : List V) (us : List Value) (Q : St → Hp → Prop), Inv X pins σ H s → Vals vs us → t vs σ H Q →
    wpAny (model X.prog X.w) X.A (assignInOrder ((assignEach ts X.env).map (·.2)) us) (fun _ s' => ∃ σ' H', Inv X pins σ' H' s' ∧ Q σ' H') X.xe s
/-- o[i] = v, by values -/
abbrev TSet := V → V → V → Hp → (Hp → Prop) → Prop
def PSet (X : Cx) (t : TSet) : Prop :=
  ∀ (pins : List (Addr × Obj)) (s : Shared) (σ : St) (H : Hp) (o i v : V) (ov iv u : Value) (Q : Hp → Prop), Inv X pins σ H s → RelV o ov → RelV i iv → RelV v u → t o i v H Q →
    wpAny (model X.prog X.w) X.A (setItem ov iv u) (fun _ s' => ∃ H', Inv X pins σ H' s' ∧ Q H') X.xe s
/-- a op= b, by values -/
abbrev TIp := V → V → Hp → VK → Prop
def PIp (X : Cx) (op : Operator) (t : TIp) : Prop :=
  ∀ (pins : List (Addr × Obj)) (s : Shared) (σ : St) (H : Hp) (x y : V) (v u : Value) (Q : VK), Inv X pins σ H s → RelV x v → RelV y u → t x y H Q →
    wpAny (model X.prog X.w) X.A (inplaceOp op v u) (EP X pins σ Q) X.xe s
section
variable {X : Cx} {pos : Pos}
def gName (i : Nat) : TG := fun v σ H Q => Q (σ.set i (some v)) H
theorem pg_name {i : Nat} {x : Str} (hN : X.N.Nodup) (hi : X.N[i]? = some x) (hx : Loc X.env.scope x) (hf : X.fn x = true ∨ X.env.scope.names.lookup x = some .local := by first | exact .inl rfl | exact .inr rfl | assumption) : PG X (.Name x pos) (gName i) := by
  intro pins s σ H v u Q I r h
  exact wpAny_assign_Name (store_ok I hN hi hx r (fun s' I' => ⟨_, H, I', h⟩) hf)
def gNil : TGs := fun vs σ H Q => vs = [] ∧ Q σ H
def gCons (t : TG) (u : TGs) : TGs := fun vs σ H Q => ∃ v r, vs = v :: r ∧ t v σ H fun σ' H' => u r σ' H' Q
/-- (a, b, ..) = a tuple of that length -/
def gTup (K : PySem.W.Frag) (n : Nat) (t : TGs) : TG := fun v σ H Q => ∃ a xs, v = .ref a ∧ SqT K H a xs ∧ xs.length = n ∧ t xs σ H Q
/-- o[i] = .. -/
def gSub (to ti : TE) (t : TSet) : TG := fun v σ H Q => to σ H fun o H1 => ti σ H1 fun i H2 => t o i v H2 fun H3 => Q σ H3
/-- target = value -/
def tAsg (te : TE) (g : TG) : TS := fun D σ H => te σ H fun x H1 => g x σ H1 D.nx
/-- name = value -/
theorem ps_set {i : Nat} {x : Str} {e : Expr} {te : TE} {pos' : Pos} (hN : X.N.Nodup) (hi : X.N[i]? = some x) (hx : Loc X.env.scope x) (he : PE X e te) (hs : swapsWith e (some (.Name x pos')) pos.line X.env = pure false := by rfl) (hf : X.fn x = true ∨ X.env.scope.names.lookup x = some .local := by first | exact .inl rfl | exact .inr rfl | assumption) :
    PS X (.Assign [.Name x pos'] e pos) (tAsg te (gName i)) := by
  intro pins s σ H D I h
  refine wpAny_Assign_Name (thn (he pins s σ H _ I h) fun v s1 ⟨y, H1, I1, r1, q1⟩ => ?_) hs
  exact store_ok I1 hN hi hx r1 (fun s2 I2 => ⟨_, H1, I2, q1⟩) hf
/-- a, b = x, y with plain local names: stored from the right; the pair itself is not tracked (the opening rows as in PyProof/Rows/TupAssign.lean:23) -/
def tPar (i j : Nat) (ta : TA) : TS := fun D σ H => ta σ H fun vs H1 => ∃ v w, vs = [v, w] ∧ D.nx ((σ.set i (some v)).set j (some w)) H1
/-- name op= e -/
def tAug (i : Nat) (te : TE) (ti : TIp) : TS := fun D σ H => ∃ x, σ[i]? = some (some x) ∧ te σ H fun y H1 => ti x y H1 fun z H2 => D.nx (σ.set i (some z)) H2
/-- o[i] op= e -/
def tAugS (to ti te : TE) (tget : V → V → Hp → VK → Prop) (tip : TIp) (tset : TSet) : TS := fun D σ H => to σ H fun o H1 => ti σ H1 fun i H2 => tget o i H2 fun x H3 => te σ H3 fun y H4 => tip x y H4 fun z H5 => tset o i z H5 fun H6 => D.nx σ H6
/-- o[i], by values -/
def PGet (X : Cx) (t : V → V → Hp → VK → Prop) : Prop :=
  ∀ (pins : List (Addr × Obj)) (s : Shared) (σ : St) (H : Hp) (o i : V) (ov iv : Value) (Q : VK), Inv X pins σ H s → RelV o ov → RelV i iv → t o i H Q →
    wpAny (model X.prog X.w) X.A (getItem ov iv) (EP X pins σ Q) X.xe s
/-- ints -/
def ipI (f : Int → Int → Int) : TIp := fun x y H Q => ∃ i j, x = .int i ∧ y = .int j ∧ Q (.int (f i j)) H
end

/-! ### while -/
section
variable {X : Cx} {pos : Pos}
/-- the invariant W with its measure -/
def tWhile (c : TT) (tb : TS) : TS := fun D σ H => ∃ W : Nat → St → Hp → Prop, (∃ m, W m σ H) ∧ ∀ m σ H, W m σ H →
  c σ H fun b H1 => if b = true then ∃ N : St → Hp → Prop, (∀ σ' H', N σ' H' → ∃ m', m' < m ∧ W m' σ' H') ∧ tb { D with nx := N, ct := N, bk := D.nx } σ H1 else D.nx σ H1
end

/-! ### what a loop or a comprehension walks -/
/-- at turn i: it yields x (the heap may grow), or it stops -/
structure It where
  go : Nat → Hp → Prop
  yld : Nat → Hp → V → Hp → Prop
  stop : Nat → Hp → Prop
/-- the iterator's own objects may turn: they are not the frame's, not pinned, younger than the entry (or a comprehension's own) -/
def FpOk (X : Cx) (pins : List (Addr × Obj)) (H : Hp) (b : Addr) : Prop :=
  H b = none ∧ b ≠ X.env.locals ∧ b ∉ X.fs ∧ (b ∈ X.ex ∨ X.s₀.heap.objs.size ≤ b) ∧ (∀ x c, X.env.cells.lookup x = some c → c ≠ b) ∧ ∀ p ∈ X.pn ++ pins, p.1 ≠ b
theorem Inv.fpOk {X : Cx} {pins : List (Addr × Obj)} {σ : St} {H H' : Hp} {s : Shared} {b : Addr} (I : Inv X pins σ H s) (hb : s.heap.objs.size ≤ b) (hn : H' b = none) : FpOk X pins H' b := by
  refine ⟨hn, Nat.ne_of_gt (Nat.lt_of_lt_of_le I.lt hb), I.nofs hb, .inr (Nat.le_trans I.sz hb), fun x c e z => ?_, fun p hp z => ?_⟩
  · obtain ⟨v, q⟩ := I.cell x c e
    exact absurd (Nat.lt_of_lt_of_le q.lt (by rw [z]; exact hb)) (Nat.lt_irrefl _)
  · exact absurd (Nat.lt_of_lt_of_le (Heap.lt_size (I.pin p hp).1) (by rw [z]; exact hb)) (Nat.lt_irrefl _)
structure Turn (P : Program) (w : World) (K : PySem.W.Frag) (tg : Expr) (J : It) (fp : List Addr) (it : Addr) (tn : Nat → Heap → Prop) : Prop where
  mem : it ∈ fp
  obj : ∀ i h, tn i h → ∀ b ∈ fp, ∃ o, h.get? b = some o ∧ ∀ v, o.data ≠ .cell v
  keep : ∀ i h h', tn i h → (∀ b ∈ fp, ∀ o, h.get? b = some o → h'.get? b = some o) → tn i h'
  item : ∀ (X : Cx), X.prog = P → X.w = w → X.K = K → X.calm = true → ∀ (i : Nat) (pins : List (Addr × Obj)) (s : Shared) (σ : St) (H : Hp) (E : Value → Shared → Prop), Inv X pins σ H s → (∀ b ∈ fp, FpOk X pins H b) → tn i s.heap → J.go i H →
    wpAny (model P w) X.A (pyNext (.ref it)) (fun r s1 => ∃ u, r = some u ∧
      wpAny (model P w) X.A (letOwnedTupleGo tg (.ref it) u) (fun _ s2 => ∃ x H', Inv X pins σ H' s2 ∧ RelV x u ∧ J.yld i H x H' ∧ tn (i + 1) s2.heap ∧ ∀ b ∈ fp, H' b = none) E s1) E s
  done : ∀ (X : Cx), X.prog = P → X.w = w → X.K = K → X.calm = true → ∀ (i : Nat) (pins : List (Addr × Obj)) (s : Shared) (σ : St) (H : Hp) (E : Value → Shared → Prop), Inv X pins σ H s → (∀ b ∈ fp, FpOk X pins H b) → tn i s.heap → J.stop i H →
    wpAny (model P w) X.A (pyNext (.ref it)) (fun r s1 => r = none ∧ Inv X pins σ H s1) E s
  self : ∀ (A : Around) (i : Nat) (s : Shared) (Q : Value → Shared → Prop) (E : Value → Shared → Prop), tn i s.heap → Q (.ref it) s → wpAny (model P w) A (pyIter (.ref it)) Q E s
abbrev TI := St → Hp → (It → Hp → Prop) → Prop
/-- an iterator has come -/
def PIE (X : Cx) (pins : List (Addr × Obj)) (σ : St) (tg : Expr) (R : It → Hp → Prop) (itv : Value) (s2 : Shared) : Prop :=
  ∃ (it : Addr) (fp : List Addr) (tn : Nat → Heap → Prop) (J : It) (H' : Hp), itv = .ref it ∧ Inv X pins σ H' s2 ∧ Turn X.prog X.w X.K tg J fp it tn ∧ tn 0 s2.heap ∧ (∀ b ∈ fp, FpOk X pins H' b) ∧ R J H'
def PI (X : Cx) (tg iter : Expr) (wi : TI) : Prop :=
  ∀ (pins : List (Addr × Obj)) (s : Shared) (σ : St) (H : Hp) (R : It → Hp → Prop), Inv X pins σ H s → wi σ H R →
    wpAny (model X.prog X.w) X.A (eval iter X.env) (fun v s1 => wpAny (model X.prog X.w) X.A (pyIter v) (PIE X pins σ tg R) X.xe s1) X.xe s

/-- the step ahead of the store is nothing for an iterator that keeps no tuple -/
theorem go_of {M : Model} {A : Around} {E : Value → Shared → Prop} {s : Shared} {tg : Expr} {it : Addr} {u : Value} {o : Obj} {n : String} {vs : Array Value} {Q : Unit → Shared → Prop} (ho : s.heap.get? it = some o) (hc : o.cls = .type n) (hd : o.data = .fields vs)
    (hn : ["enumerate", "zip", "dict_itemiterator", "dict_reverseitemiterator", "odict_iterator", "itertools.zip_longest", "itertools.pairwise"].contains n = false) (hQ : Q () s) : wpAny M A (letOwnedTupleGo tg (.ref it) u) Q E s := by
  unfold letOwnedTupleGo
  cases tg <;> first
    | exact wpAny_pure hQ
    | (cases u <;> first
        | exact wpAny_pure hQ
        | (refine wpAny_bind (wpAny_load ho ?_)
           rw [hc, hd]
           show wpAny M A (if (["enumerate", "zip", "dict_itemiterator", "dict_reverseitemiterator", "odict_iterator", "itertools.zip_longest", "itertools.pairwise"].contains n && vs[0]? == some (rawInt _)) = true then _ else _) Q E s
           rw [if_neg (by intro h; rw [hn, Bool.false_and] at h; cases h)]
           exact wpAny_pure hQ))

/-- the list at a, as it stands at each turn (a loop may append to it) -/
def Itl (K : PySem.W.Frag) (a : Addr) : It :=
  ⟨fun i H => ∃ xs x, SqL K H a xs ∧ xs[i]? = some x, fun i H x H' => H' = H ∧ ∀ xs, SqL K H a xs → xs[i]? = some x, fun i H => ∃ xs, SqL K H a xs ∧ xs.length ≤ i⟩
def Itt (K : PySem.W.Frag) (a : Addr) : It :=
  ⟨fun i H => ∃ xs x, SqT K H a xs ∧ xs[i]? = some x, fun i H x H' => H' = H ∧ ∀ xs, SqT K H a xs → xs[i]? = some x, fun i H => ∃ xs, SqT K H a xs ∧ xs.length ≤ i⟩
/-- lo, lo + 1, .. (n of them) -/
def Itr (lo : Int) (n : Nat) : It := ⟨fun i _ => i < n, fun i H x H' => H' = H ∧ x = .int (lo + i), fun i _ => n ≤ i⟩
theorem turn_list {P : Program} {w : World} {K : PySem.W.Frag} {tg : Expr} (a it : Addr) : Turn P w K tg (Itl K a) [it] it (fun i h => h.IsListIter it a i) where
  mem := by simp
  obj := fun i h st b hb => by
    have e : b = it := by simpa using hb
    subst e
    obtain ⟨o, e, c, d⟩ := st
    exact ⟨o, e, fun v z => by rw [d] at z; cases z⟩
  keep := fun i h h' st k => st.at fun o e => k it (by simp) o e
  item := by
    intro X hP hw hK hc i pins s σ H E I hf st hg
    subst hP hw hK
    obtain ⟨xs, x, hq, hx⟩ := hg
    obtain ⟨its, rv, p, hz⟩ := I.list hq
    obtain ⟨u, hu, ru⟩ := rv.get hx
    obtain ⟨f0, f1, f2, f3, f4, f5⟩ := hf it (by simp)
    refine wpAny_pyNext_list_item st p.isList (x := u) (by simpa using hu) fun h' st' sb => ?_
    have I1 : Inv X pins σ H { s with heap := h' } := I.turned (t' := s.toks) (fun b o hb e => (sb.2 b hb).trans e) f0 f1 f3 f4 f5
    obtain ⟨o, e, c, d⟩ := id st'
    exact ⟨u, rfl, go_of (s := { s with heap := h' }) e c d (by decide) ⟨x, H, I1, ru, ⟨rfl, fun ys hy => by rw [I.list_inj hy hq]; exact hx⟩, st', fun b hb => (hf b hb).1⟩⟩
  done := by
    intro X hP hw hK hc i pins s σ H E I hf st hg
    subst hP hw hK
    obtain ⟨xs, hq, hx⟩ := hg
    obtain ⟨its, rv, p, hz⟩ := I.list hq
    obtain ⟨f0, f1, f2, f3, f4, f5⟩ := hf it (by simp)
    have hl := rv.length
    exact wpAny_pyNext_list_end (I.ok.hd hc) st p.isList (by simp; omega) fun h' eb => ⟨rfl, I.turned (t' := s.toks) (fun b o hb e => eb b o hb e) f0 f1 f3 f4 f5⟩
  self := fun _ _ _ _ _ st h => wpAny_pyIter_listiter st h
theorem turn_range {P : Program} {w : World} {K : PySem.W.Frag} {tg : Expr} (it : Addr) (lo : Int) (n : Nat) : Turn P w K tg (Itr lo n) [it] it (fun i h => IsRangeIter h it (lo + (i : Nat) * 1) ((n : Int) - (i : Nat)) 1) where
  mem := by simp
  obj := fun i h st b hb => by
    have e : b = it := by simpa using hb
    subst e
    exact ⟨_, st, fun v z => by
      have z' : Data.fields _ = Data.cell v := z
      cases z'⟩
  keep := fun i h h' st k => k it (by simp) _ st
  item := by
    intro X hP hw hK hc i pins s σ H E I hf st hg
    subst hP hw hK
    obtain ⟨f0, f1, f2, f3, f4, f5⟩ := hf it (by simp)
    have W := Walks.range (prog := X.prog) (w := X.w) (I.ok.hd hc) it lo 1 n
    refine W.item i s _ _ hg st fun v h' tk hv st' kk => ?_
    obtain ⟨t, rfl⟩ := hv
    have I1 : Inv X pins σ H { s with heap := h', toks := tk } := I.turned (fun b o hb e => kk b o (by simpa using hb) e) f0 f1 f3 f4 f5
    refine ⟨_, rfl, go_of (s := { s with heap := h', toks := tk }) (n := "range_iterator") st' rfl rfl (by decide) ⟨.int (lo + i), H, I1, ⟨t, ?_⟩, ⟨rfl, rfl⟩, st', fun b hb => (hf b hb).1⟩⟩
    rw [Int.mul_one]
  done := by
    intro X hP hw hK hc i pins s σ H E I hf st hg
    subst hP hw hK
    obtain ⟨f0, f1, f2, f3, f4, f5⟩ := hf it (by simp)
    exact wpAny_pyNext_range_end (I.ok.hd hc) st (by have : n ≤ i := hg; omega) fun h' eb => ⟨rfl, I.turned (t' := s.toks) (fun b o hb e => eb b o hb e) f0 f1 f3 f4 f5⟩
  self := fun _ _ _ _ _ st h => wpAny_pyIter_rangeiter st h
end L2

namespace L2
open PySem PySem.Spec PyProof.Rows
section
variable {X : Cx} {tg : Expr}
def iList (K : PySem.W.Frag) (tl : TE) : TI := fun σ H R => tl σ H fun x H1 => ∃ a, x = .ref a ∧ (∃ xs, SqL K H1 a xs) ∧ R (Itl K a) H1
def iTup (K : PySem.W.Frag) (tl : TE) : TI := fun σ H R => tl σ H fun x H1 => ∃ a, x = .ref a ∧ (∃ xs, SqT K H1 a xs) ∧ R (Itt K a) H1
theorem pi_list {l : Expr} {tl : TE} (hl : PE X l tl) : PI X tg l (iList X.K tl) := by
  intro pins s σ H R I h
  refine thn (hl pins s σ H _ I h) fun v s1 ⟨x, H1, I1, r1, q1⟩ => ?_
  obtain ⟨a, e, ⟨xs, hq⟩, q⟩ := q1
  subst e
  cases r1
  obtain ⟨its, rv, p, hz⟩ := I1.list hq
  refine wpAny_pyIter_list p.isList ?_
  refine ⟨s1.heap.objs.size, [s1.heap.objs.size], _, _, H1, rfl, I1.kept (t' := s1.toks) fun b o e => Heap.get?_push_of_some _ e, turn_list a _, ⟨_, Heap.get?_push_size _ rfl, rfl, rfl⟩, fun b hb => ?_, q⟩
  have e : b = s1.heap.objs.size := by simpa using hb
  subst e
  exact I1.fpOk (Nat.le_refl _) (I1.hok.fresh (Nat.le_refl _))
/-- a range object just made, walked -/
theorem range_it {pins : List (Addr × Obj)} {σ : St} {H : Hp} {s : Shared} {R : It → Hp → Prop} {E : Value → Shared → Prop} {lo hi : Int} {t u v : Tok} {tk : Nat} (I : Inv X pins σ H s) (h1 : -(2 ^ 62) ≤ lo) (h2 : lo < 2 ^ 62) (h3 : -(2 ^ 62) ≤ hi) (h4 : hi < 2 ^ 62)
    (q : R (Itr lo (hi - lo).toNat) H) : wpAny (model X.prog X.w) X.A (pyIter (.ref s.heap.objs.size)) (PIE X pins σ tg R) E { s with heap := s.heap.push { cls := .type "range", data := .fields #[.int lo t, .int hi u, .int 1 v] }, toks := tk } := by
  refine wpAny_pyIter_range (IsRange.new ..) (small_one h1 h2 h3 h4) ?_
  have I1 : Inv X pins σ H { s with heap := s.heap.push { cls := .type "range", data := .fields #[.int lo t, .int hi u, .int 1 v] }, toks := tk } := I.kept fun b o e => Heap.get?_push_of_some _ e
  refine ⟨(s.heap.push { cls := .type "range", data := .fields #[.int lo t, .int hi u, .int 1 v] }).objs.size, [(s.heap.push { cls := .type "range", data := .fields #[.int lo t, .int hi u, .int 1 v] }).objs.size], _, _, H, rfl,
    I1.kept (t' := tk) fun b o e => Heap.get?_push_of_some _ e, turn_range _ lo (hi - lo).toNat, ?_, fun b hb => ?_, q⟩
  · have e1 : lo + ((0 : Nat) : Int) * 1 = lo := by simp
    have e2 : (((hi - lo).toNat : Nat) : Int) - ((0 : Nat) : Int) = Builtin.Range.rangeSize lo hi 1 := by rw [rangeSize_one]; split <;> omega
    show IsRangeIter _ _ (lo + ((0 : Nat) : Int) * 1) ((((hi - lo).toNat : Nat) : Int) - ((0 : Nat) : Int)) 1
    rw [e1, e2]
    exact Heap.get?_push_size _ rfl
  · have e : b = (s.heap.push { cls := .type "range", data := .fields #[.int lo t, .int hi u, .int 1 v] }).objs.size := by simpa using hb
    subst e
    exact I1.fpOk (Nat.le_refl _) (I1.hok.fresh (Nat.le_refl _))
def iRng1 (ta : TA) : TI := fun σ H R => ta σ H fun vs H1 => ∃ j : Int, vs = [.int j] ∧ -(2 ^ 62) ≤ j ∧ j < 2 ^ 62 ∧ R (Itr 0 j.toNat) H1
def iRng2 (ta : TA) : TI := fun σ H R => ta σ H fun vs H1 => ∃ i j : Int, vs = [.int i, .int j] ∧ (-(2 ^ 62) ≤ i ∧ i < 2 ^ 62 ∧ -(2 ^ 62) ≤ j ∧ j < 2 ^ 62) ∧ R (Itr i (j - i).toNat) H1
theorem pi_range2 {a b : Expr} {ta : TA} {p pos : Pos} (hg : Gl X "range") (hm : X.mg "range" = none) (ha : PA X [a, b] ta) (hs : starEach [a, b] X.env = [(false, eval a X.env), (false, eval b X.env)] := by rfl) (hs2 : starEach [b] X.env = [(false, eval b X.env)] := by rfl) :
    PI X tg (.Call (.Name "range" p) [a, b] [] pos) (iRng2 ta) := by
  intro pins s σ H R I h
  refine Call_ (ld_blt I hg hm boot_range (PyProof.Rows.callWith_type1 (thn (ha pos pins s σ H _ I h) fun us s1 ⟨vs, H1, I1, r1, q1⟩ => ?_) (by rw [hs, hs2]) (by rw [hs2]; rfl)))
  obtain ⟨i, j, e, ⟨q1, q2, q3, q4⟩, q⟩ := q1
  subst e
  cases r1 with
  | cons r rr =>
    cases rr with
    | cons r' rr =>
      cases rr
      obtain ⟨t, rfl⟩ := r
      obtain ⟨t', rfl⟩ := r'
      exact call_range_2 (range_it I1 q1 q2 q3 q4 q)

/-! ### for -/
/-- W: the invariant by the turn and a measure; N: what the body is to reach -/
def tFor (wi : TI) (g : TG) (tb : TS) : TS := fun D σ H => wi σ H fun J H1 => ∃ W : Nat → Nat → St → Hp → Prop, (∃ m, W 0 m σ H1) ∧ ∀ i m σ H, W i m σ H →
  (J.stop i H ∧ D.nx σ H) ∨ (J.go i H ∧ ∃ N : St → Hp → Prop, (∀ σ' H', N σ' H' → ∃ m', m' < m ∧ W (i + 1) m' σ' H') ∧ ∀ x H', J.yld i H x H' → g x σ H' fun σ2 H2 => tb { D with nx := N, ct := N, bk := D.nx } σ2 H2)
/-- the records at fp as they stand -/
def pinsAt (fp : List Addr) (h : Heap) : List (Addr × Obj) := fp.filterMap fun b => (h.get? b).map fun o => (b, o)
theorem mem_pinsAt {fp : List Addr} {h : Heap} {b : Addr} {o : Obj} (hb : b ∈ fp) (e : h.get? b = some o) : (b, o) ∈ pinsAt fp h := List.mem_filterMap.mpr ⟨b, hb, by rw [e]; rfl⟩
theorem of_pinsAt {fp : List Addr} {h : Heap} {p : Addr × Obj} (hp : p ∈ pinsAt fp h) : p.1 ∈ fp ∧ h.get? p.1 = some p.2 := by
  obtain ⟨b, hb, e⟩ := List.mem_filterMap.mp hp
  cases q : h.get? b with
  | none => rw [q] at e; cases e
  | some o =>
    rw [q] at e
    have e' : (b, o) = p := Option.some.inj e
    subst e'
    exact ⟨hb, q⟩
theorem Inv.pinned {pins : List (Addr × Obj)} {σ : St} {H : Hp} {s : Shared} {fp : List Addr} (I : Inv X pins σ H s) (hf : ∀ b ∈ fp, FpOk X pins H b) (ho : ∀ b ∈ fp, ∃ o, s.heap.get? b = some o ∧ ∀ v, o.data ≠ .cell v) : Inv X (pins ++ pinsAt fp s.heap) σ H s :=
  I.pins_of fun p hp => (List.mem_append.mp hp).elim (fun z => I.pin p (List.mem_append_right _ z)) fun z => by
    obtain ⟨hb, e⟩ := of_pinsAt z
    obtain ⟨f0, f1, f2, _⟩ := hf p.1 hb
    obtain ⟨o, e', d⟩ := ho p.1 hb
    rw [e] at e'; cases e'
    exact ⟨e, f0, f1, f2, d⟩
theorem Inv.unpinned {pins pl : List (Addr × Obj)} {σ : St} {H : Hp} {s : Shared} (I : Inv X (pins ++ pl) σ H s) : Inv X pins σ H s := I.pins_of fun p hp => I.pin p (List.mem_append_right _ (List.mem_append_left _ hp))
theorem ps_for {iter : Expr} {body : List Stmt} {wi : TI} {g : TG} {tb : TS} {pos : Pos} (hp : PassesOwn (model X.prog X.w) X.A X.env X.xe) (hc : X.calm = true) (hi : PI X tg iter wi) (hg : PG X tg g) (hb : PSs X body tb)
    (hs : ∀ x, foldedSetIterable iter X.env x = pure x := by intro _; rfl) : PS X (.For tg iter body [] pos) (tFor wi g tb) := by
  intro pins s σ H D I h
  refine wpAny_For (thn (hi pins s σ H _ I h) fun v s1 h1 => thn h1 fun itv s2 h2 => ?_) hs
  obtain ⟨it, fp, tn, J, H2, e, I2, T, st2, f2, W, ⟨m0, w0⟩, turn⟩ := h2
  subst e
  -- what stays true of the iterator's objects through the loop
  have stat : ∀ {H' : Hp}, (∀ b ∈ fp, H' b = none) → ∀ b ∈ fp, FpOk X pins H' b := fun hn b hb => ⟨hn b hb, (f2 b hb).2⟩
  refine codeAny_forLoop_any (fun n s' => ∃ i σ' H', Inv X pins σ' H' s' ∧ tn i s'.heap ∧ (∀ b ∈ fp, H' b = none) ∧ W i n σ' H') ?_ m0 ⟨0, σ, H2, I2, st2, fun b hb => (f2 b hb).1, w0⟩
  rintro n s3 ⟨i, σ3, H3, I3, st3, fr3, w3⟩
  rcases turn i n σ3 H3 w3 with ⟨stop, qn⟩ | ⟨go, N, hN, step⟩
  · refine wpAny_passesOwn hp (thn (T.done X rfl rfl rfl hc i pins s3 σ3 H3 X.xe I3 (stat fr3) st3 stop) fun r s4 ⟨hr, I4⟩ => ?_)
    subst hr
    exact wpAny_execs_nil ⟨σ3, H3, I4, qn⟩
  · refine wpAny_passesOwn hp (thn (T.item X rfl rfl rfl hc i pins s3 σ3 H3 X.xe I3 (stat fr3) st3 go) fun r s4 ⟨u, hr, h4⟩ => ?_)
    subst hr
    refine wpAny_passesOwn hp (thn h4 fun _ s5 ⟨x, H5, I5, r5, y5, st5, fr5⟩ => ?_)
    have I5' := I5.pinned (stat fr5) (T.obj _ _ st5)
    refine wpAny_passesOwn hp (thn (hg _ s5 σ3 H5 x u _ I5' r5 (step x H5 y5)) fun _ s6 ⟨σ6, H6, I6, q6⟩ => ?_)
    refine wpAny_passesOwn hp (thn (hb _ s6 σ6 H6 _ I6 q6) fun f s7 q7 => ?_)
    have again : ∀ {σ7 : St} {H7 : Hp}, Inv X (pins ++ pinsAt fp s5.heap) σ7 H7 s7 → N σ7 H7 → ∃ m, m < n ∧ ∃ i σ' H', Inv X pins σ' H' s7 ∧ tn i s7.heap ∧ (∀ b ∈ fp, H' b = none) ∧ W i m σ' H' := fun {σ7 H7} I7 n7 => by
      obtain ⟨m', hm, w7⟩ := hN σ7 H7 n7
      refine ⟨m', hm, i + 1, σ7, H7, I7.unpinned, T.keep _ _ _ st5 fun b hb o e => (I7.pin (b, o) (List.mem_append_right _ (List.mem_append_right _ (mem_pinsAt hb e)))).1, fun b hb => ?_, w7⟩
      obtain ⟨o, e, d⟩ := T.obj _ _ st5 b hb
      exact (I7.pin (b, o) (List.mem_append_right _ (List.mem_append_right _ (mem_pinsAt hb e)))).2.1
    cases f with
    | next => obtain ⟨σ7, H7, I7, n7⟩ := q7; exact again I7 n7
    | cont => obtain ⟨σ7, H7, I7, n7⟩ := q7; exact again I7 n7
    | brk => obtain ⟨σ7, H7, I7, q7⟩ := q7; exact ⟨σ7, H7, I7.unpinned, q7⟩
    | ret v => obtain ⟨x7, σ7, H7, I7, r7, q7⟩ := q7; exact ⟨x7, σ7, H7, I7.unpinned, r7, q7⟩
end

/-! ### the forms one uses -/
/-- over a list that the body leaves as it is -/
theorem for_list {K : PySem.W.Frag} {a : Addr} {xs : List V} {g : TG} {tb : TS} {D : Ends} {σ : St} {H : Hp} (Pv : Nat → St → Hp → Prop) (h0 : Pv 0 σ H) (hl : ∀ i σ H, i ≤ xs.length → Pv i σ H → SqL K H a xs)
    (hs : ∀ i x σ H, xs[i]? = some x → Pv i σ H → g x σ H fun σ2 H2 => tb { D with nx := Pv (i + 1), ct := Pv (i + 1), bk := D.nx } σ2 H2) (hd : ∀ σ H, Pv xs.length σ H → D.nx σ H) :
    ∃ W : Nat → Nat → St → Hp → Prop, (∃ m, W 0 m σ H) ∧ ∀ i m σ H, W i m σ H →
      ((Itl K a).stop i H ∧ D.nx σ H) ∨ ((Itl K a).go i H ∧ ∃ N : St → Hp → Prop, (∀ σ' H', N σ' H' → ∃ m', m' < m ∧ W (i + 1) m' σ' H') ∧ ∀ x H', (Itl K a).yld i H x H' → g x σ H' fun σ2 H2 => tb { D with nx := N, ct := N, bk := D.nx } σ2 H2) := by
  refine ⟨fun i m σ H => m = xs.length - i ∧ i ≤ xs.length ∧ Pv i σ H, ⟨xs.length, by simp, Nat.zero_le _, h0⟩, ?_⟩
  rintro i m σ H ⟨rfl, hi, p⟩
  have q := hl i σ H hi p
  by_cases hlt : i < xs.length
  · refine .inr ⟨⟨xs, xs[i], q, by simp [hlt]⟩, Pv (i + 1), fun σ' H' p' => ⟨xs.length - (i + 1), by omega, rfl, hlt, p'⟩, fun x H' y => ?_⟩
    obtain ⟨e, y⟩ := y
    subst e
    exact hs i x σ _ (y xs q) p
  · have e : i = xs.length := by omega
    subst e
    exact .inl ⟨⟨xs, q, Nat.le_refl _⟩, hd σ H p⟩
theorem for_range {lo : Int} {n : Nat} {g : TG} {tb : TS} {D : Ends} {σ : St} {H : Hp} (Pv : Nat → St → Hp → Prop) (h0 : Pv 0 σ H)
    (hs : ∀ i σ H, i < n → Pv i σ H → g (.int (lo + i)) σ H fun σ2 H2 => tb { D with nx := Pv (i + 1), ct := Pv (i + 1), bk := D.nx } σ2 H2) (hd : ∀ σ H, Pv n σ H → D.nx σ H) :
    ∃ W : Nat → Nat → St → Hp → Prop, (∃ m, W 0 m σ H) ∧ ∀ i m σ H, W i m σ H →
      ((Itr lo n).stop i H ∧ D.nx σ H) ∨ ((Itr lo n).go i H ∧ ∃ N : St → Hp → Prop, (∀ σ' H', N σ' H' → ∃ m', m' < m ∧ W (i + 1) m' σ' H') ∧ ∀ x H', (Itr lo n).yld i H x H' → g x σ H' fun σ2 H2 => tb { D with nx := N, ct := N, bk := D.nx } σ2 H2) := by
  refine ⟨fun i m σ H => m = n - i ∧ i ≤ n ∧ Pv i σ H, ⟨n, by simp, Nat.zero_le _, h0⟩, ?_⟩
  rintro i m σ H ⟨rfl, hi, p⟩
  by_cases hlt : i < n
  · refine .inr ⟨hlt, Pv (i + 1), fun σ' H' p' => ⟨n - (i + 1), by omega, rfl, hlt, p'⟩, fun x H' y => ?_⟩
    obtain ⟨e, y⟩ := y
    subst e y
    exact hs i σ _ hlt p
  · have e : i = n := by omega
    subst e
    exact .inl ⟨Nat.le_refl _, hd σ H p⟩
end L2

namespace L2
open PySem PySem.Spec PyProof.Rows

abbrev R2 := V → V → Hp → VK → Prop
/-- a two-place operation on values: f is binaryOp op, inplaceOp op or compareOp op -/
def OpR (X : Cx) (f : Value → Value → Sem Value) (r : R2) : Prop :=
  ∀ (pins : List (Addr × Obj)) (s : Shared) (σ : St) (H : Hp) (x y : V) (v u : Value) (Q : VK), Inv X pins σ H s → RelV x v → RelV y u → r x y H Q →
    wpAny (model X.prog X.w) X.A (f v u) (EP X pins σ Q) X.xe s
/-- a one-place operation -/
def UnR (X : Cx) (f : Value → Sem Value) (r : V → Hp → VK → Prop) : Prop :=
  ∀ (pins : List (Addr × Obj)) (s : Shared) (σ : St) (H : Hp) (x : V) (v : Value) (Q : VK), Inv X pins σ H s → RelV x v → r x H Q →
    wpAny (model X.prog X.w) X.A (f v) (EP X pins σ Q) X.xe s
/-- a call of a value that is known (a builtin, a type) with values -/
def CallR (X : Cx) (f : Value) (r : List V → Hp → VK → Prop) : Prop :=
  ∀ (pins : List (Addr × Obj)) (s : Shared) (σ : St) (H : Hp) (xs : List V) (us : List Value) (Q : VK), Inv X pins σ H s → Vals xs us → r xs H Q →
    wpAny (model X.prog X.w) X.A (call f us) (EP X pins σ Q) X.xe s
/-- a value's truth -/
def TruR (X : Cx) (r : V → Hp → (Bool → Hp → Prop) → Prop) : Prop :=
  ∀ (pins : List (Addr × Obj)) (s : Shared) (σ : St) (H : Hp) (x : V) (v : Value) (Q : Bool → Hp → Prop), Inv X pins σ H s → RelV x v → r x H Q →
    wpAny (model X.prog X.w) X.A (truthy v) (TP X pins σ Q) X.xe s

def tOp (r : R2) (ta tb : TE) : TE := fun σ H Q => ta σ H fun x H1 => tb σ H1 fun y H2 => r x y H2 Q
def tUn (r : V → Hp → VK → Prop) (ta : TE) : TE := fun σ H Q => ta σ H fun x H1 => r x H1 Q
/-- ints in, under C, and a value out -/
def rI (C : Int → Int → Prop) (g : Int → Int → V) : R2 := fun x y H Q => ∃ i j, x = .int i ∧ y = .int j ∧ C i j ∧ Q (g i j) H
def rI0 (g : Int → Int → V) : R2 := fun x y H Q => ∃ i j, x = .int i ∧ y = .int j ∧ Q (g i j) H
def rU (g : Int → V) : V → Hp → VK → Prop := fun x H Q => ∃ i, x = .int i ∧ Q (g i) H

section
variable {X : Cx} {a b c : Expr} {ta tb tc : TE} {pos : Pos}

theorem binT (ha : PE X a ta) (hb : PE X b tb) {pins : List (Addr × Obj)} {s : Shared} {σ : St} {H : Hp} {R : V → V → Hp → Prop} (I : Inv X pins σ H s)
    (h : ta σ H fun x H1 => tb σ H1 fun y H2 => R x y H2) {Q : Value → Shared → Prop} {f : Value → Value → Sem Value}
    (hf : ∀ v u s2 x y H2, Inv X pins σ H2 s2 → RelV x v → RelV y u → R x y H2 → wpAny (model X.prog X.w) X.A (f v u) Q X.xe s2) :
    wpAny (model X.prog X.w) X.A (eval a X.env) (fun v s₁ => wpAny (model X.prog X.w) X.A (eval b X.env) (fun u s₂ => wpAny (model X.prog X.w) X.A (f v u) Q X.xe s₂) X.xe s₁) X.xe s := by
  refine thn (ha pins s σ H _ I h) fun v s1 ⟨x, H1, I1, r1, q1⟩ => ?_
  refine thn (hb pins s1 σ H1 _ I1 q1) fun u s2 ⟨y, H2, I2, r2, q2⟩ => ?_
  exact hf v u s2 x y H2 I2 r1 r2 q2

theorem pe_op {op : Operator} {r : R2} (ho : OpR X (binaryOp op) r) (ha : PE X a ta) (hb : PE X b tb) : PE X (.BinOp a op b pos) (tOp r ta tb) := by
  intro pins s σ H Q I h
  exact wpAny_BinOp (binT ha hb I h fun v u s2 x y H2 I2 rx ry q => ho pins s2 σ H2 x y v u Q I2 rx ry q)
theorem pe_un {op : UnaryOp} {r : V → Hp → VK → Prop} (ho : UnR X (unaryOp op) r) (ha : PE X a ta) : PE X (.UnaryOp op a pos) (tUn r ta) := by
  intro pins s σ H Q I h
  exact UnaryOp_ (thn (ha pins s σ H _ I h) fun v s1 ⟨x, H1, I1, r1, q1⟩ => ho pins s1 σ H1 x v Q I1 r1 q1)
/-! ### ints -/
theorem opI {f : Value → Value → Sem Value} {C : Int → Int → Prop} {g : Int → Int → Int}
    (rule : ∀ (i j : Int) (t u : Tok) (s : Shared) (Q : Value → Shared → Prop) (E : Value → Shared → Prop), C i j → Q (.int (g i j) s.toks) { s with toks := s.toks + 1 } → wpAny (model X.prog X.w) X.A (f (.int i t) (.int j u)) Q E s) :
    OpR X f (rI C fun i j => .int (g i j)) := by
  intro pins s σ H x y v u Q I rx ry h
  obtain ⟨i, j, rfl, rfl, hc, q⟩ := h
  obtain ⟨t, rfl⟩ := rx
  obtain ⟨t', rfl⟩ := ry
  exact rule i j t t' s _ _ hc ⟨.int (g i j), H, I.tok _, ⟨_, rfl⟩, q⟩
theorem opI0 {f : Value → Value → Sem Value} {g : Int → Int → Int}
    (rule : ∀ (i j : Int) (t u : Tok) (s : Shared) (Q : Value → Shared → Prop) (E : Value → Shared → Prop), Q (.int (g i j) s.toks) { s with toks := s.toks + 1 } → wpAny (model X.prog X.w) X.A (f (.int i t) (.int j u)) Q E s) :
    OpR X f (rI0 fun i j => .int (g i j)) := by
  intro pins s σ H x y v u Q I rx ry h
  obtain ⟨i, j, rfl, rfl, q⟩ := h
  obtain ⟨t, rfl⟩ := rx
  obtain ⟨t', rfl⟩ := ry
  exact rule i j t t' s _ _ ⟨.int (g i j), H, I.tok _, ⟨_, rfl⟩, q⟩
theorem opB0 {f : Value → Value → Sem Value} {g : Int → Int → Bool}
    (rule : ∀ (i j : Int) (t u : Tok) (s : Shared) (Q : Value → Shared → Prop) (E : Value → Shared → Prop), Q (.bool (g i j)) s → wpAny (model X.prog X.w) X.A (f (.int i t) (.int j u)) Q E s) :
    OpR X f (rI0 fun i j => .bl (g i j)) := by
  intro pins s σ H x y v u Q I rx ry h
  obtain ⟨i, j, rfl, rfl, q⟩ := h
  obtain ⟨t, rfl⟩ := rx
  obtain ⟨t', rfl⟩ := ry
  exact rule i j t t' s _ _ ⟨.bl (g i j), H, I, rfl, q⟩

def CDiv (i j : Int) : Prop := 0 < j ∧ j < 1073741824
def CDivN (i j : Int) : Prop := j ≠ 0 ∧ j.natAbs < 1073741824
def CPow (i j : Int) : Prop := 0 ≤ j ∧ j ≤ 1000000 ∧ i.natAbs < 2 ^ 64
def CMul (i j : Int) : Prop := (-(2 ^ 64) < i ∧ i < 2 ^ 64) ∨ (-(2 ^ 64) < j ∧ j < 2 ^ 64)
theorem CMul.ok {i j : Int} (h : CMul i j) : IntMulOk i j := by
  rcases h with ⟨h1, h2⟩ | ⟨h1, h2⟩
  · exact .of_left (intBits_le_64 h1 h2)
  · exact .of_right (intBits_le_64 h1 h2)
theorem op_add : OpR X (binaryOp .Add) (rI0 fun i j => .int (i + j)) := opI0 fun _ _ _ _ _ _ _ q => add_int q
theorem op_sub : OpR X (binaryOp .Sub) (rI0 fun i j => .int (i - j)) := opI0 fun _ _ _ _ _ _ _ q => sub_int q
theorem op_mul : OpR X (binaryOp .Mult) (rI CMul fun i j => .int (i * j)) := opI fun _ _ _ _ _ _ _ hc q => mul_int q hc.ok
/-- // by a positive divisor -/
theorem op_fdiv : OpR X (binaryOp .FloorDiv) (rI CDiv fun i j => .int (i / j)) := opI fun i j _ _ _ _ _ hc q => by
  have h1 : (0 : Int) < j := hc.1
  have h2 : j < 1073741824 := hc.2
  exact floordiv_int (by omega) (by rw [Int.fdiv_eq_ediv_of_nonneg i (by omega)]; exact q) (.inl (PyProof.noPylong_small (by omega)))
/-- % by a positive divisor of any size -/
theorem op_mod : OpR X (binaryOp .Mod) (rI (fun _ j => 0 < j) fun i j => .int (i % j)) := opI fun i j _ _ _ _ _ hc q => by
  have h1 : (0 : Int) < j := hc
  exact mod_int' (by omega) (by rw [Int.fmod_eq_emod_of_nonneg i (by omega)]; exact q)
theorem op_pow : OpR X (binaryOp .Pow) (rI CPow fun i j => .int (i ^ j.toNat)) := opI fun _ _ _ _ _ _ _ hc q => pow_int_small hc.1 hc.2.1 hc.2.2 q
theorem unI {f : Value → Sem Value} {g : Int → Int}
    (rule : ∀ (i : Int) (t : Tok) (s : Shared) (Q : Value → Shared → Prop) (E : Value → Shared → Prop), Q (.int (g i) s.toks) { s with toks := s.toks + 1 } → wpAny (model X.prog X.w) X.A (f (.int i t)) Q E s) :
    UnR X f (rU fun i => .int (g i)) := by
  intro pins s σ H x v Q I rx h
  obtain ⟨i, rfl, q⟩ := h
  obtain ⟨t, rfl⟩ := rx
  exact rule i t s _ _ ⟨.int (g i), H, I.tok _, ⟨_, rfl⟩, q⟩
theorem un_neg : UnR X (unaryOp .USub) (rU fun i => .int (-i)) := unI fun _ _ _ _ _ q => neg_int q
/-! ### bools among ints: n += (a < b) -/
end

/-! ### comparisons -/
/-- the scalars that == tells apart as data does -/
def scal : V → V → Bool
  | .non, .non => true | .non, .int _ => true | .int _, .non => true | .non, .bl _ => true | .bl _, .non => true | .non, .str _ => true | .str _, .non => true
  | .int _, .int _ => true | .bl _, .bl _ => true | .str _, .str _ => true | .byt _, .byt _ => true
  | .int _, .str _ => true | .str _, .int _ => true | .bl _, .str _ => true | .str _, .bl _ => true
  | _, _ => false
def rEq : R2 := fun x y H Q => scal x y = true ∧ Q (.bl (decide (x = y))) H
def rNe : R2 := fun x y H Q => scal x y = true ∧ Q (.bl (!decide (x = y))) H

theorem dec_int {i j : Int} : decide (V.int i = V.int j) = (i == j) := by
  rw [Bool.eq_iff_iff]
  simp
theorem dec_bl {i j : Bool} : decide (V.bl i = V.bl j) = (i == j) := by
  rw [Bool.eq_iff_iff]
  simp
theorem dec_str {i j : Str} : decide (V.str i = V.str j) = (i == j) := by
  rw [Bool.eq_iff_iff]
  simp
theorem dec_byt {i j : Array UInt8} : decide (V.byt i = V.byt j) = (i.toList == j.toList) := by
  rw [Bool.eq_iff_iff]
  cases i
  cases j
  simp

section
variable {X : Cx} {a b c : Expr} {ta tb tc : TE} {pos : Pos}
theorem fin_bl {pins : List (Addr × Obj)} {σ : St} {H : Hp} {s : Shared} {Q : VK} {k k' : Bool} (I : Inv X pins σ H s) (q : Q (.bl k) H) (e : k = k') : EP X pins σ Q (.bool k') s := by
  subst e
  exact ⟨.bl k, H, I, rfl, q⟩
theorem op_eq : OpR X (compareOp .Eq) rEq := by
  intro pins s σ H x y v u Q I rx ry h
  obtain ⟨hs, q⟩ := h
  cases x with
  | non =>
    cases rx
    cases y with
    | non => cases ry; exact PySem.EqNone.eq_none_none (fin_bl I q (by simp))
    | bl j => cases ry; exact PySem.EqNone.eq_none_bool (fin_bl I q (by simp))
    | int j => obtain ⟨t', rfl⟩ := ry; exact PySem.EqNone.eq_none_int (fin_bl I q (by simp))
    | str j => obtain ⟨t', rfl⟩ := ry; exact PySem.EqNone.eq_none_str (fin_bl I q (by simp))
    | _ => exact absurd (show false = true from hs) Bool.false_ne_true
  | bl i =>
    cases rx
    cases y with
    | non => cases ry; exact PySem.EqNone.eq_bool_none (fin_bl I q (by simp))
    | bl j => cases ry; exact eq_bool (fin_bl I q dec_bl)
    | str j => obtain ⟨t', rfl⟩ := ry; exact PySem.EqMixed.eq_bool_str (fin_bl I q (by simp))
    | _ => exact absurd (show false = true from hs) Bool.false_ne_true
  | int i =>
    obtain ⟨t, rfl⟩ := rx
    cases y with
    | non => cases ry; exact PySem.EqNone.eq_int_none (fin_bl I q (by simp))
    | int j => obtain ⟨t', rfl⟩ := ry; exact eq_int (fin_bl I q dec_int)
    | str j => obtain ⟨t', rfl⟩ := ry; exact PySem.EqMixed.eq_int_str (fin_bl I q (by simp))
    | _ => exact absurd (show false = true from hs) Bool.false_ne_true
  | str i =>
    obtain ⟨t, rfl⟩ := rx
    cases y with
    | non => cases ry; exact PySem.EqNone.eq_str_none (fin_bl I q (by simp))
    | bl j => cases ry; exact PySem.EqMixed.eq_str_bool (fin_bl I q (by simp))
    | int j => obtain ⟨t', rfl⟩ := ry; exact PySem.EqMixed.eq_str_int (fin_bl I q (by simp))
    | str j => obtain ⟨t', rfl⟩ := ry; exact eq_str (fin_bl I q dec_str)
    | _ => exact absurd (show false = true from hs) Bool.false_ne_true
  | byt i =>
    obtain ⟨t, rfl⟩ := rx
    cases y with
    | byt j => obtain ⟨t', rfl⟩ := ry; exact PySem.W.eq_bytes (fin_bl I q dec_byt)
    | _ => exact absurd (show false = true from hs) Bool.false_ne_true
  | _ => cases y <;> exact absurd (show false = true from hs) Bool.false_ne_true
theorem op_ne : OpR X (compareOp .NotEq) rNe := by
  intro pins s σ H x y v u Q I rx ry h
  obtain ⟨hs, q⟩ := h
  cases x with
  | non =>
    cases rx
    cases y with
    | non => cases ry; exact PySem.EqNone.ne_none_none (fin_bl I q (by simp))
    | bl j => cases ry; exact PySem.EqNone.ne_none_bool (fin_bl I q (by simp))
    | int j => obtain ⟨t', rfl⟩ := ry; exact PySem.EqNone.ne_none_int (fin_bl I q (by simp))
    | str j => obtain ⟨t', rfl⟩ := ry; exact PySem.EqNone.ne_none_str (fin_bl I q (by simp))
    | _ => exact absurd (show false = true from hs) Bool.false_ne_true
  | bl i =>
    cases rx
    cases y with
    | non => cases ry; exact PySem.EqNone.ne_bool_none (fin_bl I q (by simp))
    | bl j => cases ry; exact ne_bool (fin_bl I q (congrArg not dec_bl))
    | str j => obtain ⟨t', rfl⟩ := ry; exact PySem.EqMixed.ne_bool_str (fin_bl I q (by simp))
    | _ => exact absurd (show false = true from hs) Bool.false_ne_true
  | int i =>
    obtain ⟨t, rfl⟩ := rx
    cases y with
    | non => cases ry; exact PySem.EqNone.ne_int_none (fin_bl I q (by simp))
    | int j => obtain ⟨t', rfl⟩ := ry; exact ne_int (fin_bl I q (congrArg not dec_int))
    | str j => obtain ⟨t', rfl⟩ := ry; exact PySem.EqMixed.ne_int_str (fin_bl I q (by simp))
    | _ => exact absurd (show false = true from hs) Bool.false_ne_true
  | str i =>
    obtain ⟨t, rfl⟩ := rx
    cases y with
    | non => cases ry; exact PySem.EqNone.ne_str_none (fin_bl I q (by simp))
    | bl j => cases ry; exact PySem.EqMixed.ne_str_bool (fin_bl I q (by simp))
    | int j => obtain ⟨t', rfl⟩ := ry; exact PySem.EqMixed.ne_str_int (fin_bl I q (by simp))
    | str j => obtain ⟨t', rfl⟩ := ry; exact ne_str (fin_bl I q (congrArg not dec_str))
    | _ => exact absurd (show false = true from hs) Bool.false_ne_true
  | byt i =>
    obtain ⟨t, rfl⟩ := rx
    cases y with
    | byt j => obtain ⟨t', rfl⟩ := ry; exact PySem.W.ne_bytes (fin_bl I q (congrArg not dec_byt))
    | _ => exact absurd (show false = true from hs) Bool.false_ne_true
  | _ => cases y <;> exact absurd (show false = true from hs) Bool.false_ne_true

theorem op_lt : OpR X (compareOp .Lt) (rI0 fun i j => .bl (decide (i < j))) := opB0 fun _ _ _ _ _ _ _ q => lt_int q
theorem op_gt : OpR X (compareOp .Gt) (rI0 fun i j => .bl (decide (j < i))) := opB0 fun _ _ _ _ _ _ _ q => gt_int q
theorem op_ge : OpR X (compareOp .GtE) (rI0 fun i j => .bl (decide (j ≤ i))) := opB0 fun _ _ _ _ _ _ _ q => ge_int q
/-- the one string within the other -/
theorem op_in_str : OpR X (compareOp .In) (fun x y H Q => ∃ i j, x = .str i ∧ y = .str j ∧ Q (.bl (!(Builtin.Str.occurrences j i 0 j.length 1).isEmpty)) H) := by
  intro pins s σ H x y v u Q I rx ry h
  obtain ⟨i, j, rfl, rfl, q⟩ := h
  obtain ⟨t, rfl⟩ := rx
  obtain ⟨t', rfl⟩ := ry
  exact in_str (fin_bl I q rfl)

/-- is None, is not None: the right side a value none -/
theorem op_isN : OpR X (compareOp .Is) (fun x y H Q => y = .non ∧ Q (.bl (decide (x = .non))) H) := by
  intro pins s σ H x y v u Q I rx ry h
  obtain ⟨rfl, q⟩ := h
  cases ry
  refine is_none_gen (fin_bl I q ?_)
  cases x <;> first
    | (cases rx; rfl)
    | (obtain ⟨t, rfl⟩ := rx; rfl)
theorem op_notin_str : OpR X (compareOp .NotIn) (fun x y H Q => ∃ i j, x = .str i ∧ y = .str j ∧ Q (.bl (!(!(Builtin.Str.occurrences j i 0 j.length 1).isEmpty))) H) := by
  intro pins s σ H x y v u Q I rx ry h
  obtain ⟨i, j, rfl, rfl, q⟩ := h
  obtain ⟨t, rfl⟩ := rx
  obtain ⟨t', rfl⟩ := ry
  exact notIn_str (fin_bl I q rfl)
/-- is, is not of two objects that are tracked lists or instances -/
def isObj : HO → Bool
  | .lst _ => true
  | .ins _ _ _ => true
  | _ => false
/-- two rules for one operation: by cases -/
theorem OpR.or {f : Value → Value → Sem Value} {r r' : R2} (h : OpR X f r) (h' : OpR X f r') : OpR X f (fun x y H Q => r x y H Q ∨ r' x y H Q) := by
  intro pins s σ H x y v u Q I rx ry q
  rcases q with q | q
  · exact h pins s σ H x y v u Q I rx ry q
  · exact h' pins s σ H x y v u Q I rx ry q

theorem nomark (b : Expr) {op : CmpOp} (h : op ≠ .In := by decide) (h2 : op ≠ .NotIn := by decide) : behindInMarks op b = false := by
  have e1 : (op == CmpOp.In) = false := by cases op <;> first | rfl | exact absurd rfl h
  have e2 : (op == CmpOp.NotIn) = false := by cases op <;> first | rfl | exact absurd rfl h2
  cases b <;> simp [behindInMarks, e1, e2]
/-- a comparison as a value; hm: nomark b, or (for in, not in) by with_unfolding_all rfl -/
theorem pe_cmpR {op : CmpOp} {r : R2} (ho : OpR X (compareOp op) r) (ha : PE X a ta) (hb : PE X b tb) (hm : behindInMarks op b = false) : PE X (.Compare a [op] [b] pos) (tOp r ta tb) := by
  intro pins s σ H Q I h
  exact wpAny_Compare1 (binT ha hb I h fun v u s2 x y H2 I2 rx ry q => ho pins s2 σ H2 x y v u Q I2 rx ry q) hm
/-- a reading of a value as a test -/
def tTest (t : TE) : TT := fun σ H Q => t σ H fun x H' => ∃ k, x = .bl k ∧ Q k H'
theorem pt_cmpR {op : CmpOp} {r : R2} (ho : OpR X (compareOp op) r) (ha : PE X a ta) (hb : PE X b tb) (hm : behindInMarks op b = false) : PT X (.Compare a [op] [b] pos) (tTest (tOp r ta tb)) := by
  intro pins s σ H Q I h
  refine wpAny_isTrue_Compare1 (thn (ha pins s σ H _ I h) fun v s1 ⟨x, H1, I1, r1, q1⟩ => thn (hb pins s1 σ H1 _ I1 q1) fun u s2 ⟨y, H2, I2, r2, q2⟩ =>
    thn (ho pins s2 σ H2 x y v u _ I2 r1 r2 q2) fun c s3 ⟨z, H3, I3, r3, k, e, q3⟩ => ?_) hm
  subst e
  cases r3
  exact wpAny_truthy_bool ⟨H3, I3, q3⟩
/-- a op1 b op2 c -/
def tChain (r r' : R2) (ta tb tc : TE) : TE := fun σ H Q => ta σ H fun x H1 => tb σ H1 fun y H2 => r x y H2 fun z H3 => ∃ k, z = .bl k ∧
  (if k = true then tc σ H3 fun w' H4 => r' y w' H4 Q else Q (.bl false) H3)
/-! ### truth -/
/-- a value's truth by the abstract heap -/
def TruV (K : PySem.W.Frag) (x : V) (H : Hp) (k : Bool) : Prop :=
  match x with
  | .non => k = false
  | .bl b => k = b
  | .int i => k = (i != 0)
  | .str y => y.length ≤ sizeLine ∧ k = ((y.length : Int) != 0)
  | .byt y => y.size ≤ sizeLine ∧ k = ((y.size : Int) != 0)
  | .ref p => (∃ xs, SqL K H p xs ∧ k = !xs.isEmpty) ∨ (∃ xs, SqT K H p xs ∧ k = !xs.isEmpty) ∨ ∃ kvs, H p = some (.dK kvs) ∧ k = !kvs.isEmpty
  | _ => False
theorem line63 : (sizeLine : Nat) < 2 ^ 63 := by rw [sizeLine_eq]; decide
/-! ### strs and bytes -/
theorem op_add_str : OpR X (binaryOp .Add) (fun x y H Q => ∃ i j, x = .str i ∧ y = .str j ∧ i.length + j.length ≤ sizeLine ∧ Q (.str (i ++ j)) H) := by
  intro pins s σ H x y v u Q I rx ry h
  obtain ⟨i, j, rfl, rfl, hz, q⟩ := h
  obtain ⟨t, rfl⟩ := rx
  obtain ⟨t', rfl⟩ := ry
  exact add_str (fun t' tk => ⟨.str (i ++ j), H, I.tok _, ⟨_, rfl⟩, q⟩) hz
def PlainIxT (b : Expr) : Prop := ∀ o i, subscripted b false o i = operate [o, i] (getItem o i)
/-! ### scalar builtins, by CallR -/
theorem vals1 {x : V} {us : List Value} (r : Vals [x] us) : ∃ u, us = [u] ∧ RelV x u := by
  cases r with
  | cons r1 r2 => cases r2; exact ⟨_, rfl, r1⟩
theorem vals2 {x y : V} {us : List Value} (r : Vals [x, y] us) : ∃ u w', us = [u, w'] ∧ RelV x u ∧ RelV y w' := by
  cases r with
  | cons r1 r2 =>
    cases r2 with
    | cons r3 r4 => cases r4; exact ⟨_, _, rfl, r1, r3⟩
theorem call_abs : CallR X (.builtin "abs") (fun xs H Q => ∃ i, xs = [.int i] ∧ Q (.int (if i < 0 then -i else i)) H) := by
  intro pins s σ H xs us Q I r h
  obtain ⟨i, rfl, q⟩ := h
  obtain ⟨u, rfl, t, rfl⟩ := vals1 r
  exact call_abs_int fun u tk => ⟨.int (if i < 0 then -i else i), H, I.tok _, ⟨_, rfl⟩, q⟩
theorem call_int1 : CallR X (.type "int") (fun xs H Q => (∃ i, xs = [.int i] ∧ Q (.int i) H) ∨ ∃ k, xs = [.bl k] ∧ Q (.int (if k then 1 else 0)) H) := by
  intro pins s σ H xs us Q I r h
  rcases h with ⟨i, rfl, q⟩ | ⟨k, rfl, q⟩
  · obtain ⟨u, rfl, t, rfl⟩ := vals1 r
    exact call_int_int ⟨.int i, H, I, ⟨_, rfl⟩, q⟩
  · obtain ⟨u, rfl, r1⟩ := vals1 r
    cases r1
    exact call_int_bool ⟨.int (if k then 1 else 0), H, I.tok _, ⟨_, rfl⟩, q⟩
theorem call_str_int : CallR X (.type "str") (fun xs H Q => ∃ i, xs = [.int i] ∧ i.natAbs.log2 < 1920 ∧ Q (.str (toString i)) H) := by
  intro pins s σ H xs us Q I r h
  obtain ⟨i, rfl, hz, q⟩ := h
  obtain ⟨u, rfl, t, rfl⟩ := vals1 r
  exact PySem.P.str_of_int hz ⟨.str _, H, I.tok _, ⟨_, rfl⟩, q⟩
theorem call_ord : CallR X (.builtin "ord") (fun xs H Q => ∃ x, xs = [.str x] ∧ x.length = 1 ∧ Q (.int (x.cps.getD 0 0 : Nat)) H) := by
  intro pins s σ H xs us Q I r h
  obtain ⟨x, rfl, hz, q⟩ := h
  obtain ⟨u, rfl, t, rfl⟩ := vals1 r
  exact ord_of_one hz ⟨.int _, H, I.tok _, ⟨_, rfl⟩, q⟩
/-- len of a str, a bytes, a list, a tuple -/
def LenV (K : PySem.W.Frag) (x : V) (H : Hp) (n : Nat) : Prop :=
  match x with
  | .str y => y.length ≤ sizeLine ∧ n = y.length
  | .byt y => y.size ≤ sizeLine ∧ n = y.size
  | .ref p => (∃ xs, SqL K H p xs ∧ n = xs.length) ∨ ∃ xs, SqT K H p xs ∧ n = xs.length
  | _ => False
end
end L2

namespace L2
open PySem PySem.Spec PyProof.Rows

/-! ### an instance, its attributes a map -/
structure ObjM (h : Heap) (x dx C : Addr) (mA : Str → Option Value) : Prop where
  obj : h.get? x = some (PySem.W.instObj C dx)
  ns : h.Ns1 dx mA
  ne : dx ≠ x

theorem lookIn_ns {h : Heap} {dx : Addr} {mA : Str → Option Value} (n : h.Ns1 dx mA) : ∃ od, h.get? dx = some od ∧ ∀ name, PySem.W.lookIn name od = some (mA name) := by
  obtain ⟨o, es, ep, ho, hd, hk, _, hm⟩ := n
  refine ⟨o, ho, fun name => ?_⟩
  have e := hm name
  unfold nsFind findBy at e
  rw [← Array.find?_toList] at e
  unfold PySem.W.lookIn
  rw [hd]
  dsimp only
  split
  · rename_i y q
    rw [q] at e
    exact congrArg some e
  · rename_i q
    rw [q] at e
    have a : es.toList.any (·.refKey) = false := by
      rw [List.any_eq_false]
      intro y hy
      obtain ⟨z, t, hkey⟩ := hk y (Array.mem_toList_iff.mp hy)
      simp [DictEntry.refKey, hkey]
    have a' : ¬ es.toList.any (·.refKey) = true := by rw [a]; exact Bool.false_ne_true
    rw [if_neg a']
    exact congrArg some e

theorem ObjM.look {h : Heap} {x dx C : Addr} {mA : Str → Option Value} (I : ObjM h x dx C mA) : ∃ od, PySem.W.InstAt h x (PySem.W.instObj C dx) C (some od) ∧ ∀ name, PySem.W.lookIn name od = some (mA name) :=
  let ⟨od, ho, hl⟩ := lookIn_ns I.ns
  ⟨od, ⟨I.obj, rfl, rfl, ho⟩, hl⟩

section
variable {prog : Program} {w : World} {A : Around} {E : Value → Shared → Prop} {s : Shared} {K : PySem.W.Frag} {x dx C f : Addr} {mA : Str → Option Value} {name : Str} {v : Value}

end

/-! ### the attributes as a list of pairs -/
def putF (f : Str) (v : V) : List (Str × V) → List (Str × V)
  | [] => [(f, v)]
  | (g, x) :: r => if g = f then (g, v) :: r else (g, x) :: putF f v r
theorem RelO.none_of {o : Option Value} (r : RelO none o) : o = none := by
  cases o with
  | none => rfl
  | some u => exact (show False from r).elim
section
variable {P : Program} {w : World} {H H' : Hp} {h h' : Heap} {a C dx : Addr} {fs fs' : List (Str × V)}
theorem ins_get (hok : HOk P w H h) (e : H a = some (.ins C dx fs)) : ∃ mA, ObjM h a dx C mA ∧ (∀ f, RelO (fs.lookup f) (mA f)) ∧ PySem.Within mA (fs.map (·.1)) ∧ fs.length ≤ 1000 ∧ H dx = some (.own a) := by
  obtain ⟨d, z, ne, ob, mA, n, r, q⟩ := (show ObjOk P w H h a (.ins C dx fs) from hok a _ e)
  exact ⟨mA, ⟨ob, n, ne⟩, r, q, z, d⟩
end

/-! ### what of the text a class must have -/
structure Cls (K : PySem.W.Frag) (C : Addr) : Prop where
  pg : PySem.W.plainGet K C Str.empty = true
  hd : PySem.W.hasDictIn K C = true
  po : PySem.W.plainOver K C = true
  sa : PySem.W.findIn K (.ref C) "__setattr__" = some (some (.builtin "object.__setattr__"))
theorem Cls.get {K : PySem.W.Frag} {C : Addr} (c : Cls K C) (f : Str) : PySem.W.plainGet K C f = true := c.pg
/-- no class of it has the name -/
def NoAttr (K : PySem.W.Frag) (C : Addr) (f : Str) : Prop := PySem.W.findIn K (.ref C) f = some none
/-- a constant of the class -/
structure Con (K : PySem.W.Frag) (C : Addr) (f : Str) (v : V) (u : Value) : Prop where
  at_ : PySem.W.findIn K (.ref C) f = some (some u)
  rel : RelV v u
  get : PySem.W.specialIn K u "__get__" = some none
  cp : PySem.W.copiedNames.contains f = false
/-- a method: a plain def of the class or of one above it -/
structure Meth (K : PySem.W.Frag) (C : Addr) (m : Str) (f : Addr) : Prop where
  at_ : PySem.W.findIn K (.ref C) m = some (some (.ref f))
  fn : PySem.W.isFn K (.ref f) = true
  kp : PySem.W.keepIn K (.ref f) = true

section
variable {X : Cx} {pins : List (Addr × Obj)} {σ : St} {H : Hp} {s : Shared} {a C dx : Addr} {fs : List (Str × V)} {f : Str} {v : V} {A : Around} {E : Value → Shared → Prop}

/-- a new instance, tracked, without attributes -/
theorem Inv.made (I : Inv X pins σ H s) : Inv X pins σ (upd (upd H s.heap.objs.size (.own (s.heap.objs.size + 1))) (s.heap.objs.size + 1) (.ins C s.heap.objs.size []))
    { s with heap := (s.heap.push PySem.W.emptyDict).push (PySem.W.instObj C s.heap.objs.size) } := by
  have e1 : (s.heap.push PySem.W.emptyDict).get? s.heap.objs.size = some PySem.W.emptyDict := Heap.get?_push_size s.heap rfl
  have e2 : ((s.heap.push PySem.W.emptyDict).push (PySem.W.instObj C s.heap.objs.size)).get? (s.heap.objs.size + 1) = some (PySem.W.instObj C s.heap.objs.size) := by
    have := Heap.get?_push_size (s.heap.push PySem.W.emptyDict) (o := PySem.W.instObj C s.heap.objs.size) rfl
    rwa [Heap.size_push] at this
  have e3 : (s.heap.push PySem.W.emptyDict).Ns s.heap.objs.size (fun _ => none) := ⟨PySem.W.emptyDict, #[], _, e1, rfl, (fun e he => absurd he (by simp)), fun _ => rfl⟩
  have I1 := I.laid (a := s.heap.objs.size) (o := .own (s.heap.objs.size + 1)) (h' := s.heap.push PySem.W.emptyDict) (t' := s.toks) (fun b u q => Heap.get?_push_of_some _ q) (Nat.le_refl _) ⟨_, e1⟩
  refine I1.laid (a := s.heap.objs.size + 1) (o := .ins C s.heap.objs.size []) (t' := s.toks) (fun b u q => Heap.get?_push_of_some _ q) (Nat.le_of_eq (Heap.size_push _ _)) ?_
  have ne : s.heap.objs.size ≠ s.heap.objs.size + 1 := Nat.ne_of_lt (Nat.lt_succ_self _)
  refine ⟨by rw [upd_ne ne, upd_same], Nat.zero_le _, ne, e2, fun _ => none, (Heap.Ns1.of_empty e3).at fun o q => Heap.get?_push_of_some _ q, fun _ => True.intro, fun y hy => absurd rfl hy⟩

end

/-! ### readings and rules -/
/-- e.f, an attribute of the instance -/
def tFld (K : PySem.W.Frag) (ta : TE) (f : Str) : TE := fun σ H Q => ta σ H fun x H1 => ∃ a C dx fs v, x = .ref a ∧ H1 a = some (.ins C dx fs) ∧ Cls K C ∧ NoAttr K C f ∧ fs.lookup f = some v ∧ Q v H1
/-- e.f, a constant of the class -/
def tCon (K : PySem.W.Frag) (ta : TE) (f : Str) : TE := fun σ H Q => ta σ H fun x H1 => ∃ a C dx fs v u, x = .ref a ∧ H1 a = some (.ins C dx fs) ∧ Cls K C ∧ Con K C f v u ∧ fs.lookup f = none ∧ Q v H1
/-- e.f = value -/
def sFld (K : PySem.W.Frag) (ta tv : TE) (f : Str) : TS := fun D σ H => tv σ H fun y H1 => ta σ H1 fun x H2 => ∃ a C dx fs, x = .ref a ∧ H2 a = some (.ins C dx fs) ∧ Cls K C ∧ NoAttr K C f ∧ fs.length < 1000 ∧
  D.nx σ (upd H2 a (.ins C dx (putF f y fs)))
/-- an augmented operator on two values -/
def InOp (X : Cx) (op : Operator) (rd : V → V → Hp → VK → Prop) : Prop :=
  ∀ (pins : List (Addr × Obj)) (s : Shared) (σ : St) (H : Hp) (x y : V) (u v : Value) (Q : VK), Inv X pins σ H s → RelV x u → RelV y v → rd x y H Q → wpAny (model X.prog X.w) X.A (inplaceOp op u v) (EP X pins σ Q) X.xe s
/-- e.f op= value -/
def sFldAug (K : PySem.W.Frag) (ta tv : TE) (rd : V → V → Hp → VK → Prop) (f : Str) : TS := fun D σ H => ta σ H fun x H1 => ∃ a C dx fs v, x = .ref a ∧ H1 a = some (.ins C dx fs) ∧ Cls K C ∧ NoAttr K C f ∧ fs.lookup f = some v ∧
  tv σ H1 fun y H2 => rd v y H2 fun z H3 => ∃ dx' fs', H3 a = some (.ins C dx' fs') ∧ fs'.length < 1000 ∧ D.nx σ (upd H3 a (.ins C dx' (putF f z fs')))

section
variable {X : Cx} {o e value : Expr} {f : Str} {pos pos' tpos : Pos} {ta tv : TE}
def rAdd : V → V → Hp → VK → Prop := fun x y H Q => ∃ i j, x = .int i ∧ y = .int j ∧ Q (.int (i + j)) H
def rSub : V → V → Hp → VK → Prop := fun x y H Q => ∃ i j, x = .int i ∧ y = .int j ∧ Q (.int (i - j)) H
end

/-! ### isinstance -/
section
variable {X : Cx} {pins : List (Addr × Obj)} {σ : St} {H : Hp} {s : Shared} {A : Around} {E : Value → Shared → Prop} {Q : Value → Shared → Prop} {c : Value} {b : Bool}
/-- the type of a value, as the fragment's deciders take it; for an instance its class -/
inductive TyOf (K : PySem.W.Frag) (H : Hp) : V → Value → Prop where
  | non : TyOf K H .non (.type "NoneType")
  | bl (x : Bool) : TyOf K H (.bl x) (.type "bool")
  | int (i : Int) : TyOf K H (.int i) (.type "int")
  | str (x : Str) : TyOf K H (.str x) (.type "str")
  | flt (x : UInt64) : TyOf K H (.flt x) (.type "float")
  | lst {a : Addr} {xs : List V} (e : H a = some (.lst xs)) : TyOf K H (.ref a) (.type "list")
  | frz {a : Addr} {o : Obj} {xs : List V} (e : H a = some (.frz o (.lst xs))) : TyOf K H (.ref a) (.type "list")
  | tup {a : Addr} {xs : List V} (e : H a = some (.tup xs)) : TyOf K H (.ref a) (.type "tuple")
  | dK {a : Addr} {kvs : List (Key × V)} (e : H a = some (.dK kvs)) : TyOf K H (.ref a) (.type "dict")
  | dT {a : Addr} {kvs : List (List Key × V)} (e : H a = some (.dT kvs)) : TyOf K H (.ref a) (.type "dict")
  | ins {a C dx : Addr} {fs : List (Str × V)} (e : H a = some (.ins C dx fs)) (cl : Cls K C) (ha : PySem.W.findIn K (.ref C) "__class__" = some (some (.builtin "object.__class__")))
      (hn : PySem.W.specialIn K (.builtin "object.__class__") "__get__" = some (some (.builtin "getset_descriptor.__get__"))) (htk : PySem.W.takesIn K (.builtin "object.__class__") = some true)
      (hm : PySem.W.mroIn K C (.type "object") = some true) : TyOf K H (.ref a) (.ref C)
/-- isinstance(x, c) for one class c, a built-in or an own one: kitOne's answer -/
theorem isinst_ok {x : V} {u t : Value} (I : Inv X pins σ H s) (rx : RelV x u) (ty : TyOf X.K H x t) (e : PySem.W.kitOne X.K t c = some b) (h : ∀ tk, Q (.bool b) { s with toks := tk }) :
    wpAny (model X.prog X.w) A (call (.builtin "isinstance") [u, c]) Q E s := by
  cases ty with
  | non => cases (show u = Value.none from rx); exact PySem.W.kia_one PySem.W.kitx_none I.kIn True.intro e (fun z => nomatch z) h
  | bl y => cases (show u = Value.bool y from rx); exact PySem.W.kia_one PySem.W.kitx_bool I.kIn True.intro e (fun z => nomatch z) h
  | int i => obtain ⟨t, q⟩ := (show ∃ t, u = Value.int i t from rx); cases q; exact PySem.W.kia_one PySem.W.kitx_int I.kIn True.intro e (fun z => nomatch z) h
  | str y => obtain ⟨t, q⟩ := (show ∃ t, u = Value.str y t from rx); cases q; exact PySem.W.kia_one PySem.W.kitx_str I.kIn True.intro e (fun z => nomatch z) h
  | flt y => obtain ⟨t, q⟩ := (show ∃ t, u = Value.float y t from rx); cases q; exact PySem.W.kia_one PySem.W.kitx_float I.kIn True.intro e (fun z => nomatch z) h
  | @lst a xs ea =>
    cases (show u = Value.ref a from rx)
    obtain ⟨_, _, n, _, h1⟩ := (show ObjOk X.prog X.w H s.heap a (.lst xs) from I.hok a _ ea)
    exact PySem.W.kia_one PySem.W.kitx_list I.kIn ⟨_, h1, rfl⟩ e (fun z => nomatch z) h
  | @frz a ob xs ea =>
    cases (show u = Value.ref a from rx)
    obtain ⟨_, _, _, n, _, h1⟩ := (show ObjOk X.prog X.w H s.heap a (.frz ob (.lst xs)) from I.hok a _ ea)
    exact PySem.W.kia_one PySem.W.kitx_list I.kIn ⟨_, h1, rfl⟩ e (fun z => nomatch z) h
  | @tup a xs ea =>
    cases (show u = Value.ref a from rx)
    obtain ⟨_, _, _, p⟩ := (show ObjOk X.prog X.w H s.heap a (.tup xs) from I.hok a _ ea)
    obtain ⟨o, h1, h2, _⟩ := p
    exact PySem.W.kia_one PySem.W.kitx_tuple I.kIn ⟨o, h1, h2⟩ e (fun z => nomatch z) h
  | @dK a kvs ea =>
    cases (show u = Value.ref a from rx)
    obtain ⟨_, _, vs, _, p⟩ := (show ObjOk X.prog X.w H s.heap a (.dK kvs) from I.hok a _ ea)
    obtain ⟨o, es, ep, h1, h2, _⟩ := p
    exact PySem.W.kia_one PySem.W.kitx_dict I.kIn ⟨o, h1, h2.1⟩ e (fun z => nomatch z) h
  | @dT a kvs ea =>
    cases (show u = Value.ref a from rx)
    obtain ⟨_, _, xs, _, o, es, ep, h1, h2, _⟩ := (show ObjOk X.prog X.w H s.heap a (.dT kvs) from I.hok a _ ea)
    exact PySem.W.kia_one PySem.W.kitx_dict I.kIn ⟨o, h1, h2.1⟩ e (fun z => nomatch z) h
  | @ins a C dx fs ea cl ha hn htk hm =>
    cases (show u = Value.ref a from rx)
    obtain ⟨mA, O, _⟩ := ins_get I.hok ea
    obtain ⟨od, J, _⟩ := O.look
    exact PySem.W.kia_one (PySem.W.kitx_own (cl.get _) cl.hd ha hn htk hm) I.kIn J e (fun z => nomatch z) h
end
end L2

namespace L2
open PySem PySem.Spec PyProof.Rows

/-! ### room -/
structure Room (k : Nat) (A : Around) : Prop where
  hd : A.handled = none
  dp : A.depth + 3 * k + 5 < recursionLimit
  un : A.units + 16 * k + 200 < cLine
theorem Room.mono {j k : Nat} {A : Around} (r : Room k A) (h : j ≤ k) : Room j A := ⟨r.hd, by have := r.dp; omega, by have := r.un; omega⟩
theorem Room.deeper {k : Nat} {A : Around} (r : Room (k + 1) A) (env : Env) : Room k (A.deeper env) :=
  ⟨r.hd, by have := r.dp; show A.depth + 1 + 3 * k + 5 < _; omega, by have := r.un; show A.units + 3 + 16 * k + 200 < _; omega⟩
theorem Room.in1 {k : Nat} {A : Around} (r : Room (k + 1) A) : Room k A.in1 :=
  ⟨r.hd, by have := r.dp; show A.depth + 3 * k + 5 < _; omega, by have := r.un; show A.units + 1 + 16 * k + 200 < _; omega⟩
theorem make_depth {A : Around} {C : Addr} {us : List Value} {kw : List (Str × Value)} : (A.under (.builtin "type.__call__" ⟨.ref C :: us, kw⟩)).depth = A.depth + 1 := by
  first | rfl | simp [Around.under, Code.weight, Code.isCreation, Code.isGuard, Code.isCaller, Code.frames, Code.isFrame, guardIds]
theorem make_units {A : Around} {C : Addr} {us : List Value} {kw : List (Str × Value)} : (A.under (.builtin "type.__call__" ⟨.ref C :: us, kw⟩)).units = A.units + 1 := by
  first | rfl | simp [Around.under, Code.cUnits, Code.frames, Code.isFrame]
theorem Room.make {k : Nat} {A : Around} (r : Room (k + 1) A) (C : Addr) (us : List Value) (kw : List (Str × Value)) : Room k (A.under (.builtin "type.__call__" ⟨.ref C :: us, kw⟩)) :=
  ⟨r.hd, by have := r.dp; rw [make_depth]; omega, by have := r.un; rw [make_units]; omega⟩
theorem Room.depth {k : Nat} {A : Around} (r : Room k A) : A.depth < recursionLimit := by have := r.dp; omega
theorem Room.units {k : Nat} {A : Around} (r : Room k A) : A.units + 64 < cLine := by have := r.un; omega
/-! ### argument lists and displays -/
def tNil : TA := fun _ H Q => Q [] H
def tCons (ta : TE) (tr : TA) : TA := fun σ H Q => ta σ H fun x H1 => tr σ H1 fun xs H2 => Q (x :: xs) H2
section
variable {X : Cx} {e : Expr} {es : List Expr} {te : TE} {t : TA} {pos : Pos}
theorem pa_nil : PA X [] tNil := fun _ _ _ _ H Q I h => Calls.spliced_nil ⟨[], H, I, .nil, h⟩
theorem pa_cons (ha : PE X e te) (hr : PA X es t) (hs : starEach (e :: es) X.env = (false, eval e X.env) :: starEach es X.env := by rfl) : PA X (e :: es) (tCons te t) := by
  intro pos pins s σ H Q I h
  rw [hs]
  show wpAny _ _ (spliced ((false, eval e X.env) :: backTo pos (starEach es X.env))) _ _ s
  refine Calls.spliced_cons (thn (ha pins s σ H _ I h) fun u s1 ⟨x, H1, I1, r1, q1⟩ => ?_)
  exact thn (hr pos pins s1 σ H1 _ I1 q1) fun us s2 ⟨xs, H2, I2, r2, q2⟩ => ⟨x :: xs, H2, I2, .cons r1 r2, q2⟩

/-- a tuple, a list of written items -/
def tTup (t : TA) : TE := fun σ H Q => t σ H fun xs H1 => xs.length ≤ sizeLine ∧ ∀ p, H1 p = none → Q (.ref p) (upd H1 p (.tup xs))
def tLst (t : TA) : TE := fun σ H Q => t σ H fun xs H1 => xs.length ≤ sizeLine ∧ ∀ p, H1 p = none → Q (.ref p) (upd H1 p (.lst xs))
end

/-! ### what a def promises -/
/-- a def's promise: the bound arguments in the parameters' order, the heap, the wanted end, the wanted exception -/
abbrev Sp := List V → Hp → VK → XK → Prop
/-- how an exception lies behind a call (file 08 gives it): the callers' frames, abstract heap and state ahead of the call, the wish, the exception, the state -/
abbrev CXT := List Env → Hp → Shared → XK → Value → Shared → Prop

/-- the state at a call -/
structure Env0 (P : Program) (w : World) (K : PySem.W.Frag) (mg : Str → Option Value) (base : Heap) (A : Around) (outer : List Env) (s : Shared) (H : Hp) : Prop where
  frames : A.frames = some outer
  mod : Mod K mg base
  bs : ∀ b o, base.get? b = some o → s.heap.get? b = some o ∧ H b = none
  bsz : base.objs.size ≤ s.heap.objs.size
  funs : s.heap.FunFrames base outer
  frf : ∀ b ∈ frs outer, H b = none
  hok : HOk P w H s.heap
  bare : AllBare s.gens
/-- a call's end -/
def CE (outer : List Env) (P : Program) (w : World) (H : Hp) (s : Shared) (Q : VK) (u : Value) (s' : Shared) : Prop :=
  ∃ v H', s'.os = s.os ∧ AllBare s'.gens ∧ Un (frs outer) [] H H' s.heap s'.heap ∧ HOk P w H' s'.heap ∧ RelV v u ∧ Q v H'
def CR (CX : CXT) (outer : List Env) (P : Program) (w : World) (H : Hp) (s : Shared) (Q : VK) (E : XK) (r : Result) (s' : Shared) : Prop :=
  match r with
  | .ok (.ret u) => CE outer P w H s Q u s'
  | .ok _ => False
  | .error e => CX outer H s E e s'
structure FnOk (P : Program) (w : World) (K : PySem.W.Frag) (mg : Str → Option Value) (base : Heap) (CX : CXT) (k : Nat) (f : Addr) (fd : FuncData) (ps : List Str) (sp : Sp) : Prop where
  len : ∀ vs H Q E, sp vs H Q E → vs.length = ps.length
  run : ∀ (A : Around) (outer : List Env) (s : Shared) (H : Hp) (args : Args) (us : List Value) (vs : List V) (Q : VK) (E : XK), Room k A → Env0 P w K mg base A outer s H → BindsTo s fd args (ps.zip us) → Vals vs us → sp vs H Q E →
    codeAny (model P w) A (.call (.ref f) args) (CR CX outer P w H s Q E) s
theorem FnOk.mono {P : Program} {w : World} {K : PySem.W.Frag} {mg : Str → Option Value} {base : Heap} {CX : CXT} {j k : Nat} {f : Addr} {fd : FuncData} {ps : List Str} {sp : Sp} (F : FnOk P w K mg base CX j f fd ps sp) (h : j ≤ k) :
    FnOk P w K mg base CX k f fd ps sp := ⟨F.len, fun A outer s H args us vs Q E hr => F.run A outer s H args us vs Q E (hr.mono h)⟩
/-- a weaker promise -/
theorem FnOk.imp {P : Program} {w : World} {K : PySem.W.Frag} {mg : Str → Option Value} {base : Heap} {CX : CXT} {k : Nat} {f : Addr} {fd : FuncData} {ps : List Str} {sp sp' : Sp} (F : FnOk P w K mg base CX k f fd ps sp)
    (h : ∀ vs H Q E, sp' vs H Q E → sp vs H Q E) : FnOk P w K mg base CX k f fd ps sp' :=
  ⟨fun vs H Q E q => F.len vs H Q E (h _ _ _ _ q), fun A outer s H args us vs Q E hr he hb hv hs => F.run A outer s H args us vs Q E hr he hb hv (h _ _ _ _ hs)⟩

theorem Env0.make {P : Program} {w : World} {K : PySem.W.Frag} {mg : Str → Option Value} {base : Heap} {A : Around} {outer : List Env} {s : Shared} {H : Hp} (e : Env0 P w K mg base A outer s H) (C : Addr) (us : List Value) (kw : List (Str × Value)) :
    Env0 P w K mg base (A.under (.builtin "type.__call__" ⟨.ref C :: us, kw⟩)) outer s H := ⟨by first | exact e.frames | (simpa [Around.under, Code.envs, Code.isFrame, pushEnvs] using e.frames), e.mod, e.bs, e.bsz, e.funs, e.frf, e.hok, e.bare⟩
theorem Env0.in1 {P : Program} {w : World} {K : PySem.W.Frag} {mg : Str → Option Value} {base : Heap} {A : Around} {outer : List Env} {s : Shared} {H : Hp} (e : Env0 P w K mg base A outer s H) :
    Env0 P w K mg base A.in1 outer s H := ⟨e.frames, e.mod, e.bs, e.bsz, e.funs, e.frf, e.hok, e.bare⟩

section
variable {X : Cx} {pins : List (Addr × Obj)} {σ : St} {H : Hp} {s s' : Shared}
/-- from a body: what a callee wants -/
theorem Inv.env0 (I : Inv X pins σ H s) : Env0 X.prog X.w X.K X.mg X.base X.A X.stack s H :=
  ⟨I.ok.frames, I.ok.mod, I.bs, Nat.le_trans I.ok.bsz I.sz, I.stack, I.stkFree, I.hok, I.bare⟩
/-- behind a call -/
theorem Inv.after {Q : VK} {u : Value} (I : Inv X pins σ H s) (h : CE X.stack X.prog X.w H s Q u s') : EP X pins σ Q u s' := by
  obtain ⟨v, H', os, bare, un, hok, r, q⟩ := h
  obtain ⟨hh, g, d, t, os'⟩ := s'
  obtain rfl : os' = s.os := os
  exact ⟨v, H', I.call (h' := hh) (g' := g) (d' := d) (t' := t) (ch := []) un hok bare (fun b z => absurd z (by simp)), r, q⟩
end

/-! ### calls -/
/-- f(..): the written arguments, then the defaults dvs; E: what is wanted of an exception -/
def tCall (sp : Sp) (dvs : List V) (E : XK) (t : TA) : TE := fun σ H Q => t σ H fun vs H1 => sp (vs ++ dvs) H1 Q E
/-- o.m(..) of an instance of the class at C -/
def tMeth (C : Addr) (m : Str) (sp : Sp) (dvs : List V) (E : XK) (ta : TE) (t : TA) : TE := fun σ H Q => ta σ H fun x H1 => ∃ a dx fs, x = .ref a ∧ H1 a = some (.ins C dx fs) ∧ fs.lookup m = none ∧
  t σ H1 fun vs H2 => sp (x :: (vs ++ dvs)) H2 Q E
/-- C(..): a new instance and its dict, then __init__ -/
def tMake (C : Addr) (sp : Sp) (dvs : List V) (E : XK) (t : TA) : TE := fun σ H Q => t σ H fun vs H1 => ∀ x dx, H1 x = none → H1 dx = none → dx ≠ x →
  sp (.ref x :: (vs ++ dvs)) (upd (upd H1 dx (.own x)) x (.ins C dx [])) (fun v H2 => v = .non ∧ Q (.ref x) H2) E

/-- how the parameters are bound: us the positional arguments, kw the keywords' values by name, ds the defaults that fill up -/
def Binds (K : PySem.W.Frag) (fd : FuncData) (ps : List Str) (ds : List Value) : Prop :=
  ∀ (s : Shared) (us : List Value), K.In s.heap → (us ++ ds).length = ps.length → BindsTo s fd ⟨us, []⟩ (ps.zip (us ++ ds))
/-- every parameter is given -/
theorem Binds.all {K : PySem.W.Frag} {fd : FuncData} {ps : List Str} (h : ∀ us : List Value, us.length = ps.length → bindArgs fd ⟨us, []⟩ = pure (ps.zip us)) : Binds K fd ps [] := fun s us _ hl => by
  rw [List.append_nil] at hl ⊢
  exact .of_eq (h us hl)

/-- an exception of a callee reaches what this body wants of exceptions -/
def Passes (CX : CXT) (X : Cx) (E : XK) : Prop := ∀ (pins : List (Addr × Obj)) (σ : St) (H : Hp) (s : Shared) (e : Value) (s' : Shared), Inv X pins σ H s → CX X.stack H s E e s' → X.xe e s'

section
variable {X : Cx} {CX : CXT} {k : Nat} {f C : Addr} {fd : FuncData} {ps : List Str} {sp : Sp} {dvs : List V} {ds : List Value} {E : XK} {x m : Str} {p pos apos : Pos} {e o : Expr} {es : List Expr} {ta : TE} {t : TA}

/-- what a class must have to be made -/
structure Mk (K : PySem.W.Frag) (C f : Addr) : Prop where
  makes : PySem.W.makesIn K C = true
  init : PySem.W.findIn K (.ref C) "__init__" = some (some (.ref f))
  fn : PySem.W.isFn K (.ref f) = true
  kp : PySem.W.keepIn K (.ref C) = true

end

/-! ### keywords -/
/-- the values of the keywords, from the left -/
def PK (X : Cx) (kws : List Keyword) (t : TA) : Prop :=
  ∀ (pos : Pos) (pins : List (Addr × Obj)) (s : Shared) (σ : St) (H : Hp) (Q : List V → Hp → Prop), Inv X pins σ H s → t σ H Q → wpAny (model X.prog X.w) X.A (evalAll ((backToKw pos (keywordEach kws X.env)).map (·.2))) (AP X pins σ Q) X.xe s
section
variable {X : Cx} {CX : CXT} {k : Nat} {f C : Addr} {fd : FuncData} {ps ks : List Str} {sp : Sp} {E : XK} {x m : Str} {p pos apos kpos : Pos} {e o : Expr} {es : List Expr} {kws : List Keyword} {te ta : TE} {t tk : TA} {nm : Option Str}
theorem pk_nil : PK X [] tNil := fun _ _ _ _ H Q I h => wpAny_evalAll_nil ⟨[], H, I, .nil, h⟩
theorem pk_cons (ha : PE X e te) (hr : PK X kws t) : PK X (⟨nm, e, kpos⟩ :: kws) (tCons te t) := by
  intro pos pins s σ H Q I h
  show wpAny _ _ (evalAll ((do let v ← eval e X.env; standAt pos; pure v) :: (backToKw pos (keywordEach kws X.env)).map (·.2))) _ _ s
  refine wpAny_evalAll_cons (wpAny_bind (thn (ha pins s σ H _ I h) fun u s1 ⟨x, H1, I1, r1, q1⟩ => wpAny_bind (wpAny_standAt (wpAny_pure ?_))))
  exact thn (hr pos pins s1 σ H1 _ I1 q1) fun us s2 ⟨xs, H2, I2, r2, q2⟩ => ⟨x :: xs, H2, I2, .cons r1 r2, q2⟩

/-- how a call with keywords binds: g puts the positional values us and the keywords' values ws (names ks) in the parameters' order, defaults among them -/
structure KBinds (K : PySem.W.Frag) (fd : FuncData) (ps ks : List Str) (g : List Value → List Value → List Value) (gV : List V → List V → List V) : Prop where
  to : ∀ (s : Shared) (us ws : List Value), K.In s.heap → (g us ws).length = ps.length → BindsTo s fd ⟨us, ks.zip ws⟩ (ps.zip (g us ws))
  rel : ∀ {vs : List V} {us : List Value} {zs : List V} {ws : List Value}, Vals vs us → Vals zs ws → Vals (gV vs zs) (g us ws)
def tCallK (sp : Sp) (gV : List V → List V → List V) (E : XK) (t tk : TA) : TE := fun σ H Q => t σ H fun vs H1 => tk σ H1 fun zs H2 => sp (gV vs zs) H2 Q E
variable {g : List Value → List Value → List Value} {gV : List V → List V → List V}
end

/-! ### a def's body keeps its promise -/
/-- names: the parameters first -/
structure FnScope (N P : List Str) (sc : Scope) : Prop where
  kind : sc.kind = .function
  co : sc.isCoroutine = false
  gen : sc.isGenerator = false
  nd : N.Nodup
  pre : N.take P.length = P
  par : ∀ x ∈ P, sc.names.lookup x = some .local ∨ sc.names.lookup x = some .cell
  nofree : ∀ y ∈ sc.names, y.2 ≠ .free

theorem bindL_out {kindOf : Str → Option NameKind} {x : Str} : ∀ {binds : List (Str × Value)} {m : Str → Option Value}, (∀ v, (x, v) ∉ binds) → bindL kindOf binds m x = m x
  | [], _, _ => rfl
  | (n, v) :: r, m, h => by
    unfold bindL
    rw [bindL_out fun w hw => h w (List.mem_cons_of_mem _ hw)]
    split
    · have : x ≠ n := by rintro rfl; exact h v List.mem_cons_self
      simp [this]
    · rfl
theorem bindC_out {kindOf : Str → Option NameKind} {x : Str} : ∀ {binds : List (Str × Value)} {m : Str → Option Value}, (∀ v, (x, v) ∉ binds) → bindC kindOf binds m x = m x
  | [], _, _ => rfl
  | (n, v) :: r, m, h => by
    unfold bindC
    rw [bindC_out fun w hw => h w (List.mem_cons_of_mem _ hw)]
    split
    · rfl
    · have : x ≠ n := by rintro rfl; exact h v List.mem_cons_self
      simp [this]
theorem bindL_get {kindOf : Str → Option NameKind} {x : Str} {v : Value} : ∀ {P : List Str} {vs : List Value} {i : Nat} {m : Str → Option Value}, P.Nodup → P[i]? = some x → vs[i]? = some v → kindOf x = some .local →
    bindL kindOf (P.zip vs) m x = some v
  | [], _, _, _, _, h, _, _ => by simp at h
  | _ :: _, [], _, _, _, _, h, _ => by simp at h
  | p :: P, w :: vs, 0, m, nd, h1, h2, hk => by
    simp at h1 h2; subst h1; subst h2
    show bindL kindOf ((p, w) :: P.zip vs) m p = _
    unfold bindL
    rw [bindL_out fun v hv => (List.nodup_cons.mp nd).1 (List.of_mem_zip hv).1, if_pos hk]
    simp
  | p :: P, w :: vs, i + 1, m, nd, h1, h2, hk => by
    show bindL kindOf ((p, w) :: P.zip vs) m x = _
    unfold bindL
    exact bindL_get (i := i) (List.nodup_cons.mp nd).2 (by simpa using h1) (by simpa using h2) hk
theorem bindC_get {kindOf : Str → Option NameKind} {x : Str} {v : Value} : ∀ {P : List Str} {vs : List Value} {i : Nat} {m : Str → Option Value}, P.Nodup → P[i]? = some x → vs[i]? = some v → kindOf x ≠ some .local →
    bindC kindOf (P.zip vs) m x = some v
  | [], _, _, _, _, h, _, _ => by simp at h
  | _ :: _, [], _, _, _, _, h, _ => by simp at h
  | p :: P, w :: vs, 0, m, nd, h1, h2, hk => by
    simp at h1 h2; subst h1; subst h2
    show bindC kindOf ((p, w) :: P.zip vs) m p = _
    unfold bindC
    rw [bindC_out fun v hv => (List.nodup_cons.mp nd).1 (List.of_mem_zip hv).1, if_neg hk]
    simp
  | p :: P, w :: vs, i + 1, m, nd, h1, h2, hk => by
    show bindC kindOf ((p, w) :: P.zip vs) m x = _
    unfold bindC
    exact bindC_get (i := i) (List.nodup_cons.mp nd).2 (by simpa using h1) (by simpa using h2) hk

/-- the names' values at the entry -/
def start (N : List Str) (vs : List V) : St := vs.map some ++ List.replicate (N.length - vs.length) none

/-- the context of a def's body, at its entry; an exception leaves the frame, then lies as CX says -/
def cxOf (CX : CXT) (P : Program) (w : World) (K : PySem.W.Frag) (mg : Str → Option Value) (base : Heap) (N : List Str) (qual : Str) (scope : Scope) (f : Addr) (cd : Value) (A : Around) (outer : List Env) (s : Shared) (H : Hp) (E : XK) : Cx where
  prog := P
  w := w
  K := K
  mg := mg
  base := base
  A := A.deeper (envOfC qual scope s.heap.objs.size f cd)
  N := N
  s₀ := s
  H₀ := H
  env := envOfC qual scope s.heap.objs.size f cd
  outer := outer
  stack := envOfC qual scope s.heap.objs.size f cd :: outer
  ex := []
  calm := true
  fn := fun _ => true
  pn := []
  xe := fun e s' => wpAny (model P w) (A.deeper (envOfC qual scope s.heap.objs.size f cd)) (leaving (envOfC qual scope s.heap.objs.size f cd) e) (fun _ s'' => CX outer H s E e s'') (fun e' s'' => CX outer H s E e' s'') s'

theorem cell_has {sc : Scope} {n : Nat} {x : Str} (h : sc.names.lookup x = some .cell) : ∃ c, (cellsFrom n sc.names []).lookup x = some c := by
  have q := PySem.W.cellsFrom_some sc.names n [] (.inl h)
  exact Option.isSome_iff_exists.mp q

theorem inv_start {CX : CXT} {P : Program} {w : World} {K : PySem.W.Frag} {mg : Str → Option Value} {base : Heap} {N ps : List Str} {qual : Str} {scope : Scope} {f : Addr} {cd : Value} {A : Around} {outer : List Env} {s s1 : Shared} {H : Hp} {E : XK} {us : List Value} {vs : List V}
    (S : FnScope N ps scope) (hd : A.handled = none) (e0 : Env0 P w K mg base A outer s H) (hl : vs.length = ps.length) (r : Vals vs us)
    (x : InCallC s s.heap.objs.size (bindL (envOfC qual scope s.heap.objs.size f cd).kindOf (ps.zip us) fun _ => none) (cellsFrom (s.heap.objs.size + 1) scope.names []) (bindC (envOfC qual scope s.heap.objs.size f cd).kindOf (ps.zip us) fun _ => none) s1) :
    Inv (cxOf CX P w K mg base N qual scope f cd A outer s H E) [] (start N vs) H s1 := by
  have hpl : ps.length ≤ N.length := by have := congrArg List.length S.pre; rw [List.length_take] at this; omega
  obtain ⟨h1, tk, rfl, hk⟩ := x.done
  have noA : ∀ b : Addr, b ∉ (cxOf CX P w K mg base N qual scope f cd A outer s H E).ex := fun b z => absurd (show b ∈ ([] : List Addr) from z) (by simp)
  refine ⟨⟨e0.mod, S.kind, rfl, rfl, Nat.le_refl _, fun y z c h1 h2 => ?_, fun y hy => ?_, fun y c _ h => ?_, fun _ => hd, Around.frames_deeper e0.frames, .inr ⟨rfl, rfl⟩, fun b z => absurd z (noA b), e0.bs, e0.bsz, fun b _ _ => noA b, fun b z => absurd z (noA b), e0.funs, e0.frf⟩,
    rfl, e0.bare, Un.kept hk, ⟨_, x.toInCall.ns, fun i y v h1 h2 h3 => ?_⟩, fun y c h => ⟨_, x.cell y c h⟩, e0.hok.fresh (Nat.le_refl _), fun y c h => ?_, fun p hp => absurd (show p ∈ ([] : List (Addr × Obj)) from hp) (by simp), e0.hok.kept hk, ?_⟩
  · exact name_of_addr x.apart (PySem.mem_of_lookup h1) (PySem.mem_of_lookup h2)
  · have hy : scope.names.lookup y = some .cell ∨ scope.names.lookup y = some .free := hy
    rcases hy with hy | hy
    · exact cell_has hy
    · exact absurd rfl (S.nofree _ (PySem.mem_of_lookup hy))
  · exact Nat.le_of_lt (x.above y c (PySem.mem_of_lookup h))
  · have hi : i < vs.length := by
      unfold start at h2
      by_cases hi : i < vs.length
      · exact hi
      · rw [List.getElem?_append_right (by simpa using hi)] at h2
        rw [List.getElem?_replicate] at h2
        split at h2 <;> cases h2
    have ha : vs[i]? = some v := by
      unfold start at h2
      rw [List.getElem?_append_left (by simpa using hi), List.getElem?_map] at h2
      cases e : vs[i]? with
      | none => rw [e] at h2; cases h2
      | some a => rw [e] at h2; cases h2; rfl
    obtain ⟨u, hu, rv⟩ := r.get ha
    have hp : ps[i]? = some y := by
      rw [← S.pre, List.getElem?_take_of_lt (by omega)]; exact h1
    have ndP : ps.Nodup := by rw [← S.pre]; exact S.nd.sublist (List.take_sublist _ _)
    refine ⟨u, rv, ?_⟩
    rcases S.par y (List.mem_of_getElem? hp) with k | k
    · exact .inl ⟨k, bindL_get ndP hp hu k⟩
    · obtain ⟨c, e⟩ := cell_has (n := s.heap.objs.size + 1) k
      refine .inr ⟨.inl k, c, e, ?_⟩
      have q := x.cell y c e
      rw [bindC_get ndP hp hu (by show scope.names.lookup y ≠ _; rw [k]; decide)] at q
      exact q
  · exact e0.hok.fresh (Nat.le_of_lt (x.above y c (PySem.mem_of_lookup h)))
  · unfold start
    show _ = N.length
    rw [List.length_append, List.length_map, List.length_replicate]
    omega

/-- THE RULE: a def (or a method) of the text, by its body. The body's reading t is chosen for each entry; it is run at the parameters' values -/
theorem fn_of {CX : CXT} {P : Program} {w : World} {K : PySem.W.Frag} {mg : Str → Option Value} {base : Heap} {k : Nat} {f : Addr} {name qual : Str} {params : Arguments} {body : List Stmt} {scope : Scope} {dV kV doc pm cdv ct oc : Value} {an od : Option Addr}
    {osl : Array (Option Value)} {N ps : List Str} {sp : Sp} (lk : K.lookup f = some ⟨oc, od, .func (PySem.W.fnOf name qual params body scope dV kV doc pm an cdv ct), osl⟩) (hcd : PySem.W.codeIn K cdv qual = true) (S : FnScope N ps scope)
    (len : ∀ vs H Q E, sp vs H Q E → vs.length = ps.length)
    (hbody : ∀ (A : Around) (outer : List Env) (s : Shared) (H : Hp) (vs : List V) (Q : VK) (E : XK), Room k (A.deeper (envOfC qual scope s.heap.objs.size f cdv)) → sp vs H Q E →
      ∃ t, PSs (cxOf CX P w K mg base N qual scope f cdv A outer s H E) body t ∧ t { nx := fun _ H' => Q .non H', rt := Q } (start N vs) H) :
    FnOk P w K mg base CX (k + 1) f (PySem.W.fnOf name qual params body scope dV kV doc pm an cdv ct) ps sp := by
  refine ⟨len, fun A outer s H args us vs Q E hr e0 hb r hsp => ?_⟩
  have hl := len _ _ _ _ hsp
  have KX : K.In s.heap := e0.mod.kin.keeps fun b o e => (e0.bs b o e).1
  have lim : s.heap.NoLimit := e0.mod.nolimit.keeps fun b o e => (e0.bs b o e).1
  have hkind : ∀ y ∈ ps.zip us, scope.names.lookup y.1 = some .local ∨ (scope.names.lookup y.1 = some .cell ∧ ((cellsFrom (s.heap.objs.size + 1) scope.names []).lookup y.1).isSome = true) := fun ⟨n, v⟩ hy => by
    rcases S.par n (List.of_mem_zip hy).1 with q | q
    · exact .inl q
    · exact .inr ⟨q, PySem.W.cellsFrom_some _ _ _ (.inl q)⟩
  refine codeAny_call_function hr.depth (KX _ _ lk) rfl S.co S.gen rfl (PySem.W.codeRec_of KX hcd) (hb _ _ _ _ ?_)
  refine wpAny_newFunctionEnv_cells S.kind hkind fun env he s1 x => ?_
  subst he
  refine ⟨lim.keeps x.toInCall.keep, codeAny_func ?_⟩
  obtain ⟨t, ht, hq⟩ := hbody A outer s H vs Q E (hr.deeper _) hsp
  have I : Inv (cxOf CX P w K mg base N qual scope f cdv A outer s H E) [] (start N vs) H s1 := inv_start S hr.hd e0 hl r x
  refine wpAny_mono (ht [] s1 (start N vs) H _ I hq) (fun fl s' hs => ?_) fun e s' hs => hs
  have fin : ∀ {σ' : St} {H' : Hp} {v : V} {u : Value}, Inv (cxOf CX P w K mg base N qual scope f cdv A outer s H E) [] σ' H' s' → RelV v u → Q v H' → CE outer P w H s Q u s' :=
    fun {σ' H' v u} J rv q => ⟨v, H', J.os, J.bare, J.base, J.hok, rv, q⟩
  cases fl with
  | ret u =>
    obtain ⟨v, σ', H', J, rv, q⟩ := hs
    exact fin J rv q
  | next =>
    obtain ⟨σ', H', J, q⟩ := hs
    exact fin (v := V.non) (u := Value.none) J rfl q
  | brk =>
    obtain ⟨_, _, _, q⟩ := hs
    exact False.elim q
  | cont =>
    obtain ⟨_, _, _, q⟩ := hs
    exact False.elim q
end L2

namespace L2
open PySem PySem.Spec PyProof.Rows
section
variable {X : Cx} {x : Str} {p pos : Pos} {e : Expr} {es : List Expr} {t : TA} {id T : String} {r : List V → Hp → VK → Prop}

def tCB (r : List V → Hp → VK → Prop) (t : TA) : TE := fun σ H Q => t σ H fun vs H1 => r vs H1 Q
/-- f(e, ..), f a built-in function -/
theorem pe_callB (hc : CallR X (.builtin id) r) (hg : Gl X x) (hm : X.mg x = none) (hv : bootBuiltins x = some (.builtin id)) (ha : PA X (e :: es) t) (hn : x ≠ "__name__" := by decide) (hdb : (x == ("__debug__" : Str)) = false := by decide)
    (he : starEach (e :: es) X.env = (false, eval e X.env) :: starEach es X.env := by rfl) (hpl : (backTo pos (starEach es X.env)).any (·.1) = false := by rfl) : PE X (.Call (.Name x p) (e :: es) [] pos) (tCB r t) := by
  intro pins s σ H Q I h
  refine wpAny_Call_Name_kw (ld_blt I hg hm hv ?_ hn hdb)
  exact PyProof.Rows.callWith_builtin1 (thn (ha pos pins s σ H _ I h) fun us s1 ⟨vs, H1, I1, r1, q1⟩ => hc pins s1 σ H1 vs us Q I1 r1 q1) he hpl
/-- T(e, ..), T a built-in type -/
theorem pe_callTy (hc : CallR X (.type T) r) (hg : Gl X x) (hm : X.mg x = none) (hv : bootBuiltins x = some (.type T)) (ha : PA X (e :: es) t) (hn : x ≠ "__name__" := by decide) (hdb : (x == ("__debug__" : Str)) = false := by decide)
    (he : starEach (e :: es) X.env = (false, eval e X.env) :: starEach es X.env := by rfl) (hpl : (backTo pos (starEach es X.env)).any (·.1) = false := by rfl) : PE X (.Call (.Name x p) (e :: es) [] pos) (tCB r t) := by
  intro pins s σ H Q I h
  refine wpAny_Call_Name_kw (ld_blt I hg hm hv ?_ hn hdb)
  exact PyProof.Rows.callWith_type1 (thn (ha pos pins s σ H _ I h) fun us s1 ⟨vs, H1, I1, r1, q1⟩ => hc pins s1 σ H1 vs us Q I1 r1 q1) he hpl
end
end L2

namespace HT
open PySem PyProof.Rows

/-- t < u of tuples of ints -/
def lexLt : List Int → List Int → Bool
  | [], [] => false
  | [], _ :: _ => true
  | _ :: _, [] => false
  | x :: xs, y :: ys => if x = y then lexLt xs ys else decide (x < y)
section
open PySem.SeqAt
open PySem.AutoSeq1 (wpAny_loadPart')
open PySem.MeetsSeq PySem.MeetsSeq2 PySem.MeetsSeq3

end

section
variable {prog : Program} {w : World} {A : Around} {E : Value → Shared → Prop} {s : Shared}

/-! ### t[a:b], not the whole -/
/-- a slice's bound as a place among n (d where it is left out) -/
def sIx (n d : Nat) : Option Int → Nat
  | none => d
  | some v => if v < 0 then (v + (n : Int)).toNat else min v.toNat n
theorem sIx_none (n d : Nat) : sIx n d none = d := rfl
theorem sIx_nat (n d k : Nat) : sIx n d (some (k : Int)) = min k n := by
  show (if (k : Int) < 0 then ((k : Int) + (n : Int)).toNat else min (k : Int).toNat n) = min k n
  rw [if_neg (by omega), Int.toNat_natCast]
theorem sIx_le (n d : Nat) (hd : d ≤ n) (o : Option Int) : sIx n d o ≤ n := by
  cases o with
  | none => exact hd
  | some v =>
    show (if v < 0 then (v + (n : Int)).toNat else min v.toNat n) ≤ n
    by_cases hv : v < 0
    · rw [if_pos hv]; omega
    · rw [if_neg hv]; exact Nat.min_le_right _ _
end
end HT

namespace L2
open PySem PySem.Spec PyProof.Rows

/-! ### the parts of a slice -/
abbrev TO := St → Hp → (Option Int → Hp → Prop) → Prop
/-- a slice's part (left out, or an int) -/
def PO (X : Cx) (e : Option Expr) (t : TO) : Prop :=
  ∀ (pins : List (Addr × Obj)) (s : Shared) (σ : St) (H : Hp) (Q : Option Int → Hp → Prop), Inv X pins σ H s → t σ H Q →
    wpAny (model X.prog X.w) X.A (evalPart e X.env) (fun u s' => ∃ o H', Inv X pins σ H' s' ∧ IsPart u o ∧ Q o H') X.xe s
def tNoPart : TO := fun _ H Q => Q none H
def tPart (t : TE) : TO := fun σ H Q => t σ H fun x H1 => ∃ i, x = .int i ∧ Q (some i) H1

section
variable {X : Cx} {e : Expr} {te : TE} {lo hi : Option Expr} {tl th : TO} {pos p2 : Pos}

theorem po_none : PO X none tNoPart := by
  intro pins s σ H Q I h
  rw [evalPart_none]
  exact wpAny_pure ⟨none, H, I, .none, h⟩
theorem po_some (h : PE X e te) : PO X (some e) (tPart te) := by
  intro pins s σ H Q I hw
  rw [evalPart_some]
  refine thn (h pins s σ H _ I hw) fun u s1 ⟨x, H1, I1, r1, q1⟩ => ?_
  obtain ⟨i, rfl, q⟩ := q1
  obtain ⟨t, rfl⟩ := r1
  exact ⟨some i, H1, I1, .int i t, q⟩

/-- what a slice of a value is, by values: the slice object stands at sl -/
def SlR (X : Cx) (r : V → Option Int → Option Int → Hp → VK → Prop) : Prop :=
  ∀ (pins : List (Addr × Obj)) (s : Shared) (σ : St) (H : Hp) (x : V) (v vl vu : Value) (lo hi : Option Int) (sl : Addr) (Q : VK), Inv X pins σ H s → RelV x v → s.heap.IsSliceOf sl vl vu .none → IsPart vl lo → IsPart vu hi → r x lo hi H Q →
    ∃ T id, typeLookup (.type T) "__getitem__" = pure (some (.builtin id)) ∧ s.TypeIs v T ∧ wpAny (model X.prog X.w) X.A (getItem v (.ref sl)) (EP X pins σ Q) X.xe s
theorem SlR.or {r r' : V → Option Int → Option Int → Hp → VK → Prop} (h : SlR X r) (h' : SlR X r') : SlR X (fun x lo hi H Q => r x lo hi H Q ∨ r' x lo hi H Q) := by
  intro pins s σ H x v vl vu lo hi sl Q I rx hs pl pu q
  rcases q with q | q
  · exact h pins s σ H x v vl vu lo hi sl Q I rx hs pl pu q
  · exact h' pins s σ H x v vl vu lo hi sl Q I rx hs pl pu q
def tSl (r : V → Option Int → Option Int → Hp → VK → Prop) (te : TE) (tl th : TO) : TE := fun σ H Q => te σ H fun x H1 => tl σ H1 fun l H2 => th σ H2 fun u H3 => r x l u H3 Q
/-- a[lo:hi], any a -/
theorem pe_slice {r : V → Option Int → Option Int → Hp → VK → Prop} (hr : SlR X r) (he : PE X e te) (hl : PO X lo tl) (hu : PO X hi th) : PE X (.Subscript e (.Slice lo hi none p2) pos) (tSl r te tl th) := by
  intro pins s σ H Q I h
  refine Subscript_ (thn (he pins s σ H _ I h) fun v s1 ⟨x, H1, I1, r1, q1⟩ => ?_)
  refine wpAny_Slice (thn (hl pins s1 σ H1 _ I1 q1) fun vl s2 ⟨l, H2, I2, pl, q2⟩ => thn (hu pins s2 σ H2 _ I2 q2) fun vu s3 ⟨u, H3, I3, pu, q3⟩ => ?_)
  rw [evalPart_none]
  refine wpAny_pure ?_
  have I4 : Inv X pins σ H3 { s3 with heap := s3.heap.push { cls := .type "slice", data := .fields #[vl, vu, .none] } } := I3.kept (t' := s3.toks) fun b ob q => Heap.get?_push_of_some _ q
  obtain ⟨T, id, hT, ht, hg⟩ := hr pins { s3 with heap := s3.heap.push { cls := .type "slice", data := .fields #[vl, vu, .none] } } σ H3 x v vl vu l u s3.heap.objs.size Q I4 r1 (Heap.IsSliceOf.new ..) pl pu q3
  show wpAny (model X.prog X.w) X.A (subscriptTail e (.Slice lo hi none p2) v (.ref s3.heap.objs.size)) (EP X pins σ Q) X.xe { s3 with heap := s3.heap.push { cls := .type "slice", data := .fields #[vl, vu, .none] } }
  exact tail_any (ops := [.ref s3.heap.objs.size, v]) ht hT hg (by with_unfolding_all rfl)

/-- the items of xs[lo:hi] -/
def cutV (xs : List V) (lo hi : Option Int) : List V := (xs.drop (HT.sIx xs.length 0 lo)).take (HT.sIx xs.length xs.length hi - HT.sIx xs.length 0 lo)
theorem cutV_length (xs : List V) (lo hi : Option Int) : (cutV xs lo hi).length ≤ xs.length := by
  unfold cutV
  rw [List.length_take, List.length_drop]
  omega
/-- t[lo:hi], not the whole of it (the whole would be t itself) -/
def rSlT (K : PySem.W.Frag) : V → Option Int → Option Int → Hp → VK → Prop := fun x lo hi H Q => ∃ a xs, x = .ref a ∧ SqT K H a xs ∧
  ¬ (HT.sIx xs.length 0 lo = 0 ∧ HT.sIx xs.length xs.length hi = xs.length) ∧ ∀ p, H p = none → Q (.ref p) (upd H p (.tup (cutV xs lo hi)))
/-! ### t < u, t + u -/
def rLtT (K : PySem.W.Frag) : R2 := fun x y H Q => ∃ a b ns ms, x = .ref a ∧ y = .ref b ∧ SqT K H a (ns.map V.int) ∧ SqT K H b (ms.map V.int) ∧ Q (.bl (HT.lexLt ns ms)) H
/-- t + u, t not empty: u empty gives t itself -/
def rCatT (K : PySem.W.Frag) : R2 := fun x y H Q => ∃ a b xs ys, x = .ref a ∧ y = .ref b ∧ SqT K H a xs ∧ SqT K H b ys ∧ xs ≠ [] ∧ xs.length + ys.length ≤ sizeLine ∧
  (ys = [] → Q (.ref a) H) ∧ (ys ≠ [] → ∀ p, H p = none → Q (.ref p) (upd H p (.tup (xs ++ ys))))
end
end L2

namespace L2
open PySem PySem.Spec PyProof.Rows

/-! ### places -/
/-- the place that an index of any sign means -/
def ixN (n : Nat) (i : Int) : Option Nat := if 0 ≤ i then (if i < n then some i.toNat else none) else if -(n : Int) ≤ i then some (i + n).toNat else none
def atI {α : Type} (xs : List α) (i : Int) : Option α := (ixN xs.length i).bind fun j => xs[j]?
theorem ixN_seq {n : Nat} {i : Int} {j : Nat} (h : ixN n i = some j) : seqIndex? i n = some j ∧ j < n ∧ -(n : Int) ≤ i ∧ i < n := by
  unfold ixN at h
  by_cases h0 : 0 ≤ i
  · rw [if_pos h0] at h
    by_cases h1 : i < n
    · rw [if_pos h1] at h
      have e : i.toNat = j := Option.some.inj h
      exact ⟨by rw [seqIndex_of h0 h1, e], by omega, by omega, h1⟩
    · rw [if_neg h1] at h; cases h
  · rw [if_neg h0] at h
    by_cases h1 : -(n : Int) ≤ i
    · rw [if_pos h1] at h
      have e : (i + n).toNat = j := Option.some.inj h
      exact ⟨by rw [seqIndex_neg (by omega) h1, e], by omega, h1, by omega⟩
    · rw [if_neg h1] at h; cases h
theorem atI_get {α : Type} {xs : List α} {i : Int} {v : α} (h : atI xs i = some v) : ∃ j, seqIndex? i xs.length = some j ∧ xs[j]? = some v ∧ j < xs.length ∧ -(xs.length : Int) ≤ i ∧ i < xs.length := by
  unfold atI at h
  cases e : ixN xs.length i with
  | none => rw [e] at h; cases h
  | some j =>
    rw [e] at h
    obtain ⟨h1, h2, h3, h4⟩ := ixN_seq e
    exact ⟨j, h1, h, h2, h3, h4⟩
theorem atI_nat {α : Type} {xs : List α} {j : Nat} {v : α} (h : xs[j]? = some v) : atI xs (j : Int) = some v := by
  have hj : j < xs.length := (List.getElem?_eq_some_iff.mp h).1
  have e : ixN xs.length (j : Int) = some j := by
    unfold ixN
    rw [if_pos (by omega), if_pos (by omega)]; simp
  unfold atI; rw [e]; exact h
/-! ### what may be subscripted -/
/-- what stands as an index of a plain subscript -/
def PlainIx (b : Expr) : Prop := ∀ o i, subscripted b false o i = operate [o, i] (getItem o i)
/-- a subscript by values -/
def IxR (X : Cx) (r : R2) : Prop :=
  ∀ (value slice : Expr) (pins : List (Addr × Obj)) (s : Shared) (σ : St) (H : Hp) (x y : V) (v u : Value) (Q : VK), Inv X pins σ H s → RelV x v → RelV y u → r x y H Q →
    subscripted slice false v u = operate [v, u] (getItem v u) → wpAny (model X.prog X.w) X.A (subscriptTail value slice v u) (EP X pins σ Q) X.xe s
/-- a call of a builtin's method by values: the receiver, the arguments -/
def MtR (X : Cx) (id : String) (r : V → List V → Hp → VK → Prop) : Prop :=
  ∀ (pins : List (Addr × Obj)) (s : Shared) (σ : St) (H : Hp) (x : V) (xs : List V) (v : Value) (us : List Value) (Q : VK), Inv X pins σ H s → RelV x v → Vals xs us → r x xs H Q →
    wpAny (model X.prog X.w) X.A (call (.builtin id) (v :: us)) (EP X pins σ Q) X.xe s
section
variable {X : Cx} {a b : Expr} {ta tb : TE} {pos : Pos}
theorem IxR.or {r r' : R2} (h : IxR X r) (h' : IxR X r') : IxR X (fun x y H Q => r x y H Q ∨ r' x y H Q) := by
  intro value slice pins s σ H x y v u Q I rx ry q hs
  rcases q with q | q
  · exact h value slice pins s σ H x y v u Q I rx ry q hs
  · exact h' value slice pins s σ H x y v u Q I rx ry q hs
theorem MtR.or {id : String} {r r' : V → List V → Hp → VK → Prop} (h : MtR X id r) (h' : MtR X id r') : MtR X id (fun x xs H Q => r x xs H Q ∨ r' x xs H Q) := by
  intro pins s σ H x xs v us Q I rx rs q
  rcases q with q | q
  · exact h pins s σ H x xs v us Q I rx rs q
  · exact h' pins s σ H x xs v us Q I rx rs q
/-- a[b] -/
theorem pe_ix {r : R2} (hr : IxR X r) (ha : PE X a ta) (hb : PE X b tb) (hs : PlainIx b) : PE X (.Subscript a b pos) (tOp r ta tb) := by
  intro pins s σ H Q I h
  exact Subscript_ (binT ha hb I h fun v u s2 x y H2 I2 rx ry q => hr a b pins s2 σ H2 x y v u Q I2 rx ry q (hs _ _))

def rIxL (K : PySem.W.Frag) : R2 := fun x y H Q => ∃ p xs i v, x = .ref p ∧ y = .int i ∧ SqL K H p xs ∧ atI xs i = some v ∧ Q v H
def rIxT (K : PySem.W.Frag) : R2 := fun x y H Q => ∃ p xs i v, x = .ref p ∧ y = .int i ∧ SqT K H p xs ∧ atI xs i = some v ∧ Q v H
def rIxS : R2 := fun x y H Q => ∃ z i c, x = .str z ∧ y = .int i ∧ z.length ≤ sizeLine ∧ atI z.cps.toList i = some c ∧ Q (.str ⟨#[c]⟩) H
theorem ix_list : IxR X (rIxL X.K) := by
  intro value slice pins s σ H x y v u Q I rx ry h hs
  obtain ⟨p, xs, i, z, rfl, rfl, hq, he, q⟩ := h
  cases rx
  obtain ⟨t, rfl⟩ := ry
  obtain ⟨its, r, pl, hz⟩ := I.list hq
  obtain ⟨j, h1, h2, h3, h4, h5⟩ := atI_get he
  obtain ⟨w, ew, rw'⟩ := r.get h2
  have hl := r.length
  have hn := line63
  have fin : EP X pins σ Q w s := ⟨z, H, I, rw', q⟩
  by_cases h0 : 0 ≤ i
  · have hj : i.toNat = j := by
      rw [seqIndex_of h0 h5] at h1
      exact Option.some.inj h1
    exact item_listR pl.isList h0 (by omega) (by rw [hj]; simpa using ew) fin hs
  · have hj : (i + (its.toArray.size : Int)).toNat = j := by
      rw [seqIndex_neg (by omega) h4] at h1
      rw [List.size_toArray, ← hl]
      exact Option.some.inj h1
    exact subscriptTail_builtinR (x := w) pl.isList.typeIs slot_list_getitem.lookup
      (wpAny_getItem_list_neg (Q := fun r s' => r = w ∧ EP X pins σ Q r s') pl.isList (by omega) (by rw [List.size_toArray] <;> omega) (by omega) (by rw [hj]; simpa using ew) ⟨rfl, fin⟩) hs
theorem ix_str : IxR X rIxS := by
  intro value slice pins s σ H x y v u Q I rx ry h hs
  obtain ⟨z, i, c, rfl, rfl, hz, he, q⟩ := h
  obtain ⟨t, rfl⟩ := rx
  obtain ⟨t', rfl⟩ := ry
  obtain ⟨j, h1, h2, h3, h4, h5⟩ := atI_get he
  have hl : z.cps.toList.length = z.length := by simp [Str.length]
  rw [hl] at h1 h4 h5
  have hn := line63
  exact tail_any (typeIs_str s z t) slot_str_getitem.lookup (getItem_str (c := c) (by
    have e1 : decide (i < -(2 ^ 63 : Int)) = false := decide_eq_false (by omega)
    have e2 : decide (i ≥ 2 ^ 63) = false := decide_eq_false (by omega)
    rw [e1, e2, Bool.or_false]) (by rw [h1]; simpa using h2) ⟨.str ⟨#[c]⟩, H, I.tok _, ⟨_, rfl⟩, q⟩) hs
/-- list, tuple or str -/
def rIx (K : PySem.W.Frag) : R2 := fun x y H Q => rIxL K x y H Q ∨ rIxT K x y H Q ∨ rIxS x y H Q
/-! ### xs[i] = v, any sign -/
theorem Inv.lst {pins : List (Addr × Obj)} {σ : St} {H : Hp} {s : Shared} {p : Addr} {xs : List V} (I : Inv X pins σ H s) (h : H p = some (.lst xs)) :
    ∃ (its : List Value) (n : Nat), Vals xs its ∧ s.heap.get? p = some { cls := .type "list", data := .seq its.toArray n } ∧ xs.length ≤ sizeLine := by
  obtain ⟨z, its, n, r, e⟩ := I.hok p _ h
  exact ⟨its, n, r, e, z⟩
def rSetL : V → V → V → Hp → (Hp → Prop) → Prop := fun o i v H Q => ∃ p xs k j, o = .ref p ∧ i = .int k ∧ H p = some (.lst xs) ∧ ixN xs.length k = some j ∧ Q (upd H p (.lst (xs.set j v)))
/-! ### slices -/
theorem slice_bounds (lo hi : Option Int) (n : Nat) : (sliceBounds lo hi none n).1 = ((HT.sIx n 0 lo : Nat) : Int) ∧ (sliceBounds lo hi none n).2.1 = ((HT.sIx n n hi : Nat) : Int) ∧ (sliceBounds lo hi none n).2.2 = 1 := by
  refine ⟨?_, ?_, rfl⟩
  · cases lo with
    | none => simp [sliceBounds, HT.sIx]
    | some i =>
      simp only [sliceBounds, HT.sIx, Option.getD_none, show (1 : Int) > 0 by decide, if_true]
      by_cases h : i < 0
      · simp only [h, if_true] <;> omega
      · simp only [h, if_false] <;> omega
  · cases hi with
    | none => simp [sliceBounds, HT.sIx]
    | some i =>
      simp only [sliceBounds, HT.sIx, Option.getD_none, show (1 : Int) > 0 by decide, if_true]
      by_cases h : i < 0
      · simp only [h, if_true] <;> omega
      · simp only [h, if_false] <;> omega
theorem slicePick_cut (its : List Value) (lo hi : Option Int) : slicePick its.toArray lo hi none = ((its.drop (HT.sIx its.length 0 lo)).take (HT.sIx its.length its.length hi - HT.sIx its.length 0 lo)).toArray := by
  obtain ⟨h1, h2, h3⟩ := slice_bounds lo hi its.toArray.size
  unfold slicePick
  rw [h1, h2, h3]
  simp only [sliceRange_one, pick_run, List.size_toArray] <;> rfl
/-- xs[lo:hi] of a list: a new list -/
def rSlL (K : PySem.W.Frag) : V → Option Int → Option Int → Hp → VK → Prop := fun x lo hi H Q => ∃ a xs, x = .ref a ∧ SqL K H a xs ∧ ∀ p, H p = none → Q (.ref p) (upd H p (.lst (cutV xs lo hi)))
theorem sl_list : SlR X (rSlL X.K) := by
  intro pins s σ H x v vl vu lo hi sl Q I rx hs pl pu h
  obtain ⟨a, xs, rfl, hx, q⟩ := h
  cases rx
  obtain ⟨its, r, ht, hz⟩ := I.list hx
  have hlen := r.length
  refine ⟨"list", _, slot_list_getitem.lookup, ht.isList.typeIs, ?_⟩
  refine wpAny_getItem_list_slice ht.isList hs pl pu .none (by simp) ?_ (by rw [List.size_toArray] <;> omega)
  rw [slicePick_cut, ← hlen]
  refine ⟨.ref s.heap.objs.size, _, I.laid (t' := s.toks) (o := .lst (cutV xs lo hi)) (fun b ob q => Heap.get?_push_of_some _ q) (Nat.le_refl _) ?_, rfl, q _ (I.hok.fresh (Nat.le_refl _))⟩
  exact ⟨Nat.le_trans (cutV_length xs lo hi) hz, _, 0, (r.drop (HT.sIx xs.length 0 lo)).take (HT.sIx xs.length xs.length hi - HT.sIx xs.length 0 lo), Heap.get?_push_size _ rfl⟩

/-! ### in, not in: flat items -/
def flatV : V → Bool
  | .non => true
  | .bl _ => true
  | .int _ => true
  | .str _ => true
  | _ => false
/-- == of flat values -/
def eqV : V → V → Bool
  | .non, .non => true
  | .bl a, .bl b => a == b
  | .bl a, .int b => (if a then 1 else 0) == b
  | .int a, .bl b => a == (if b then 1 else 0)
  | .int a, .int b => a == b
  | .str a, .str b => a == b
  | _, _ => false
/-- the items' answers, read off the values (a value's own answer does not lean on its token) -/
def eqU (x : V) (u : Value) : Bool := match u with
  | .none => eqV .non x
  | .bool b => eqV (.bl b) x
  | .int i _ => eqV (.int i) x
  | .str z _ => eqV (.str z) x
  | _ => false
def inV (x : V) (xs : List V) : Bool := xs.any fun y => eqV y x
/-- x in a list or tuple of flat items -/
def rIn (K : PySem.W.Frag) (neg : Bool) : R2 := fun x y H Q => ∃ p xs, y = .ref p ∧ (SqL K H p xs ∨ SqT K H p xs) ∧ flatV x = true ∧ xs.all flatV = true ∧ Q (.bl (if neg then !inV x xs else inV x xs)) H
/-! ### len, list(x), tuple(x) of any list or tuple that is read -/
theorem call_len_str : CallR X (.builtin "len") (fun xs H Q => ∃ z, xs = [.str z] ∧ z.length ≤ sizeLine ∧ Q (.int z.length) H) := by
  intro pins s σ H xs us Q I r h
  obtain ⟨z, rfl, hz, q⟩ := h
  obtain ⟨u, rfl, t, rfl⟩ := vals1 r
  have hn := line63
  exact len_str (by omega) ⟨.int z.length, H, I.tok _, ⟨_, rfl⟩, q⟩
theorem CallR.or {f : Value} {r r' : List V → Hp → VK → Prop} (h : CallR X f r) (h' : CallR X f r') : CallR X f (fun xs H Q => r xs H Q ∨ r' xs H Q) := by
  intro pins s σ H xs us Q I rs q
  rcases q with q | q
  · exact h pins s σ H xs us Q I rs q
  · exact h' pins s σ H xs us Q I rs q
/-! ### the call of a builtin's method: o.m(..) -/
/-- the value is of that builtin type -/
def tyV (K : PySem.W.Frag) (T : String) (x : V) (H : Hp) : Prop := match x with
  | .str _ => T = "str"
  | .int _ => T = "int"
  | .ref p => (T = "list" ∧ ∃ xs, SqL K H p xs) ∨ (T = "tuple" ∧ ∃ o, K.lookup p = some o ∧ o.cls = .type "tuple" ∧ o.dict = none) ∨
      (T = "dict" ∧ ((∃ kvs, H p = some (.dK kvs)) ∨ ∃ kvs, H p = some (.dT kvs))) ∨ (T = "set" ∧ ∃ S n, H p = some (.set S n))
  | _ => False
theorem tyV_is {pins : List (Addr × Obj)} {σ : St} {H : Hp} {s : Shared} {T : String} {x : V} {v : Value} (I : Inv X pins σ H s) (r : RelV x v) (ty : tyV X.K T x H) :
    s.TypeIs v T ∧ ∀ a, v = .ref a → ∃ ob, s.heap.get? a = some ob ∧ ob.dict = none := by
  cases x with
  | str z =>
    obtain ⟨t, rfl⟩ := r
    cases (show T = "str" from ty)
    exact ⟨typeIs_str s z t, fun _ e => nomatch e⟩
  | int i =>
    obtain ⟨t, rfl⟩ := r
    cases (show T = "int" from ty)
    exact ⟨typeIs_int s i t, fun _ e => nomatch e⟩
  | ref p =>
    cases r
    rcases ty with ⟨rfl, xs, hq⟩ | ⟨rfl, o, hk, hc, hd⟩ | ⟨rfl, hk⟩ | ⟨rfl, S, n, hk⟩
    · obtain ⟨its, _, pl, _⟩ := I.list hq
      refine ⟨pl.isList.typeIs, fun a e => ?_⟩
      cases e
      obtain ⟨o, n, e, c, hd, _⟩ := pl
      exact ⟨o, e, hd⟩
    · refine ⟨⟨o, I.kIn p o hk, hc⟩, fun a e => ?_⟩
      cases e
      exact ⟨o, I.kIn _ o hk, hd⟩
    · have z : ∃ o, s.heap.get? p = some o ∧ o.ExactDict := by
        rcases hk with ⟨kvs, hk⟩ | ⟨kvs, hk⟩
        · obtain ⟨_, _, _, _, o, _, _, e, ex, _⟩ := I.hok p _ hk
          exact ⟨o, e, ex⟩
        · obtain ⟨_, _, _, _, o, _, _, e, ex, _⟩ := I.hok p _ hk
          exact ⟨o, e, ex⟩
      obtain ⟨o, e, ex⟩ := z
      refine ⟨⟨o, e, ex.1⟩, fun a e2 => ?_⟩
      cases e2
      exact ⟨o, e, ex.2.1⟩
    · obtain ⟨o, _, _, _, e, ex, _⟩ := I.hok p _ hk
      refine ⟨⟨o, e, ex.1⟩, fun a e2 => ?_⟩
      cases e2
      exact ⟨o, e, ex.2.1⟩
  | _ => exact False.elim ty
def tBM0 (K : PySem.W.Frag) (T : String) (r : V → List V → Hp → VK → Prop) (to : TE) : TE := fun σ H Q => to σ H fun x H1 => tyV K T x H1 ∧ r x [] H1 Q
def tBM (K : PySem.W.Frag) (T : String) (r : V → List V → Hp → VK → Prop) (to : TE) (t : TA) : TE := fun σ H Q => to σ H fun x H1 => tyV K T x H1 ∧ t σ H1 fun xs H2 => r x xs H2 Q
variable {o e : Expr} {es : List Expr} {to : TE} {t : TA} {name : Str} {apos cpos : Pos} {T id : String} {r : V → List V → Hp → VK → Prop}
theorem pe_bm (pa : PlainAttrs T) (slot : Slot T name id) (hty : typeOf (.builtin id) = pure (.type "method_descriptor")) (hm : MtR X id r) (ho : PE X o to) (ha : PA X (e :: es) t)
    (hbase : attributeBase o name X.env (eval o X.env) = eval o X.env := by rfl)
    (hfew : ((backTo cpos (starEach (e :: es) X.env)).all (fun x => !x.1) && (backToKw cpos (keywordEach [] X.env)).all (fun x => x.1.isSome)
      && decide ((e :: es).length + ([] : List Keyword).length + (if ([] : List Keyword).isEmpty then 0 else 1) < 30)) = true := by rfl)
    (hline : (apos.endLine == cpos.line) = true := by rfl) (hs : starEach (e :: es) X.env = (false, eval e X.env) :: starEach es X.env := by rfl) (hplain : (backTo cpos (starEach es X.env)).any (·.1) = false := by rfl) :
    PE X (.Call (.Attribute o name apos) (e :: es) [] cpos) (tBM X.K T r to t) := by
  intro pins s σ H Q I h
  refine wpAny_Call_method_late hbase hfew hline rfl (thn (ho pins s σ H _ I h) fun v s1 ⟨x, H1, I1, r1, ty, q1⟩ => ?_)
  obtain ⟨h1, h2⟩ := tyV_is I1 r1 ty
  refine ⟨T, id, pa, slot, hty, h1, h2, ?_⟩
  have hA := ha cpos pins s1 σ H1 _ I1 q1
  rw [hs] at hA ⊢
  refine Calls.callWith_builtin (by show (false || (backTo cpos (starEach es X.env)).any (·.1)) = false; rw [hplain] <;> rfl) (Calls.evalArgs_plain ?_)
  exact thn hA fun us s2 ⟨vs, H2, I2, r2, q2⟩ => hm pins s2 σ H2 x vs v us Q I2 r1 r2 q2
/- xs.append(e), list.index on a module's tuple .. are MtR facts of 06m -/
end
end L2

namespace L2
open PySem PySem.Spec PyProof.Rows

def MtM (X : Cx) (id : String) (r : V → List V → Hp → VK → Prop) : Prop :=
  ∀ (pins : List (Addr × Obj)) (s : Shared) (σ : St) (H : Hp) (x : V) (xs : List V) (v : Value) (us : List Value) (Q : VK), Inv X pins σ H s → RelV x v → Vals xs us → r x xs H Q →
    wpAny (model X.prog X.w) X.A (call (.builtin id) (v :: us)) (EP X pins σ Q) X.xe s

/-! ### lists of values -/
theorem Vals.one : ∀ {x : V} {us : List Value}, Vals [x] us → ∃ u, us = [u] ∧ RelV x u
  | _, _, .cons r .nil => ⟨_, rfl, r⟩
theorem Vals.two : ∀ {x y : V} {us : List Value}, Vals [x, y] us → ∃ u v, us = [u, v] ∧ RelV x u ∧ RelV y v
  | _, _, _, .cons r (.cons q .nil) => ⟨_, _, rfl, r, q⟩
theorem Vals.zero : ∀ {us : List Value}, Vals [] us → us = []
  | _, .nil => rfl
theorem Vals.dropLast {xs : List V} {us : List Value} (h : Vals xs us) : Vals xs.dropLast us.dropLast := by
  induction h with
  | nil => exact .nil
  | cons r t ih =>
    cases t with
    | nil => exact .nil
    | cons q t' => exact .cons r ih
theorem Vals.eraseIdx : ∀ {xs : List V} {us : List Value} (i : Nat), Vals xs us → Vals (xs.eraseIdx i) (us.eraseIdx i)
  | _, _, _, .nil => .nil
  | _, _, 0, .cons _ t => t
  | _, _, i + 1, .cons r t => .cons r (Vals.eraseIdx i t)
theorem Vals.reverse {xs : List V} {us : List Value} (h : Vals xs us) : Vals xs.reverse us.reverse := by
  induction h with
  | nil => exact .nil
  | cons r t ih => rw [List.reverse_cons, List.reverse_cons]; exact Vals.append ih (.cons r .nil)
section
variable {X : Cx} {pins : List (Addr × Obj)} {σ : St} {H : Hp} {s : Shared} {l b : Addr} {xs ys zs : List V}

/-! ### the two steps: a tracked list is rewritten, a new list is laid -/
theorem Inv.lnew {its : List Value} {t' : Nat} (I : Inv X pins σ H s) (hv : Vals ys its) (hz : ys.length ≤ sizeLine) :
    Inv X pins σ (upd H s.heap.objs.size (.lst ys)) { s with heap := s.heap.push { cls := .type "list", data := .seq its.toArray }, toks := t' } :=
  I.laid (fun _ _ q => Heap.get?_push_of_some _ q) (Nat.le_refl _) ⟨hz, its, 0, hv, Heap.get?_push_size _ rfl⟩
theorem Inv.fresh (I : Inv X pins σ H s) : H s.heap.objs.size = none := I.hok.fresh (Nat.le_refl _)
theorem Inv.lstM (I : Inv X pins σ H s) (hH : H l = some (.lst xs)) : xs.length ≤ sizeLine ∧ ∃ (its : List Value) (n : Nat), Vals xs its ∧ xs.length = its.length ∧ s.heap.get? l = some { cls := .type "list", data := .seq its.toArray n } := by
  obtain ⟨z, its, n, r, e⟩ := I.hok l _ hH
  exact ⟨z, its, n, r, r.length, e⟩

theorem notLongL {n : Nat} (h : n ≤ sizeLine) : Builtin.List.listTooLong n = false := by
  unfold Builtin.List.listTooLong
  exact decide_eq_false (by omega)
end

section
variable {X : Cx}

/-! ### methods -/
def rAppend : V → List V → Hp → VK → Prop := fun x vs H Q => ∃ l xs y, x = .ref l ∧ vs = [y] ∧ H l = some (.lst xs) ∧ xs.length < sizeLine ∧ Q .non (upd H l (.lst (xs ++ [y])))
def rExtend : V → List V → Hp → VK → Prop := fun x vs H Q => ∃ l b xs zs, x = .ref l ∧ vs = [.ref b] ∧ H l = some (.lst xs) ∧ H b = some (.lst zs) ∧ xs.length + zs.length ≤ sizeLine ∧ Q .non (upd H l (.lst (xs ++ zs)))
def rPop : V → List V → Hp → VK → Prop := fun x vs H Q => ∃ l xs y, x = .ref l ∧ vs = [] ∧ H l = some (.lst xs) ∧ xs[xs.length - 1]? = some y ∧ Q y (upd H l (.lst xs.dropLast))
def rPopAt : V → List V → Hp → VK → Prop := fun x vs H Q => ∃ l xs i k y, x = .ref l ∧ vs = [.int i] ∧ H l = some (.lst xs) ∧ -(2 ^ 63) ≤ i ∧ i < 2 ^ 63 ∧ seqIndex? i xs.length = some k ∧ xs[k]? = some y ∧ Q y (upd H l (.lst (xs.eraseIdx k)))
def rReverse : V → List V → Hp → VK → Prop := fun x vs H Q => ∃ l xs, x = .ref l ∧ vs = [] ∧ H l = some (.lst xs) ∧ Q .non (upd H l (.lst xs.reverse))
def rClear : V → List V → Hp → VK → Prop := fun x vs H Q => ∃ l xs, x = .ref l ∧ vs = [] ∧ H l = some (.lst xs) ∧ Q .non (upd H l (.lst []))
/-! ### list + list, list += list, list * int -/
def rCat : R2 := fun x y H Q => ∃ l b xs zs, x = .ref l ∧ y = .ref b ∧ H l = some (.lst xs) ∧ H b = some (.lst zs) ∧ xs.length + zs.length ≤ sizeLine ∧ ∀ p, H p = none → Q (.ref p) (upd H p (.lst (xs ++ zs)))
theorem op_cat : OpR X (binaryOp .Add) rCat := by
  intro pins s σ H x y v u Q I rx ry h
  obtain ⟨l, b, xs, zs, rfl, rfl, hH, hB, hz, q⟩ := h
  cases rx
  cases ry
  obtain ⟨z, its, n, r, hl, e⟩ := I.lstM hH
  obtain ⟨z2, its2, n2, r2, hl2, e2⟩ := I.lstM hB
  refine PySem.P.add_list e e2 ?_ (by rw [List.size_toArray, List.size_toArray]; omega)
  have ea : its.toArray ++ its2.toArray = (its ++ its2).toArray := by simp
  rw [ea]
  exact ⟨.ref _, _, I.lnew (t' := s.toks) (r.append r2) (by rw [List.length_append]; omega), rfl, q _ I.fresh⟩
/-- a list times an int (a negative one is nothing) -/
def rRep : R2 := fun x y H Q => ∃ l k xs, x = .ref l ∧ y = .int k ∧ H l = some (.lst xs) ∧ -(2 ^ 63) ≤ k ∧ k < 2 ^ 63 ∧ xs.length * k.toNat ≤ sizeLine ∧
  ∀ p, H p = none → Q (.ref p) (upd H p (.lst (List.replicate k.toNat xs).flatten))
/-! ### del xs[i] -/
end

/-! ### xs[a:b] = ys -/
section
variable {prog : Program} {w : World} {A : Around} {E : Value → Shared → Prop} {s : Shared}
theorem bounds_run {a c n : Nat} (hac : a ≤ c) (hc : c ≤ n) : sliceBounds (some (a : Int)) (some (c : Int)) none n = ((a : Int), (c : Int), 1) := by
  simp only [sliceBounds, Option.getD_none]
  have h1 : ¬ ((a : Int) < 0) := by omega
  have h2 : ¬ ((c : Int) < 0) := by omega
  simp only [h1, h2, if_false, show (1 : Int) > 0 by decide, if_true]
  congr 1
  · omega
  · congr 1; omega
set_option maxRecDepth 100000 in
/-- list.__setitem__ with a slice of step one and another list -/
theorem setItem_slice {l b sl : Addr} {items new : Array Value} {n n2 : Nat} {vl vu : Value} {a c : Nat} {Q : Unit → Shared → Prop}
    (e : s.heap.get? l = some { cls := .type "list", data := .seq items n }) (e2 : s.heap.get? b = some { cls := .type "list", data := .seq new n2 }) (hne : l ≠ b)
    (hs : s.heap.IsSliceOf sl vl vu .none) (pl : IsPart vl (some (a : Int))) (pu : IsPart vu (some (c : Int))) (hac : a ≤ c) (hc : c ≤ items.size)
    (hsz : items.size + new.size ≤ sizeLine) (h : Q () { s with heap := s.heap.update l (Obj.mapSeq fun xs => xs.extract 0 a ++ new ++ xs.extract c xs.size) }) :
    wpAny (model prog w) A (setItem (.ref l) (.ref sl) (.ref b)) Q E s := by
  have hl : s.heap.IsList l items := PySem.IsL.isList e
  have hb : s.heap.IsList b new := PySem.IsL.isList e2
  obtain ⟨os, hos, hcs, hds⟩ := id hs
  have hTs : s.TypeIs (.ref sl) "slice" := ⟨os, hos, hcs⟩
  have hstep : ¬ ((rawPart none == rawInt 0) = true) := Bool.false_ne_true
  have hsame : Builtin.List.listSameRef (.ref l) (.ref b) = false := by
    unfold Builtin.List.listSameRef
    exact beq_eq_false_iff_ne.mpr hne
  have hmax : (max (a : Int) (c : Int)).toNat = c := by omega
  have hz' : ((fun xs : Array Value => xs.extract 0 a ++ new ++ xs.extract c xs.size) items).size ≤ sizeLine + 1 := by
    simp only [Array.size_append, Array.size_extract]
    omega
  unfold setItem
  try with_reducible refine wpAny_holding ?_
  first | refine wpAny_bind (wpAny_pure ?_) | skip
  refine wpAny_bind (wpAny_sequenceKey hl.typeIs (by decide) ?_)
  refine wpAny_bind (wpAny_callSpecial?_slot (name := Str.ofString "__setitem__") hl.typeIs slot_list_setitem
    (wpAny_call_entry slot_list_setitem hl.typeIs entry_list_setitem ?_ (args_list_setitem _ _ _)))
  show wpAny _ _ (Builtin.List.listSubscript? (.ref sl) >>= _) _ _ s
  refine wpAny_bind ?_
  unfold Builtin.List.listSubscript?
  refine wpAny_bind (wpAny_specialOf hTs slice_no_index ?_)
  simp only [Option.isNone_none, if_true]
  refine wpAny_pure ?_
  show wpAny _ _ (typeOf (.ref sl) >>= _) _ _ s
  refine wpAny_bind (wpAny_typeOf hTs ?_)
  first
    | rw [if_neg (by decide)]
    | refine PySem.W.KFB.if_not (by decide) ?_
  rw [listSliceParts_eq]
  refine wpAny_bind (wpAny_bind (wpAny_field hos hds (x := .none) rfl (wpAny_bind (wpAny_listPart .none ?_))))
  rw [if_neg hstep]
  refine wpAny_bind (wpAny_field hos hds (x := vl) rfl (wpAny_bind (wpAny_listPart pl ?_)))
  refine wpAny_bind (wpAny_field hos hds (x := vu) rfl (wpAny_bind (wpAny_listPart pu (wpAny_pure ?_))))
  first
    | simp only [hsame, Bool.false_eq_true, if_false]
    | refine PySem.W.KFB.if_not hsame ?_
    | (dsimp only
       rw [if_neg (by rw [hsame]; exact Bool.false_ne_true)])
  refine wpAny_bind (m := Builtin.List.listAllItems (.ref b) "must assign iterable to extended slice") ?_
  unfold Builtin.List.listAllItems
  refine wpAny_bind (wpAny_typeOf hb.typeIs ?_)
  first
    | refine PySem.W.KFB.if_so (by decide) ?_
    | rw [if_pos (by decide)]
    | simp only [beq_self_eq_true, Bool.true_or, if_true]
  unfold Builtin.List.listItems
  refine wpAny_bind (wpAny_seqItems e2 rfl (wpAny_pure ?_))
  refine wpAny_bind (wpAny_bind (wpAny_seqItems e rfl (wpAny_pure ?_)))
  refine wpAny_bind (wpAny_of_eq ((sliceIndices_raw (some (a : Int)) (some (c : Int)) none items.size (by simp)).trans (congrArg (pure : Int × Int × Int → Sem (Int × Int × Int)) (bounds_run hac hc))) ?_)
  show wpAny _ _ (if ((1 : Int) == 1) = true then _ else _) _ _ s
  rw [if_pos (by decide)]
  refine wpAny_bind (wpAny_rule ?_)
  first
    | simp only [notLongL hsz, Bool.false_eq_true, if_false]
    | refine PySem.W.KFB.if_not (notLongL hsz) ?_
  first | refine wpAny_bind (wpAny_pure ?_) | skip
  show wpAny _ _ (updateSeq l (fun xs => xs.extract 0 ((a : Int)).toNat ++ new ++ xs.extract (max (a : Int) (c : Int)).toNat xs.size) >>= _) _ _ s
  rw [hmax, Int.toNat_natCast]
  refine wpAny_bind (wpAny_updateSeq (hz := Nat.le_trans (Nat.le_add_right _ _) hsz) (_hz' := hz') e rfl ?_)
  refine wpAny_bind (wpAny_letGo ?_)
  first
    | exact wpAny_bind (wpAny_pure (wpAny_pure ⟨.none, rfl, wpAny_pure h⟩))
    | exact wpAny_pure ⟨.none, rfl, wpAny_pure h⟩
end

section
variable {X : Cx}
end
end L2

namespace Att
open PySem PySem.W PySem.Calls PyProof.Rows

/-! ### the script -/
theorem ints_of_wellAll {P : Params} {h : Heap} : ∀ (ns : List Int) (vs : List Value), WellAll P h vs (ns.map WData.int) → IntsAre vs ns := by
  intro ns
  induction ns with
  | nil =>
    intro vs w
    rw [List.map_nil] at w
    cases w
    exact .nil
  | cons n ns ih =>
    intro vs w
    rw [List.map_cons] at w
    cases w with
    | cons a b =>
      cases a
      exact .cons _ _ (ih _ b)

theorem script_of {l : OpenLaw} {n : Nat} (hn : l.most = some n) {P : Params} {h : Heap} {args : List WData} {vals : List Value}
    (hpre : l.row.toRowW.claim.pre args = true) (hwl : WellAll P h vals args) :
    ∃ a vs ns, vals = [Value.ref a] ∧ args = [WData.list (ns.map WData.int)] ∧ h.get? a = some { cls := .type "list", data := .seq vs.toArray } ∧ IntsAre vs ns ∧ ns.length ≤ n := by
  have hsh : WShape.hasAll [] args [.list .int] = true := (pre_splitW hpre).1
  have hc : l.pre.holds [] { args := args } = true := (pre_splitW hpre).2
  obtain ⟨d, r, rfl, h1, h2⟩ := hasAllW_cons hsh
  obtain rfl := hasAllW_nil h2
  obtain ⟨xs, rfl, h3⟩ := hasW_list h1
  obtain ⟨ns, rfl⟩ := items_int h3
  have hlen : ns.length ≤ n := by
    unfold OpenLaw.pre at hc
    have h4 : (WTm.not (.lt (.lit (.int (n : Int))) (.len (.arg 0)))).holds [] { args := [.list (ns.map .int)] } = true := by
      have h4 := (holds_andW hc).1
      rw [hn] at h4
      exact h4
    have h5 := condW_of h4 (w_not (w_lt w_lit (w_len_list (w_arg rfl))))
    rw [List.length_map] at h5
    refine Nat.le_of_not_lt fun q => ?_
    have q' : (n : Int) < ((ns.length : Nat) : Int) := by omega
    first
      | (rw [decide_eq_true q'] at h5; exact absurd h5 (by decide))
      | (simp at h5; omega)
  cases hwl with
  | cons w1 w2 =>
    cases w2
    cases w1 with
    | list ho hall => exact ⟨_, _, ns, rfl, rfl, ho, ints_of_wellAll ns _ hall, hlen⟩

theorem post_true (l : OpenLaw) (args : List WData) : l.row.toRowW.claim.post args (.bool true) args = true :=
  postW_of (r := l.row.toRowW) (X := (true == true))
    (show WShape.has [] (.bool true) .bool = true by first | rfl | decide | simp [WShape.has, WShape.arms, WShape.armsAll])
    (show (WTm.eq .res (.lit (.bool true))).value [] { args := args, res := some (.bool true), after := args } = some (.bool (true == true)) from w_eq_bool (w_res rfl) w_lit) rfl

/-! ### the attachment: holds_open's last premise (the goal 'hc' behind k_head) from a wpAny of the law's body -/
/-- the same from a codeAny of the CALL (for a layer whose function contracts speak of calls) -/
theorem attach_call {l : OpenLaw} {n : Nat} {q : Program} {loose : List Str} {XP : (Str → Option Value) → Heap → Prop} {YP : World → Heap → Prop} {d : DefRec}
    (hn : l.most = some n) (hdf : d.params.defaults = [])
    (call : ∀ (w : World) (s₀ s₁ : Shared) (mg mb : Str → Option Value) (fa : Addr) (o : Obj) (pm cd doc : Value) (a : Addr) (vs : List Value) (ns : List Int),
      Ground q loose [] XP w s₀ mg mb s₁.heap → YP w s₁.heap →
      s₁.heap.get? fa = some o → o.data = .func (docDef d.name d.params d.body d.scope pm cd doc) → s₁.heap.CodeRec cd d.name → mg d.name = some (.ref fa) →
      s₁.heap.get? a = some { cls := .type "list", data := .seq vs.toArray } → IntsAre vs ns → ns.length ≤ n → s₁.gens = #[] →
      codeAny (model l.prog w) callerA (.call (.ref fa) ⟨[.ref a], []⟩) (fun r s' => r = .ok (.ret (.bool true)) ∧ OldK s₁.heap s'.heap ∧ s'.os = s₁.os ∧ AllBare s'.gens) s₁) :
    WalkO q loose XP YP l.row.toRowW d [] (fun f vs => PySem.call f vs) := by
  intro w s₀ s₁ mg mb G Y fa o pm cd doc dV kV ho hd hcd hD hmg hg args vals as hpre hlay hrd hwl hlo
  obtain rfl : dV = .none := Dflts.none hD hdf
  obtain rfl : kV = .none := Dflts.noKw hD
  obtain ⟨a, vs, ns, rfl, rfl, hobj, hints, hlen⟩ := script_of hn hpre hwl
  refine enter_call (codeAny_mono (call w s₀ s₁ mg mb fa o pm cd doc a vs ns G Y ho (fd_plain hd) hcd hmg hobj hints hlen hg) fun r s' hq => ?_)
  obtain ⟨rfl, h2, h3, h4⟩ := hq
  exact ⟨.inl ⟨.bool true, .bool true, [], rfl, fun _ => rfl, .bool true, post_true l _, fun _ => ⟨List.Pairwise.nil, fun _ hm => (nomatch hm)⟩⟩, h2, h3, h4⟩

/-! ### rules over ANY heap (no ledger) from facts about the written part K: the library's own take a ledger (News) for what they write -/
section
variable {prog : Program} {w : World} {A : Around} {E : Value → Shared → Prop} {s : Shared} {K : Frag}

/-! the whole heap as the ledger: makes every rule that writes through a ledger a rule over any heap -/
def noObjs (h : Heap) : Heap := { h with objs := #[] }
def ledger (h : Heap) (L d : Addr) : List (Addr × Obj) := (List.range h.objs.size).filterMap fun a => if a = L ∨ a = d then none else (h.get? a).map fun o => (a, o)
end
end Att

namespace L2
open PySem PySem.Spec PyProof.Rows

theorem vals_ints : ∀ {vs : List Value} {ns : List Int}, IntsAre vs ns → Vals (ns.map V.int) vs
  | _, _, .nil => .nil
  | _, _, .cons n t h => .cons ⟨t, rfl⟩ (vals_ints h)

/-- nothing is tracked but the script, known to the object (or it is an object of the module) -/
def Only (H : Hp) : Prop := ∀ b, H b = none ∨ ∃ o xs, H b = some (.frz o (.lst xs))

/-- THE HEAD: the law's promise, at the heap behind the top. F, the promise of the law's def, may use that base is part of the heap (so K.In base, base.Ns mainGlobals mg stand in Mod) -/
theorem law_call {P : Program} {w : World} {K : PySem.W.Frag} {mg mb : Str → Option Value} {CX : CXT} {k : Nat} {fa a : Addr} {fd : FuncData} {x : Str} {sp : Sp} {s₁ : Shared} {vs : List Value} {ns : List Int}
    (KX : K.In s₁.heap) (hns : s₁.heap.Ns mainGlobals mg) (hb : s₁.heap.Ns builtinsNs mb) (hbb : ∀ x : Str, x ≠ "__name__" → mb x = bootBuiltins x) (hlim : s₁.heap.NoLimit) (hg : s₁.gens = #[])
    (ha : s₁.heap.get? a = some { cls := .type "list", data := .seq vs.toArray }) (hi : IntsAre vs ns) (hl : ns.length ≤ sizeLine) (hr : Room k callerA)
    (F : ∀ base : Heap, K.In base → base.Ns mainGlobals mg → FnOk P w K mg base CX k fa fd [x] sp) (hbind : ∀ (s : Shared) (u : Value), BindsTo s fd ⟨[u], []⟩ [(x, u)])
    (hsp : ∀ H : Hp, Only H → SqL K H a (ns.map V.int) → sp [.ref a] H (fun v _ => v = .bl true) fun _ _ _ => False)
    (hCX : ∀ H e s', CX [] H s₁ (fun _ _ _ => False) e s' → False) :
    codeAny (model P w) callerA (.call (.ref fa) ⟨[.ref a], []⟩) (fun r s' => r = .ok (.ret (.bool true)) ∧ OldK s₁.heap s'.heap ∧ s'.os = s₁.os ∧ AllBare s'.gens) s₁ := by
  have rv := vals_ints hi
  have lenV := hi.length
  -- from an abstract heap in which nothing but the script may be tracked
  have core : ∀ H : Hp, Only H → SqL K H a (ns.map V.int) → HOk P w H s₁.heap → (∀ b, H b ≠ none → b = a) → (H a ≠ none → K.lookup a = none) →
      codeAny (model P w) callerA (.call (.ref fa) ⟨[.ref a], []⟩) (fun r s' => r = .ok (.ret (.bool true)) ∧ OldK s₁.heap s'.heap ∧ s'.os = s₁.os ∧ AllBare s'.gens) s₁ := by
    intro H hO hS hok hA hK
    have base_of : ∀ {b : Addr} {o : Obj}, s₁.heap.get? b = some o → H b = none → (hidT s₁.heap H).get? b = some o := fun e n => hidT_get e n
    have noA : ∀ {b : Addr} {o : Obj} {es : Array DictEntry} {ep : Nat}, s₁.heap.get? b = some o → o.data = .dict es ep → H b = none := fun {b o es ep} e d => by
      cases q : H b with
      | none => rfl
      | some u =>
        have e' : b = a := hA b (by rw [q]; simp)
        subst e'
        rw [ha] at e; cases e
        have d' : Data.seq vs.toArray _ = Data.dict es ep := d
        cases d'
    have nsK : ∀ {b : Addr} {m : Str → Option Value}, s₁.heap.Ns b m → (hidT s₁.heap H).Ns b m := fun {b m} ⟨o, es, ep, e, d, r⟩ => ⟨o, es, ep, base_of e (noA e d), d, r⟩
    have hKb : K.In (hidT s₁.heap H) := fun b o e => base_of (KX b o e) (by
      cases q : H b with
      | none => rfl
      | some u =>
        have e' : b = a := hA b (by rw [q]; simp)
        subst e'
        rw [hK (by rw [q]; simp)] at e; cases e)
    have hM : Mod K mg (hidT s₁.heap H) := ⟨hKb, nsK hns, ⟨mb, nsK hb, hbb⟩, let ⟨mc, h1, h2⟩ := hlim; ⟨mc, nsK h1, h2⟩⟩
    have e0 : Env0 P w K mg (hidT s₁.heap H) callerA [] s₁ H := ⟨rfl, hM, fun b o e => of_hidT e, Nat.le_of_eq (hidT_size _ _), trivial, fun b hb => absurd (show b ∈ ([] : List Addr) from hb) (by simp), hok, .of_eq hg⟩
    refine codeAny_mono ((F _ hKb (nsK hns)).run callerA [] s₁ H ⟨[.ref a], []⟩ [.ref a] [.ref a] _ _ hr e0 (hbind s₁ (.ref a)) (.cons rfl .nil) (hsp H hO hS)) fun r s' h => ?_
    cases r with
    | error e => exact (hCX H e s' h).elim
    | ok fl =>
      cases fl with
      | next => exact False.elim h
      | brk => exact False.elim h
      | cont => exact False.elim h
      | ret u =>
        obtain ⟨v, H', os, bare, un, hok', r', q⟩ := h
        have q' : v = .bl true := q
        subst q'
        obtain rfl : u = Value.bool true := r'
        refine ⟨rfl, OldK.of_keep fun b o e => ?_, os, bare⟩
        cases q : H b with
        | none => exact un.keep b o e q (by intro z; exact absurd (show b ∈ ([] : List Addr) from z) (by simp)) (by simp)
        | some u =>
          rcases hO b with z | ⟨ob, xs, z⟩
          · rw [q] at z; cases z
          · have z2 := un.frzs b ob _ z
            obtain ⟨e1, _⟩ := hok b _ z
            obtain ⟨e2, _⟩ := hok' b _ z2
            rw [e] at e1; cases e1
            exact e2
  cases hk : K.lookup a with
  | some o =>
    -- the script is one of the module's own objects
    have e := KX a o hk
    rw [ha] at e
    cases e
    refine core (fun _ => none) (fun _ => .inl rfl) (.inr ⟨_, vs.toArray, _, hk, rfl, rfl, rfl, by rw [List.size_toArray, lenV]; exact hl, by simpa using rv⟩) (fun b u z => by have z' : (none : Option HO) = some u := z; cases z') (fun b z => absurd rfl z) fun z => absurd rfl z
  | none =>
    refine core (fun b => if b = a then some (.frz { cls := .type "list", data := .seq vs.toArray } (.lst (ns.map V.int))) else none) (fun b => ?_) (.inl (.inr ⟨{ cls := .type "list", data := .seq vs.toArray }, if_pos rfl⟩)) (fun b u z => ?_) (fun b z => ?_) fun _ => hk
    · by_cases hb : b = a
      · exact .inr ⟨_, _, if_pos hb⟩
      · exact .inl (if_neg hb)
    · by_cases hb : b = a
      · have z' := (if_pos hb).symm.trans z
        cases z'
        subst hb
        exact ⟨ha, by rw [List.length_map]; exact hl, vs, _, rv, ha⟩
      · have z' := (if_neg hb).symm.trans z
        cases z'
    · by_cases hb : b = a
      · exact hb
      · exact absurd (if_neg hb) z
end L2

namespace L2
open PySem PySem.Spec PyProof.Rows

abbrev KOf {K : PySem.W.Frag} {h : Heap} (_ : K.In h) : PySem.W.Frag := K

/-- the goal that k_head leaves (case hc), from the law's promise. F gives the function object fd (K's own) once, then the promise over every base -/
theorem walk_of {l : PySem.W.OpenLaw} {n k : Nat} {q : Program} {loose : List Str} {XP : (Str → Option Value) → Heap → Prop} {YP : World → Heap → Prop} {d : DefRec} {K : Params → PySem.W.Frag} {CX : World → CXT} {sp : World → Sp} {x : Str}
    (hn : l.most = some n) (hn2 : n ≤ sizeLine) (hdf : d.params.defaults = []) (hr : Room k callerA)
    (hY : ∀ (w : World) (h : Heap), YP w h → (K w.params).In h)
    (F : ∀ (w : World) (mg : Str → Option Value) (fa : Addr) (h : Heap), (K w.params).In h → h.Ns mainGlobals mg → mg d.name = some (.ref fa) →
      ∃ fd : FuncData, (∀ (s : Shared) (u : Value), BindsTo s fd ⟨[u], []⟩ [(x, u)]) ∧
        ∀ base : Heap, (K w.params).In base → base.Ns mainGlobals mg → FnOk l.prog w (K w.params) mg base (CX w) k fa fd [x] (sp w))
    (hsp : ∀ (w : World) (H : Hp) (a : Addr) (ns : List Int), ns.length ≤ n → Only H → SqL (K w.params) H a (ns.map V.int) → sp w [.ref a] H (fun v _ => v = .bl true) fun _ _ _ => False)
    (hCX : ∀ (w : World) (H : Hp) (s : Shared) (e : Value) (s' : Shared), CX w [] H s (fun _ _ _ => False) e s' → False) :
    PySem.W.WalkO q loose XP YP l.row.toRowW d [] (fun f vs => PySem.call f vs) := by
  refine Att.attach_call hn hdf fun w s₀ s₁ mg mb fa o pm cd doc a vs ns G Y ho hd hcd hmg hobj hints hlen hg => ?_
  have KX := hY w _ Y
  obtain ⟨fd, hb, hF⟩ := F w mg fa _ KX G.T.g hmg
  exact law_call KX G.T.g G.T.b G.T.builtins G.T.nolimit hg hobj hints (Nat.le_trans hlen hn2) hr hF hb (fun H hO hS => hsp w H a ns hlen hO hS) fun H e s' => hCX w H s₁ e s'
end L2

/- THE LAST THEOREM (shape; LID, My.* are yours):
   My.Adr: a structure of the addresses that your layer names (classes, functions); My.Txt K t: a structure (Prop) of the equations over K;
   My.txt_mk : {K} {implicit addresses ..} (e1 : nsIn K mainGlobals "law" = some (some (.ref f))) (e2 : K.lookup f = some ⟨oc, od, .func (fnOf "law" "law" params body scope dV kV doc pm an cdv ct), sl⟩) (e3 : codeIn K cdv "law" = true) .. : ∃ t, My.Txt K t

set_option maxRecDepth 100000 in
set_option maxHeartbeats 0 in
theorem PySem.Challenge.cw_LID_holds : PySem.Challenge.rw_LID.Holds := by
  w_on; o_law; k_head; (case hw => w_witness2)
  k_fill
  refine L2.walk_of (l := PySem.Challenge.rw_LID) (n := 63) (k := 40) (x := "script") (CX := fun w => ..) (sp := fun _ => My.sp_law) rfl (by decide) rfl ⟨rfl, by decide, by decide⟩ (fun w h Y => PySem.W.kIn_of Y) ?F ?S ?C
  case F =>
    intro w mg fa h KX G hmg
    have T : ∃ t, My.Txt (L2.KOf KX) t := by
      dsimp only [L2.KOf]                          -- K must stand as «<heap const> w.params» for k_is
      refine' My.txt_mk ?e1 ?e2 ?e3 ..
      (case e1 => PySem.W.k_is)                    -- in the order: a name -> its address -> its object -> its parts
      (case e2 => PySem.W.k_is)
      ..
    obtain ⟨t, T⟩ := T
    have e0 := hmg.symm.trans (PySem.W.mg_of KX G T.law)
    cases e0                                       -- fa is the law's own address
    exact ⟨_, fun s u => .of_eq rfl, fun base kb nb => My.law_fn T kb nb⟩     -- if «.of_eq rfl» comes too early: refine' ⟨_, ?b, fun base kb nb => My.law_fn T kb nb⟩; exact fun s u => .of_eq rfl
  case S => exact fun w H a ns hl hO hS => ..
  case C => exact ..
(the tactic k_is has no namespace: write k_is) -/

/-! SHORT WORDS over the layer: a def of the text, its body, what a loop and a test want. -/
namespace L2
open PySem PySem.Spec PyProof.Rows

/-! ### the text by places -/
/-- the j-th statement of a class's body -/
def inClass (s : Stmt) (j : Nat) : Stmt := match s with
  | .ClassDef _ _ _ body _ _ _ _ _ _ _ => body.getD j (.Pass ⟨0, 0, 0, 0⟩)
  | _ => .Pass ⟨0, 0, 0, 0⟩
def defArgs (s : Stmt) : Arguments := match s with
  | .FunctionDef _ a _ _ _ _ _ _ _ _ => a
  | _ => { posonlyargs := [], args := [], vararg := none, kwonlyargs := [], kw_defaults := [], kwarg := none, defaults := [] }
def defBody (s : Stmt) : List Stmt := match s with
  | .FunctionDef _ _ b _ _ _ _ _ _ _ => b
  | _ => []
def defScope (s : Stmt) : Scope := match s with
  | .FunctionDef _ _ _ _ _ _ sc _ _ _ => sc
  | _ => { kind := .function, names := [], isGenerator := false, isCoroutine := false }

/-! ### no exception leaves a def -/
abbrev CX0 : CXT := fun _ _ _ _ _ _ => False
abbrev E0 : XK := fun _ _ _ => False
/-! ### a def (or method) of the text as it stands behind the top -/
structure Fun (K : PySem.W.Frag) (x qual : Str) (st : Stmt) (f : Addr) (fd : FuncData) : Prop where
  ex : ∃ (oc : Value) (od : Option Addr) (kV doc pm : Value) (an : Option Addr) (cdv ct : Value) (osl : Array (Option Value)),
    fd = PySem.W.fnOf x qual (defArgs st) (defBody st) (defScope st) .none kV doc pm an cdv ct ∧ K.lookup f = some ⟨oc, od, .func fd, osl⟩ ∧ PySem.W.codeIn K cdv qual = true
  kp : PySem.W.keepIn K (.ref f) = true
section
variable {P : Program} {w : World} {K : PySem.W.Frag} {mg : Str → Option Value} {base : Heap}
/-- THE RULE for a def: its body as a term of rules, and the reading of that term -/
theorem Fun.ok {x qual : Str} {st : Stmt} {f : Addr} {fd : FuncData} {N ps : List Str} {k : Nat} {sp : Sp} (F : Fun K x qual st f fd) (S : FnScope N ps (defScope st)) (len : ∀ vs H Q E, sp vs H Q E → vs.length = ps.length)
    (hbody : ∀ (cdv : Value) (A : Around) (outer : List Env) (s : Shared) (H : Hp) (vs : List V) (Q : VK) (E : XK), Room k (A.deeper (envOfC qual (defScope st) s.heap.objs.size f cdv)) → sp vs H Q E →
      ∃ t, PSs (cxOf CX0 P w K mg base N qual (defScope st) f cdv A outer s H E).nox (defBody st) t ∧ t { nx := fun _ H' => Q .non H', rt := Q } (start N vs) H) : FnOk P w K mg base CX0 (k + 1) f fd ps sp := by
  obtain ⟨oc, od, kV, doc, pm, an, cdv, ct, osl, rfl, lk, hcd⟩ := F.ex
  refine fn_of lk hcd S len fun A outer s H vs Q E hr hsp => ?_
  obtain ⟨t, h, q⟩ := hbody cdv A outer s H vs Q E hr hsp
  exact ⟨t, h.nox, q⟩
/-- how its arguments bind (no defaults): h is «fun _ _ _ _ _ _ us hl => match us, hl with | [_, _], _ => rfl», one _ a parameter -/
theorem Fun.binds {x qual : Str} {st : Stmt} {f : Addr} {fd : FuncData} {ps : List Str} (F : Fun K x qual st f fd)
    (h : ∀ (kV doc pm : Value) (an : Option Addr) (cdv ct : Value) (us : List Value), us.length = ps.length → bindArgs (PySem.W.fnOf x qual (defArgs st) (defBody st) (defScope st) .none kV doc pm an cdv ct) ⟨us, []⟩ = pure (ps.zip us)) : Binds K fd ps [] := by
  obtain ⟨oc, od, kV, doc, pm, an, cdv, ct, osl, rfl, lk, hcd⟩ := F.ex
  exact .all (h kV doc pm an cdv ct)
theorem fun_mk {x qual : Str} {st : Stmt} {f : Addr} {oc : Value} {od an : Option Addr} {osl : Array (Option Value)} {kV doc pm cdv ct : Value} (l : K.lookup f = some ⟨oc, od, .func (PySem.W.fnOf x qual (defArgs st) (defBody st) (defScope st) .none kV doc pm an cdv ct), osl⟩)
    (c : PySem.W.codeIn K cdv qual = true) (k : PySem.W.keepIn K (.ref f) = true) : Fun K x qual st f (PySem.W.fnOf x qual (defArgs st) (defBody st) (defScope st) .none kV doc pm an cdv ct) := ⟨⟨oc, od, kV, doc, pm, an, cdv, ct, osl, rfl, l, c⟩, k⟩
end
/-! ### expressions in short: the name that stands in the i-th slot -/
section
variable {X : Cx}
theorem pv (i : Nat) {x : Str} {pos : Pos} (hN : X.N[i]? = some x := by rfl) (hv : Vis X.env.scope x := by first | exact Or.inl rfl | exact Or.inr (Or.inl rfl) | exact Or.inr (Or.inr rfl)) (hd : (x == ("__debug__" : Str)) = false := by decide)
    (hcd : (x == ("__classdict__" : Str)) = false := by decide) : PE X (.Name x pos) (tVar i) := pe_var hN hv hd hcd
end

/-! ### tests -/
/-! ### heaps -/
/-- all that was tracked is as it was -/
def Same (H H' : Hp) : Prop := ∀ b o, H b = some o → H' b = some o
theorem Same.refl (H : Hp) : Same H H := fun _ _ h => h
theorem Same.trans {H H1 H2 : Hp} (a : Same H H1) (b : Same H1 H2) : Same H H2 := fun c o h => b c o (a c o h)
theorem Same.free {H H' : Hp} (e : Same H H') {l : Addr} (h : H' l = Option.none) : H l = Option.none := by
  cases q : H l with
  | none => rfl
  | some o =>
    rw [e l o q] at h
    cases h
theorem Same.seq {K : PySem.W.Frag} {H H' : Hp} {a : Addr} {xs : List V} (e : Same H H') (h : SqL K H a xs) : SqL K H' a xs := by
  rcases h with (h | ⟨o, h⟩) | h
  · exact .inl (.inl (e _ _ h))
  · exact .inl (.inr ⟨o, e _ _ h⟩)
  · exact .inr h

end L2

set_option maxHeartbeats 4000000

/-! ## EXCEPTIONS over the layer: raised, passed on through frames, caught. -/
namespace L2
open PySem PySem.Spec PyProof.Rows
theorem ObjOk.is {P : Program} {w : World} {H : Hp} {h : Heap} {a : Addr} {o : HO} (x : ObjOk P w H h a o) : ∃ ob, h.get? a = some ob := by
  cases o with
  | lst xs => obtain ⟨_, _, _, _, e⟩ := x; exact ⟨_, e⟩
  | tup xs => obtain ⟨_, _, _, ob, e, _⟩ := x; exact ⟨_, e⟩
  | dK kvs => obtain ⟨_, _, _, _, o, _, _, e, _⟩ := x; exact ⟨_, e⟩
  | dT kvs => obtain ⟨_, _, _, _, o, _, _, e, _⟩ := x; exact ⟨_, e⟩
  | set S n => obtain ⟨o, _, _, _, e, _⟩ := x; exact ⟨_, e⟩
  | ins C dx fs => obtain ⟨_, _, _, e, _⟩ := x; exact ⟨_, e⟩
  | own y => obtain ⟨_, e⟩ := x; exact ⟨_, e⟩
  | xd fs => obtain ⟨_, ⟨_, _, _, e, _⟩, _⟩ := x; exact ⟨_, e⟩
  | rng lo hi => obtain ⟨_, _, _, e⟩ := x; exact ⟨_, e⟩
  | frz ob u => obtain ⟨e, _⟩ := x; exact ⟨_, e⟩
  | tbl ps => exact ⟨_, (show h.get? a = some _ from x)⟩
  | met f y => exact ⟨_, (show h.get? a = some _ from x)⟩
  | ext φ => obtain ⟨_, ⟨_, e⟩, _⟩ := x; exact ⟨_, e⟩

/-- an exception in flight at ea, of the class cls: the frames of l are still to be left; B: all that stays as it is (all but those frames, the exception and its traces) -/
structure Fly (P : Program) (w : World) (l : List Env) (H : Hp) (s : Shared) (ea : Addr) (cls : Value) (H' : Hp) (s' : Shared) : Prop where
  os : s'.os = s.os
  bare : AllBare s'.gens
  un : Un (frs l) [] H H' s.heap s'.heap
  ex : ∃ B a0, Heap.FlyingW B l ea cls a0 s'.heap ∧ HOk P w H' B ∧ (∀ b o, s.heap.get? b = some o → H b = none → b ∉ frs l → B.get? b = some o) ∧
    ∀ b o, s.heap.get? b = some o → b ∉ frs l → ∃ o', B.get? b = some o'
/-- a def's own frame -/
structure Cx.Own (X : Cx) : Prop where
  stk : X.stack = X.env :: X.outer
  fr : X.env.frame = some X.env.locals
  ex : X.ex = []
section
variable {X : Cx} {pins : List (Addr × Obj)} {σ : St} {H H' : Hp} {s s' : Shared} {ea : Addr} {cls a0 : Value} {B h1 h2 h' : Heap} {M : Model} {E : Value → Shared → Prop} {Q : Unit → Shared → Prop}
/-- out of the frame -/
theorem Inv.fly_out (W : X.Own) (I : Inv X pins σ H s) (u : Un (frs X.stack) [] H H' s.heap h1) (up : h1.UpToSlots s'.heap) (ff : h1.FunFrames B X.stack) (fl : Heap.FlyingW B X.outer ea cls a0 s'.heap) (hok : HOk X.prog X.w H' B)
    (kp : ∀ b o, s.heap.get? b = some o → H b = none → b ∉ frs X.stack → B.get? b = some o) (th : ∀ b o, s.heap.get? b = some o → b ∉ frs X.stack → ∃ o', B.get? b = some o') (os : s'.os = s.os) (bare : AllBare s'.gens) :
    Fly X.prog X.w X.outer X.H₀ X.s₀ ea cls H' s' := by
  have nst : ∀ b o, X.s₀.heap.get? b = some o → b ∉ frs X.outer → b ∉ frs X.stack := fun b o e hb z => by
    rcases List.mem_cons.mp (I.stkSub b z) with q | q
    · exact absurd q (Nat.ne_of_lt (Nat.lt_of_lt_of_le (Heap.lt_size e) I.ok.above))
    · exact hb q
  have nx : ∀ b, b ∉ X.ex := fun b => by rw [W.ex]; simp
  have nn : ∀ b : Addr, b ∉ ([] : List Addr) := fun b => by simp
  have inS : ∀ b, b ∈ frs X.outer → b ∈ frs X.stack := fun b hb => by
    rw [W.stk]
    obtain ⟨env, he, hf⟩ := List.mem_filterMap.mp hb
    exact List.mem_filterMap.mpr ⟨env, List.mem_cons_of_mem _ he, hf⟩
  have kpo : ∀ b o, X.s₀.heap.get? b = some o → X.H₀ b = none → b ∉ frs X.outer → B.get? b = some o := fun b o e n hb =>
    kp b o (I.base.keep b o e n hb (nx b)) (I.base.free b o e n (nx b)) (nst b o e hb)
  refine ⟨os.trans I.os, bare, ⟨fun b o e n hb _ => fl.1 b o (kpo b o e n hb), fun b o e n hb _ => ?_, fun b o e n _ => ?_, fun b o e _ => ?_, fun b xs e => u.tups b xs (I.base.tups b xs e), fun b o xs e => u.frzs b o xs (I.base.frzs b o xs e), fun b ps e => ?_⟩,
    B, a0, fl, hok, kpo, fun b o e hb => ?_⟩
  · obtain ⟨sl, e1⟩ := I.base.slot b o e n hb (nx b)
    obtain ⟨sl2, e2⟩ := u.any e1 (I.base.free b o e n (nx b)) (nn b)
    obtain ⟨_, o', ho', hnf⟩ := ff.mem (inS b hb)
    rw [e2] at ho'
    cases ho'
    obtain ⟨sl3, e3⟩ := up b _ e2 hnf
    exact ⟨sl3, e3⟩
  · obtain ⟨o', e1⟩ := I.base.there b o e (nx b)
    exact u.free b o' e1 (I.base.free b o e n (nx b)) (nn b)
  · obtain ⟨o1, e1⟩ := I.base.there b o e (nx b)
    by_cases hb : b ∈ frs X.stack
    · obtain ⟨_, o', ho', hnf⟩ := ff.mem hb
      obtain ⟨sl3, e3⟩ := up b _ ho' hnf
      exact ⟨_, e3⟩
    · obtain ⟨o2, e2⟩ := th b o1 e1 hb
      exact ⟨o2, fl.1 b o2 e2⟩
  · obtain ⟨m1, e1⟩ := I.base.tbls b ps e
    obtain ⟨m2, e2⟩ := u.tbls b _ e1
    exact ⟨m1 ++ m2, by rw [e2, Array.append_assoc]⟩
  · obtain ⟨o1, e1⟩ := I.base.there b o e (nx b)
    exact th b o1 e1 (nst b o e hb)

theorem fly_on (W : X.Own) (I : Inv X pins σ H s) (F : Fly X.prog X.w X.stack H s ea cls H' s')
    (hQ : ∀ h', Fly X.prog X.w X.outer X.H₀ X.s₀ ea cls H' { s' with heap := h' } → Q () { s' with heap := h' }) : wpAny M X.A (leaving X.env (.ref ea)) Q E s' := by
  obtain ⟨B, a0, fl, hok, kp, th⟩ := F.ex
  have fl2 := fl
  rw [W.stk] at fl2
  refine wpAny_leaves_onW (by rw [I.ok.frames, W.stk]) W.fr fl2 fun h' fl' up => hQ h' ?_
  exact I.fly_out W F.un up fl.2.2.1 fl' hok kp th F.os F.bare

/-- what is kept of the heap while an exception made here flies -/
theorem Inv.hide (I : Inv X pins σ H s) : HOk X.prog X.w H (PySem.W.hideAll s.heap (frs X.stack)) ∧
    s.heap.FunFrames (PySem.W.hideAll s.heap (frs X.stack)) X.stack := by
  refine ⟨fun a u e => (I.hok a u e).stay (fun b v hc q => PySem.W.hideAll_get _ q fun z => ?_) (fun _ q => q) fun _ _ q => q, PySem.W.funFrames_hide I.stack fun env he a ha => List.mem_filterMap.mpr ⟨env, he, ha⟩⟩
  have n := I.stkFree b z
  rcases hc with rfl | hc
  · rw [n] at e; cases e
  · rw [n] at hc; cases hc

theorem fly_new (W : X.Own) (I : Inv X pins σ H s) {args : List Value} (hx : Heap.MadeExcOf s.heap h2 ea cls args)
    (hQ : ∀ h', Fly X.prog X.w X.outer X.H₀ X.s₀ ea cls H { s with heap := h' } → Q () { s with heap := h' }) : wpAny M X.A (leaving X.env (.ref ea)) Q E { s with heap := h2 } := by
  obtain ⟨hok, ff⟩ := I.hide
  have ff2 := ff
  rw [W.stk] at ff2
  refine wpAny_leaves_madeW (s := { s with heap := h2 }) (base := PySem.W.hideAll s.heap (frs X.stack)) (h := s.heap) (by rw [I.ok.frames, W.stk]) W.fr (fun b o q => PySem.W.of_hideAll _ q) (by rw [← W.stk]; exact ff) hx fun h' t fl tup bt up => hQ h' ?_
  exact I.fly_out (s' := { s with heap := h' }) W (Un.kept hx.keeps) up (ff.of_keeps fun b o e _ => ⟨o, hx.keeps b o e, rfl⟩) fl hok (fun b o e _ hb => PySem.W.hideAll_get _ e hb) (fun b o e hb => ⟨o, PySem.W.hideAll_get _ e hb⟩) rfl I.bare
end

/-- how an exception lies behind a call -/
def CXE (P : Program) (w : World) : CXT := fun l H s E e s' => ∃ ea cls H', e = .ref ea ∧ Fly P w l H s ea cls H' s' ∧ E cls none H'
/-- what is wanted of exceptions in X: Ek, of the names' values, the class, the heap -/
structure Lv (X : Cx) (Ek : St → XK) : Prop where
  call : ∀ pins σ ea cls H H' s s', Inv X pins σ H s → Fly X.prog X.w X.stack H s ea cls H' s' → Ek σ cls none H' → X.xe (.ref ea) s'
structure LvR (X : Cx) (Ek : St → XK) : Prop extends Lv X Ek where
  new : ∀ pins σ ea cls args H s h2, Inv X pins σ H s → Heap.MadeExcOf s.heap h2 ea cls args → Ek σ cls none H → X.xe (.ref ea) { s with heap := h2 }
theorem lv_def {P : Program} {w : World} {K : PySem.W.Frag} {mg : Str → Option Value} {base : Heap} {N : List Str} {qual : Str} {scope : Scope} {f : Addr} {cd : Value} {A : Around} {outer : List Env} {s : Shared} {H : Hp} {E : XK} :
    LvR (cxOf (CXE P w) P w K mg base N qual scope f cd A outer s H E) (fun _ => E) := by
  have W : (cxOf (CXE P w) P w K mg base N qual scope f cd A outer s H E).Own := ⟨rfl, rfl, rfl⟩
  refine ⟨⟨fun pins σ ea cls H1 H' s1 s' I F q => ?_⟩, fun pins σ ea cls args H1 s1 h2 I hx q => ?_⟩
  · exact fly_on W I F fun h' F => ⟨ea, cls, H', rfl, F, q⟩
  · exact fly_new W I hx fun h' F => ⟨ea, cls, H1, rfl, F, q⟩
section
variable {X : Cx} {Ek : St → XK} {k : Nat} {f C : Addr} {fd : FuncData} {ps : List Str} {sp : Sp} {dvs : List V} {ds : List Value} {x : Str} {p pos : Pos} {e : Expr} {es : List Expr} {t : TA}
theorem run_fnX {pins : List (Addr × Obj)} {σ : St} {H : Hp} {s : Shared} {Q : VK} {us : List Value} {vs : List V} (L : Lv X Ek) (F : FnOk X.prog X.w X.K X.mg X.base (CXE X.prog X.w) k f fd ps sp) (hr : Room k X.A) (hb : Binds X.K fd ps ds) (hd : Vals dvs ds)
    (I : Inv X pins σ H s) (r : Vals vs us) (h : sp (vs ++ dvs) H Q (Ek σ)) : wpAny (model X.prog X.w) X.A (call (.ref f) us) (EP X pins σ Q) X.xe s := by
  have r2 : Vals (vs ++ dvs) (us ++ ds) := r.append hd
  have hl : (us ++ ds).length = ps.length := by rw [← r2.length]; exact F.len _ _ _ _ h
  refine wpAny_call (codeAny_mono (F.run X.A X.stack s H ⟨us, []⟩ (us ++ ds) (vs ++ dvs) Q (Ek σ) hr I.env0 (hb s us I.kIn hl) r2 h) fun r s' hq => ?_)
  cases r with
  | error e =>
    obtain ⟨ea, cls, H', rfl, fl, q⟩ := hq
    exact L.call pins σ ea cls H H' s s' I fl q
  | ok fl =>
    cases fl with
    | ret u => exact I.after hq
    | next => exact False.elim hq
    | brk => exact False.elim hq
    | cont => exact False.elim hq
/-- f(e, ..); exceptions go to Ek -/
def tCallX (sp : Sp) (dvs : List V) (Ek : St → XK) (t : TA) : TE := fun σ H Q => t σ H fun vs H1 => sp (vs ++ dvs) H1 Q (Ek σ)
theorem pe_callX (L : Lv X Ek) (F : FnOk X.prog X.w X.K X.mg X.base (CXE X.prog X.w) k f fd ps sp) (hr : Room k X.A) (hg : Gl X x) (hm : X.mg x = some (.ref f)) (hk : PySem.W.keepIn X.K (.ref f) = true) (hb : Binds X.K fd ps ds) (hd : Vals dvs ds)
    (ha : PA X (e :: es) t) (hdb : (x == ("__debug__" : Str)) = false := by decide) (he : starEach (e :: es) X.env = (false, eval e X.env) :: starEach es X.env := by rfl) (hpl : (backTo pos (starEach es X.env)).any (·.1) = false := by rfl) :
    PE X (.Call (.Name x p) (e :: es) [] pos) (tCallX sp dvs Ek t) := by
  intro pins s σ H Q I h
  refine wpAny_Call_Name_kw (ld_glob I hg hm ?_ hdb)
  refine PySem.W.callWith_K (h₀ := X.base) I.ok.mod.kin hk (thn (ha pos pins s σ H _ I h) fun us s1 ⟨vs, H1, I1, r, q⟩ => ⟨I1.kIn, ?_⟩) he hpl
  exact run_fnX L F hr hb hd I1 r q
/-! ### raise C(e, ..), C a class of the text under ValueError without an __init__ of its own -/
/-- the class of an exception: where it stands, that it is made plainly -/
structure Exc (K : PySem.W.Frag) (C : Addr) : Prop where
  ok : ∃ bmB newId initId, ExcBaseFacts "ValueError" newId initId bmB ∧ PySem.W.excIn K C bmB newId = true
theorem exc_obj {K : PySem.W.Frag} {h : Heap} {C : Addr} {bmB : List Value} {newId : String} (X : K.In h) (q : PySem.W.excIn K C bmB newId = true) :
    ∃ bm N nm q bs hdct sn sub ab col dd k0 k1 k2 k3 k5 mN, h.get? C = some (excClassObj nm q C N bs bm hdct sn sub ab col dd k0 k1 k2 k3 k5 newId) ∧ h.Ns N mN ∧ mN "__init__" = none ∧ OwnTail h bmB bm := by
  unfold PySem.W.excIn at q
  split at q
  case h_2 => cases q
  case h_1 dd cd sl ho =>
    split at q
    case h_2 => cases q
    case h_1 C1 bm1 a0 a1 a2 a3 nw a5 hm hs =>
      simp only [Bool.and_eq_true, beq_iff_eq, Bool.not_eq_true'] at q
      obtain ⟨⟨⟨⟨⟨e1, e2⟩, e3⟩, e4⟩, e5⟩, e6⟩ := q
      subst e1
      subst e2
      cases cd with
      | mk nm bs mro ns qn hd sn sub ab col del =>
        have m1 : mro = .ref C1 :: bm1 := hm
        have m2 : del = false := e3
        subst m1
        subst m2
        have z : sl = #[a0, a1, a2, a3, some (.builtin nw), a5] := Array.toList_inj.mp hs
        subst z
        exact ⟨bm1, ns, nm, qn, bs, hd, sn, sub, ab, col, dd, a0, a1, a2, a3, a5, _, X _ _ ho, Heap.Ns.of_isNs (PySem.W.isNs_of_in X e5), PySem.W.nsMap_none_of_in X e5 e6, PySem.W.tail_of_in X e4⟩
def sRaise (C : Addr) (Ek : St → XK) (t : TA) : TS := fun _ σ H => t σ H fun vs H1 => vs.length ≤ sizeLine ∧ Ek σ (.ref C) none H1
theorem ps_raise (L : LvR X Ek) (O : Exc X.K C) (hc : X.calm = true) (hg : Gl X x) (hm : X.mg x = some (.ref C)) (ha : PA X (e :: es) t) (hdb : (x == ("__debug__" : Str)) = false := by decide)
    (he : starEach (e :: es) X.env = (false, eval e X.env) :: starEach es X.env := by rfl) (hpl : (backTo pos (starEach es X.env)).any (·.1) = false := by rfl) {rpos : Pos} :
    PS X (.Raise (some (.Call (.Name x p) (e :: es) [] pos)) none rpos) (sRaise C Ek t) := by
  intro pins s σ H D I h
  obtain ⟨bmB, newId, initId, FB, q⟩ := O.ok
  obtain ⟨tl, N, nm, qn, bs, hdct, sn, sub, ab, col, dd, k0, k1, k2, k3, k5, mN, hC, hN, hni, T⟩ := exc_obj I.ok.mod.kin q
  refine wpAny_Raise_call_subT (C := C) (nm := nm) (q := qn) (N := N) (bs := bs) (bm := tl) (hdct := hdct) (sn := sn) (sub := sub) (ab := ab) (col := col) (dd := dd) (k0 := k0) (k1 := k1) (k2 := k2) (k3 := k3) (k5 := k5)
    FB (mN := mN) (T.hasType FB.hasBase) (I.ok.hd hc) (by rw [he]; show (false || (backTo pos (starEach es X.env)).any (·.1)) = false; rw [hpl]; rfl) hni (ld_glob I hg hm ⟨rfl, ?_⟩ hdb)
  have ha' := ha pos pins s σ H _ I h
  rw [he] at ha' ⊢
  refine Calls.evalArgs_plain (wpAny_mono ha' (fun us s2 hq => ?_) fun _ _ y => y)
  obtain ⟨vs, H1, I1, r, hl, q1⟩ := hq
  refine ⟨rfl, by rw [← r.length]; exact hl, I1.bk _ _ hC, hN.keeps I1.bk, T.keeps I1.bk, fun h' ea hm => ?_⟩
  exact L.new pins σ ea _ us H1 s2 h' I1 hm q1
end

/-! ### caught -/
/-- an exception that lies there, of the class cls -/
def excAt (ea : Addr) (cls : Value) : HO := .ext fun h => ∃ o vs, h.get? ea = some o ∧ o.cls = cls ∧ o.data = .fields vs
theorem Un.flown {l : List Env} {H H' : Hp} {h h1 h2 B : Heap} (u : Un (frs l) [] H H' h h1) (ff : h1.FunFrames B l) (up : h1.UpToSlots h2) (st : B.StaysIn h2)
    (kp : ∀ b o, h.get? b = some o → H b = none → b ∉ frs l → B.get? b = some o) (th : ∀ b o, h.get? b = some o → b ∉ frs l → ∃ o', B.get? b = some o') : Un (frs l) [] H H' h h2 := by
  refine ⟨fun b o e n hb _ => st b o (kp b o e n hb), fun b o e n hb hx => ?_, u.free, fun b o e _ => ?_, u.tups, u.frzs, u.tbls⟩
  · obtain ⟨sl2, e2⟩ := u.slot b o e n hb hx
    obtain ⟨_, o', ho', hnf⟩ := ff.mem hb
    rw [e2] at ho'
    cases ho'
    obtain ⟨sl3, e3⟩ := up b _ e2 hnf
    exact ⟨sl3, e3⟩
  · by_cases hb : b ∈ frs l
    · obtain ⟨_, o', ho', hnf⟩ := ff.mem hb
      obtain ⟨sl3, e3⟩ := up b _ ho' hnf
      exact ⟨_, e3⟩
    · obtain ⟨o2, e2⟩ := th b o e hb
      exact ⟨o2, st b o2 e2⟩
section
variable {X : Cx} {pins : List (Addr × Obj)} {σ : St} {H H' : Hp} {s s' : Shared}
/-- another wish, other pins, other code around -/
abbrev Cx.other (X : Cx) (pn : List (Addr × Obj)) (xe : Value → Shared → Prop) : Cx := { X with pn := pn, xe := xe }
abbrev Cx.suite (X : Cx) (ea : Addr) : Cx := { X with A := X.A.mark (some (.ref ea)), calm := false, xe := fun _ _ => False }
theorem Cx.Ok.other (ok : X.Ok) (pn : List (Addr × Obj)) (xe : Value → Shared → Prop) : (X.other pn xe).Ok :=
  ⟨ok.mod, ok.kind, ok.glob, ok.blt, ok.above, ok.inj, ok.has, ok.cab, ok.hd, ok.frames, ok.stk, ok.exf, ok.bs, ok.bsz, ok.noex, ok.exfs, ok.funs, ok.frf⟩
theorem Cx.Ok.unother {pn : List (Addr × Obj)} {xe : Value → Shared → Prop} (ok : (X.other pn xe).Ok) : X.Ok :=
  ⟨ok.mod, ok.kind, ok.glob, ok.blt, ok.above, ok.inj, ok.has, ok.cab, ok.hd, ok.frames, ok.stk, ok.exf, ok.bs, ok.bsz, ok.noex, ok.exfs, ok.funs, ok.frf⟩
theorem Cx.Ok.suite (ok : X.Ok) (ea : Addr) : (X.suite ea).Ok :=
  ⟨ok.mod, ok.kind, ok.glob, ok.blt, ok.above, ok.inj, ok.has, ok.cab, fun h => (by cases h), ok.frames, ok.stk, ok.exf, ok.bs, ok.bsz, ok.noex, ok.exfs, ok.funs, ok.frf⟩
theorem Inv.other (I : Inv X pins σ H s) (xe : Value → Shared → Prop) : Inv (X.other (X.pn ++ pins) xe) [] σ H s :=
  ⟨I.ok.other _ _, I.os, I.bare, I.base, I.loc, I.cell, I.free, I.freeC, fun p hp => I.pin p (by simpa using hp), I.hok, I.len⟩
theorem Inv.unother {xe : Value → Shared → Prop} {pins' : List (Addr × Obj)} (I : Inv (X.other (X.pn ++ pins) xe) pins' σ H s) : Inv X pins σ H s :=
  ⟨I.ok.unother, I.os, I.bare, I.base, I.loc, I.cell, I.free, I.freeC, fun p hp => I.pin p (List.mem_append_left _ hp), I.hok, I.len⟩
theorem Inv.suite (I : Inv X pins σ H s) (ea : Addr) : Inv (X.suite ea) pins σ H s :=
  ⟨I.ok.suite ea, I.os, I.bare, I.base, I.loc, I.cell, I.free, I.freeC, I.pin, I.hok, I.len⟩
theorem Inv.unsuite {ea : Addr} (ok : X.Ok) (I : Inv (X.suite ea) pins σ H s) : Inv X pins σ H s :=
  ⟨ok, I.os, I.bare, I.base, I.loc, I.cell, I.free, I.freeC, I.pin, I.hok, I.len⟩
/-- a thing that came up unseen is tracked from here on -/
theorem Inv.track {ea : Addr} {φ : Heap → Prop} (I : Inv X pins σ H s) (hn : H ea = none) (ne : ∀ b o, X.s₀.heap.get? b = some o → b ≠ ea) (nl : X.env.locals ≠ ea) (nc : ∀ x c, X.env.cells.lookup x = some c → c ≠ ea)
    (np : ∀ p ∈ X.pn ++ pins, p.1 ≠ ea) (new : ObjOk X.prog X.w (upd H ea (.ext φ)) s.heap ea (.ext φ)) : Inv X pins σ (upd H ea (.ext φ)) s := by
  have nt : ∀ b u, H b = some u → b ≠ ea := fun b u e z => by rw [z, hn] at e; cases e
  refine ⟨I.ok, I.os, I.bare, ⟨I.base.keep, I.base.slot, fun b o e n hx => ?_, I.base.there, fun b xs e => ?_, fun b o xs e => ?_, fun b ps e => ?_⟩, I.loc, I.cell, ?_, fun x c e => ?_, fun p hp => ?_, fun b u e => ?_, I.len⟩
  · rw [upd_ne (ne b o e)]; exact I.base.free b o e n hx
  · have q := I.base.tups b xs e
    rw [upd_ne (nt b _ q)]; exact q
  · have q := I.base.frzs b o xs e
    rw [upd_ne (nt b _ q)]; exact q
  · obtain ⟨m, q⟩ := I.base.tbls b ps e
    exact ⟨m, by rw [upd_ne (nt b _ q)]; exact q⟩
  · rw [upd_ne nl]; exact I.free
  · rw [upd_ne (nc x c e)]; exact I.freeC x c e
  · obtain ⟨e, n, r⟩ := I.pin p hp
    exact ⟨e, by rw [upd_ne (np p hp)]; exact n, r⟩
  · by_cases hb : b = ea
    · subst hb
      rw [upd_same] at e
      cases e
      exact new
    · rw [upd_ne hb] at e
      exact (I.hok b u e).stay (fun _ _ _ q => q) (fun c q => by rw [upd_ne (nt c _ q)]; exact q) fun c xs q => by rw [upd_ne (nt c _ q)]; exact q
/-- the name of an except clause goes -/
theorem Inv.unbind {M : Model} {A : Around} {E : Value → Shared → Prop} {i : Nat} {n : Str} {pos : Pos} {Q : Unit → Shared → Prop} (I : Inv X pins σ H s) (hN : X.N.Nodup) (hi : X.N[i]? = some n) (hk : X.env.scope.names.lookup n = some .local)
    (h : ∀ s', Inv X pins (σ.set i none) H s' → Q () s') : wpAny M A (do bindName X.env n .none; unbindBehindTheSuite X.env n pos) Q E s := by
  obtain ⟨m, hn, hl⟩ := id I.loc
  have hcls : (X.env.scope.kind == .class || (X.env.scope.kind == .module && X.env.locals != X.env.globals)) = false := by rw [I.ok.kind]; rfl
  have cne := I.cne
  refine wpAny_nameGoes_keeps hk hn hcls fun h' v hn' hs => ?_
  obtain ⟨oL, _, _, hoL, _⟩ := id hn
  refine h _ ⟨I.ok, I.os, I.bare, ⟨fun b o e n hb hx => ?_, fun b o e n hb hx => ?_, I.base.free, fun b o e hx => ?_, I.base.tups, I.base.frzs, I.base.tbls⟩, ⟨_, hn', fun j y v' e1 e2 e3 => ?_⟩, fun y c e => ?_, I.free, I.freeC, fun p hp => ?_, fun b ob e => ?_, by simpa using I.len⟩
  · exact (hs.2 b (Nat.ne_of_lt (Nat.lt_of_lt_of_le (Heap.lt_size e) I.ok.above))).trans (I.base.keep b o e n hb hx)
  · obtain ⟨sl, e1⟩ := I.base.slot b o e n hb hx
    exact ⟨sl, (hs.2 b (Nat.ne_of_lt (Nat.lt_of_lt_of_le (Heap.lt_size e) I.ok.above))).trans e1⟩
  · obtain ⟨o', e1⟩ := I.base.there b o e hx
    exact ⟨o', (hs.2 b (Nat.ne_of_lt (Nat.lt_of_lt_of_le (Heap.lt_size e) I.ok.above))).trans e1⟩
  · by_cases hj : j = i
    · subst hj
      rw [List.getElem?_set] at e2
      simp at e2
    · rw [List.getElem?_set_ne (Ne.symm hj)] at e2
      obtain ⟨u', r', q⟩ := hl j y v' e1 e2 e3
      refine ⟨u', r', ?_⟩
      rcases q with ⟨k, e⟩ | ⟨k, c, e, z⟩
      · refine .inl ⟨k, ?_⟩
        have : y ≠ n := fun e => hj (nodup_ix hN e1 (e ▸ hi))
        simp [this, e]
      · exact .inr ⟨k, c, e, z.sameBut hs (cne y c e)⟩
  · obtain ⟨w', z⟩ := I.cell y c e
    exact ⟨w', z.sameBut hs (cne y c e)⟩
  · obtain ⟨e, n, ne, nf, d⟩ := I.pin p hp
    exact ⟨(hs.2 p.1 ne).trans e, n, ne, nf, d⟩
  · refine (I.hok b ob e).stay (fun c w' hc q => (hs.2 c ?_).trans q) (fun _ q => q) fun _ _ q => q
    rintro rfl
    rcases hc with rfl | hc
    · rw [I.free] at e; cases e
    · rw [I.free] at hc; cases hc
/-- what an exception that flies into this frame leaves behind -/
theorem Inv.landed {ea : Addr} {cls a0 : Value} {B h5 : Heap} {g' : Array GenState} {d' : Drawn} {t' : Nat} (W : X.Own) (I : Inv X pins σ H s) (u : Un (frs X.stack) [] H H' s.heap h5) (fl : Heap.FlyingW B X.stack ea cls a0 h5) (hok : HOk X.prog X.w H' B)
    (th : ∀ b o, s.heap.get? b = some o → b ∉ frs X.stack → ∃ o', B.get? b = some o') (hg : AllBare g') :
    H' ea = none ∧ Inv X pins σ H' { s with heap := h5, gens := g', drawn := d', toks := t' } ∧ Inv X pins σ (upd H' ea (excAt ea cls)) { s with heap := h5, gens := g', drawn := d', toks := t' } := by
  have J : Inv X pins σ H' { s with heap := h5, gens := g', drawn := d', toks := t' } := I.call (ch := []) u (hok.kept fl.1) hg (fun b z => absurd z (by simp))
  obtain ⟨oe, vs, he, hc, hd, _⟩ := fl.first
  have ne : ∀ b o, s.heap.get? b = some o → b ≠ ea := fun b o e z => by
    subst z
    by_cases hb : b ∈ frs X.stack
    · obtain ⟨_, o', ho', hnf⟩ := fl.2.2.1.mem hb
      rw [he] at ho'
      cases ho'
      exact hnf vs hd
    · obtain ⟨o2, e2⟩ := th b o e hb
      rw [fl.2.1] at e2
      cases e2
  have hn : H' ea = none := by
    cases q : H' ea with
    | none => rfl
    | some u =>
      obtain ⟨ob, e⟩ := (hok ea u q).is
      rw [fl.2.1] at e
      cases e
  refine ⟨hn, J, J.track hn (fun b o e => ?_) ?_ (fun x c e => ?_) (fun p hp => ?_) ?_⟩
  · obtain ⟨o1, e1⟩ := I.base.there b o e (by rw [W.ex]; simp)
    exact ne b o1 e1
  · obtain ⟨m, ⟨oL, _, _, hoL, _⟩, _⟩ := I.loc
    exact ne _ oL hoL
  · obtain ⟨v, o, ho, _⟩ := I.cell x c e
    exact ne c o ho
  · obtain ⟨e, _⟩ := I.pin p hp
    exact ne p.1 p.2 e
  · exact ⟨⟨oe, vs, he, hc, hd⟩, ⟨oe, he⟩, fun h1 h2 ⟨o, vs, e, r⟩ k => ⟨o, vs, k o e, r⟩⟩
end

section
variable {X : Cx} {body suite : List Stmt} {b₀ : Stmt} {n xn : Str} {i : Nat} {C : Addr} {tb : (St → XK) → TS} {ts : TS} {np hpos pos : Pos}
/-- try: body except C as n: suite; the suite raises nothing -/
def sTry (K : PySem.W.Frag) (C : Addr) (i : Nat) (tb : (St → XK) → TS) (ts : TS) : TS := fun D σ H =>
  tb (fun σ' cls _ H' => PySem.W.exmOne K cls (.ref C) = some true ∧ ∀ ea, H' ea = none →
    ts { nx := fun σ2 H2 => D.nx (σ2.set i none) H2, rt := D.rt, bk := fun σ2 H2 => D.bk (σ2.set i none) H2, ct := fun σ2 H2 => D.ct (σ2.set i none) H2 } (σ'.set i (some (.ref ea))) (upd H' ea (excAt ea cls))) D σ H
end
end L2
namespace L2
open PySem PySem.Spec PyProof.Rows
/-- THE RULE for a def that may raise: its body as a term of rules, and the reading of that term -/
theorem Fun.okX {P : Program} {w : World} {K : PySem.W.Frag} {mg : Str → Option Value} {base : Heap} {x qual : Str} {st : Stmt} {f : Addr} {fd : FuncData} {N ps : List Str} {k : Nat} {sp : Sp} (F : Fun K x qual st f fd) (S : FnScope N ps (defScope st)) (len : ∀ vs H Q E, sp vs H Q E → vs.length = ps.length)
    (hbody : ∀ (cdv : Value) (A : Around) (outer : List Env) (s : Shared) (H : Hp) (vs : List V) (Q : VK) (E : XK), LvR (cxOf (CXE P w) P w K mg base N qual (defScope st) f cdv A outer s H E) (fun _ => E) → Room k (A.deeper (envOfC qual (defScope st) s.heap.objs.size f cdv)) → sp vs H Q E →
      ∃ t, PSs (cxOf (CXE P w) P w K mg base N qual (defScope st) f cdv A outer s H E) (defBody st) t ∧ t { nx := fun _ H' => Q .non H', rt := Q } (start N vs) H) : FnOk P w K mg base (CXE P w) (k + 1) f fd ps sp := by
  obtain ⟨oc, od, kV, doc, pm, an, cdv, ct, osl, rfl, lk, hcd⟩ := F.ex
  exact fn_of lk hcd S len fun A outer s H vs Q E hr hsp => hbody cdv A outer s H vs Q E lv_def hr hsp
end L2

/-! ## MORE RULES over the layer: isinstance, any, ... -/
namespace L2
open PySem PySem.Spec PyProof.Rows
theorem bb_len : bootBuiltins "len" = some (.builtin "len") := by decide +kernel
theorem bb_any : bootBuiltins "any" = some (.builtin "any") := by decide +kernel
theorem bb_ord : bootBuiltins "ord" = some (.builtin "ord") := by decide +kernel
theorem bb_isinstance : bootBuiltins "isinstance" = some (.builtin "isinstance") := by decide +kernel
theorem bb_int : bootBuiltins "int" = some (.type "int") := by decide +kernel
theorem bb_str : bootBuiltins "str" = some (.type "str") := by decide +kernel
theorem bb_bool : bootBuiltins "bool" = some (.type "bool") := by decide +kernel
theorem bb_ValueError : bootBuiltins "ValueError" = some (.type "ValueError") := by decide +kernel

/-! ### the class of an exception that lies there -/
open PySem.Builtin PySem.Builtin.ObjectAttr PySem.Builtin.Getset_descriptor
structure ExcCls (K : PySem.W.Frag) (D : Addr) : Prop where
  cls : (PySem.W.clsIn K D).isSome = true
  ga : PySem.W.findIn K (.ref D) "__getattribute__" = some (some (.builtin "BaseException.__getattribute__"))
  gt : PySem.W.findIn K (.ref D) "__getattr__" = some none
  cl : PySem.W.findIn K (.ref D) "__class__" = some (some (.builtin "object.__class__"))
  mo : PySem.W.mroIn K D (.type "object") = some true
  mb : PySem.W.mroIn K D (.type "BaseException") = some true
section
variable {prog : Program} {w : World} {A : Around} {E : Value → Shared → Prop} {h : Heap} {g : Array GenState} {d : Drawn} {t : Nat} {os : OsState} {K : PySem.W.Frag} {a D : Addr} {o : Obj}
theorem exc_ty {M : Model} (hx : h.get? a = some o) (hc : o.cls = .ref D) : PySem.W.Looks M h (typeOf (.ref a)) (.ref D) := hc ▸ (PySem.W.Looks.ld hx).andThen .now
theorem exc_class_get {R : Result → Shared → Prop} (X : K.In h) (C : ExcCls K D) (hx : h.get? a = some o) (hc : o.cls = .ref D) (hq : R (.ok (.ret (.ref D))) ⟨h, g, d, t, os⟩) :
    codeAny (model prog w) A (.call (.builtin "getset_descriptor.__get__") ⟨[.builtin "object.__class__", .ref a, .ref D], []⟩) R ⟨h, g, d, t, os⟩ := by
  have L0 := exc_ty (M := model prog w) hx hc
  have L1 := PySem.W.looks_mroIn (M := model prog w) X C.mo
  have T5 : (⟨h, g, d, t, os⟩ : Shared).TypeIs (.builtin "object.__class__") "getset_descriptor" := F.typeOf_object_class
  refine codeAny_call_builtin F.slot_gs_get.plain F.entry_gs_get (F.slot_gs_get.check _ _ _ _ _ _ _ _ T5 (F.args_gs_get _ _ _) ?_)
  unfold Builtin.«getset_descriptor.__get__» descrGet
  rw [PySem.W.dga_obj]
  refine wpAny_bind (wpAny_pure ?_)
  unfold descrGetter descrCheckInstance descrNameAndClass
  unfold isInstance
  simp only [PySem.W.KF.owner_class]
  repeat lk
  refine ⟨Code.quiet_builtin _ (by decide +kernel), codeAny_builtin F.entry_object_class ?_⟩
  unfold Builtin.«object.__class__»
  unfold shownTypeOf
  repeat lk
  exact hq
theorem exc_class_entry {tk : Tok} {Q : Fin → Shared → Prop} (X : K.In h) (C : ExcCls K D) (hx : h.get? a = some o) (hc : o.cls = .ref D) (hq : Q (.done (.ret (.ref D))) ⟨h, g, d, t, os⟩) :
    wpAny (model prog w) A (Builtin.«object.__getattribute__» ⟨[.ref a, .str "__class__" tk], []⟩) Q E ⟨h, g, d, t, os⟩ := by
  have L0 := exc_ty (M := model prog w) hx hc
  have L1 := PySem.W.looks_findIn (M := model prog w) X C.cl
  have T5 : (⟨h, g, d, t, os⟩ : Shared).TypeIs (.builtin "object.__class__") "getset_descriptor" := F.typeOf_object_class
  have f5 := F.typeOf_object_class
  have f6 := F.slot_gs_get.lookup
  have f7 := F.slot_gs_set.lookup
  repeat (any_goals (first | assumption | (with_reducible refine wpAny_loadPart_at hx ?_; rw [hc]) | with_reducible refine PySem.W.Looks.at L1 ?_ | wp_step))
  refine exc_class_get X C hx hc ?_
  repeat (any_goals (first | assumption | wp_step))
theorem exc_class_call {tk : Tok} {R : Result → Shared → Prop} (X : K.In h) (C : ExcCls K D) (hx : h.get? a = some o) (hc : o.cls = .ref D) (hq : R (.ok (.ret (.ref D))) ⟨h, g, d, t, os⟩)
    (hk : ∀ (Q : Unit → Shared → Prop) (E : Value → Shared → Prop) (A : Around) (nameV : Value), Q () ⟨h, g, d, t, os⟩ → wpAny (model prog w) A (checkBuiltinCall "BaseException.__getattribute__" ⟨[.ref a, nameV], []⟩) Q E ⟨h, g, d, t, os⟩) :
    codeAny (model prog w) A (.call (.builtin "BaseException.__getattribute__") ⟨[.ref a, .str "__class__" tk], []⟩) R ⟨h, g, d, t, os⟩ :=
  codeAny_call_builtin F.excAttr_ValueError.ga.plain F.entry_bexc_ga (hk _ _ _ _ (exc_class_entry X C hx hc hq))
theorem exc_check {M : Model} {nameV : Value} {Q : Unit → Shared → Prop} (X : K.In h) (C : ExcCls K D) (hx : h.get? a = some o) (hc : o.cls = .ref D) (hq : Q () ⟨h, g, d, t, os⟩) :
    wpAny M A (checkBuiltinCall "BaseException.__getattribute__" ⟨[.ref a, nameV], []⟩) Q E ⟨h, g, d, t, os⟩ := by
  have k1 : builtinKind "BaseException.__getattribute__" = some .slot := by decide +kernel
  have k2 : splitId "BaseException.__getattribute__" = some ("BaseException", "__getattribute__") := by decide +kernel
  have L0 := exc_ty (M := M) hx hc
  have L1 := PySem.W.looks_mroIn (M := M) X C.mb
  have k3 := F.args_bexc_ga (.ref a) nameV
  simp only [checkBuiltinCall, k1, k2]
  refine wpAny_bind ?_
  unfold isInstance
  repeat (any_goals (first | assumption | (with_reducible refine wpAny_loadPart_at hx ?_; rw [hc]) | with_reducible refine PySem.W.Looks.at L1 ?_ | wp_step))
theorem exc_class_attr {Q : Option Value → Shared → Prop} (X : K.In h) (C : ExcCls K D) (hx : h.get? a = some o) (hc : o.cls = .ref D) (hq : Q (some (.ref D)) ⟨h, g, d, t + 1, os⟩) :
    wpAny (model prog w) A (getAttr? (.ref a) "__class__") Q E ⟨h, g, d, t, os⟩ := by
  have L0 := exc_ty (M := model prog w) hx hc
  have L1 := PySem.W.looks_findIn (M := model prog w) X C.ga
  have L2 := PySem.W.looks_findIn (M := model prog w) X C.gt
  have f3 := F.excAttr_ValueError.ga.bind (.ref a)
  have x2 : (Value.builtin "BaseException.__getattribute__" == Value.builtin "object.__getattribute__") = false := by decide +kernel
  have x1 : (onTheHeap (Value.ref D) && Value.builtin "BaseException.__getattribute__" == Value.builtin "object.__getattribute__") = false := by rw [x2]; rfl
  have x0 : (false && onTheHeap (Value.builtin "BaseException.__getattribute__")) = false := rfl
  unfold getAttr? getAttrBy?
  repeat (any_goals (first | assumption | (with_reducible refine wpAny_loadPart_at hx ?_; rw [hc]) | with_reducible refine PySem.W.Looks.at L1 ?_ | with_reducible refine PySem.W.Looks.at L2 ?_ | wp_step))
  refine exc_class_call X C hx hc ?_ (fun Q E A n q => exc_check X C hx hc q)
  repeat (any_goals (first | assumption | wp_step))
end

/-- isinstance of an exception that lies there -/
theorem kitx_exc {K : PySem.W.Frag} {a D : Addr} (C : ExcCls K D) : PySem.W.KitX K (.ref a) (.ref D) (fun h => ∃ o vs, h.get? a = some o ∧ o.cls = .ref D ∧ o.data = .fields vs) where
  ty := fun _ _ _ ⟨_, _, h1, h2, _⟩ => exc_ty h1 h2
  it := fun _ _ X _ => by
    obtain ⟨cd, hc⟩ := Option.isSome_iff_exists.mp C.cls
    unfold PySem.W.clsIn at hc
    split at hc
    case h_2 => cases hc
    case h_1 ho =>
      intro A' Q' E' s' k q
      unfold isType loadHead
      exact wpAny_bind (wpAny_loadPart (k _ _ (X _ _ ho)) (wpAny_pure q))
  ne := fun h tp dd its n sl X htp => by
    obtain ⟨cd, hc⟩ := Option.isSome_iff_exists.mp C.cls
    unfold PySem.W.clsIn at hc
    refine Bool.eq_false_iff.mpr fun q => ?_
    obtain rfl : D = tp := Value.ref.inj (beq_iff_eq.mp q)
    split at hc
    case h_2 => cases hc
    case h_1 ho => cases (X _ _ ho).symm.trans htp
  ca := fun {_ _ _ _ _ s} X ⟨_, _, h1, h2, _⟩ k => by
    obtain ⟨h, g, d, t, os⟩ := s
    exact exc_class_attr X C h1 h2 k
/-- what a value's class is -/
inductive TyX (K : PySem.W.Frag) (H : Hp) : V → Value → Prop where
  | old {x : V} {t : Value} (h : TyOf K H x t) : TyX K H x t
  | exc {a D : Addr} (e : H a = some (excAt a (.ref D))) (C : ExcCls K D) : TyX K H (.ref a) (.ref D)
theorem call_isinst {X : Cx} : CallR X (.builtin "isinstance") (fun xs H Q => ∃ x c t cv b, xs = [x, c] ∧ TyX X.K H x t ∧ RelV c cv ∧ PySem.W.kitOne X.K t cv = some b ∧ Q (.bl b) H) := by
  intro pins s σ H xs us Q I r h
  obtain ⟨x, c, t, cv, b, rfl, ty, rc, e, q⟩ := h
  obtain ⟨u, u2, rfl, r1, r2⟩ := vals2 r
  have e2 : u2 = cv := by
    cases c <;> first
      | exact r2.trans rc.symm
      | (exfalso
         obtain ⟨t2, z⟩ := rc
         subst z
         revert e
         unfold PySem.W.kitOne PySem.W.kitCls
         cases ty with
         | exc e C => simp
         | old h => cases h <;> simp)
  subst e2
  cases ty with
  | old h => exact isinst_ok I r1 h e fun tk => ⟨.bl b, H, I.tok tk, rfl, q⟩
  | @exc a D ea C =>
    cases (show u = Value.ref a from r1)
    obtain ⟨p, _⟩ := (show ObjOk X.prog X.w H s.heap a (excAt a (.ref D)) from I.hok a _ ea)
    exact PySem.W.kia_one (kitx_exc C) I.kIn p e (fun z => nomatch z) fun tk => ⟨.bl b, H, I.tok tk, rfl, q⟩
/-- a class of the text -/
structure ClsOk (K : PySem.W.Frag) (C : Addr) : Prop where
  cls : (PySem.W.clsIn K C).isSome = true
  ty : PySem.W.typeIn K (.ref C) = some (.type "type")
  me : PySem.W.mroIn K C (.ref C) = some true
theorem kit_ref {K : PySem.W.Frag} {D C : Addr} {b : Bool} (hC : ClsOk K C) (e : PySem.W.mroIn K D (.ref C) = some b) : PySem.W.kitOne K (.ref D) (.ref C) = some b := by
  unfold PySem.W.kitOne
  by_cases q : (Value.ref D == Value.ref C) = true
  · rw [if_pos q]
    obtain rfl : D = C := Value.ref.inj (beq_iff_eq.mp q)
    rw [hC.me] at e
    exact e
  · rw [if_neg q]
    unfold PySem.W.kitCls PySem.W.subIn
    simp only [hC.cls, hC.ty, beq_self_eq_true, Bool.and_self, if_true]
    exact e
theorem kit_own_ty {K : PySem.W.Frag} {D : Addr} {T : String} {b : Bool} (h : PySem.W.kitMeta T = true) (e : PySem.W.mroIn K D (.type T) = some b) : PySem.W.kitOne K (.ref D) (.type T) = some b := by
  unfold PySem.W.kitOne
  rw [if_neg (by intro q; cases beq_iff_eq.mp q)]
  unfold PySem.W.kitCls PySem.W.subIn
  simp only [h, if_true]
  exact e
theorem exm_ref {K : PySem.W.Frag} {D C : Addr} {b : Bool} (hC : ClsOk K C) (hb : PySem.W.mroIn K C (.type "BaseException") = some true) (e : PySem.W.mroIn K D (.ref C) = some b) : PySem.W.exmOne K (.ref D) (.ref C) = some b := by
  unfold PySem.W.exmOne PySem.W.kitCls PySem.W.subIn
  simp only [hb, hC.cls, hC.ty, beq_self_eq_true, Bool.and_self, if_true]
  exact e
theorem kit_int_int {K : PySem.W.Frag} : PySem.W.kitOne K (.type "int") (.type "int") = some true := by
  unfold PySem.W.kitOne
  rw [if_pos (by decide)]
theorem kit_int_bool {K : PySem.W.Frag} : PySem.W.kitOne K (.type "int") (.type "bool") = some false := by
  unfold PySem.W.kitOne
  rw [if_neg (by decide)]
  kernel_rfl
section
variable {X : Cx}
theorem any_bools (bs : List Bool) : (List.range bs.length).any (fun i => bs.getD i false) = bs.any id := by
  rw [Bool.eq_iff_iff, List.any_eq_true, List.any_eq_true]
  constructor
  · rintro ⟨i, hi, h⟩
    have hl : i < bs.length := List.mem_range.mp hi
    refine ⟨bs[i], List.getElem_mem hl, ?_⟩
    rw [List.getD_eq_getElem?_getD, List.getElem?_eq_getElem hl] at h
    exact h
  · rintro ⟨b, hb, h⟩
    obtain ⟨i, hl, rfl⟩ := List.getElem_of_mem hb
    refine ⟨i, List.mem_range.mpr hl, ?_⟩
    rw [List.getD_eq_getElem?_getD, List.getElem?_eq_getElem hl]
    exact h
theorem call_any (hc : X.calm = true) : CallR X (.builtin "any") (fun xs H Q => ∃ (p : Addr) (bs : List Bool), xs = [.ref p] ∧ SqL X.K H p (bs.map V.bl) ∧ Q (.bl (bs.any id)) H) := by
  intro pins s σ H xs us Q I r h
  obtain ⟨p, bs, rfl, hq, q⟩ := h
  obtain ⟨u, rfl, ru⟩ := vals1 r
  obtain rfl : u = Value.ref p := ru
  obtain ⟨its, rv, pl, hz⟩ := I.list hq
  have hl : bs.length = its.length := by rw [← rv.length, List.length_map]
  obtain ⟨o0, n0, e0, _⟩ := id pl
  have ne : p ≠ s.heap.objs.size := Nat.ne_of_lt (Heap.lt_size e0)
  refine call_any_walk (wpAny_pyIter_list pl.isList ?_)
  refine ⟨s.heap.objs.size, _, _, _, _, _, fun i => bs.getD i false, rfl, Walks.list (show X.A.in1.handled = none from I.ok.hd hc) s.heap.objs.size p ne its.toArray, ⟨⟨_, Heap.get?_push_size _ rfl, rfl, rfl⟩, ?_⟩, ?_, fun h' tk hk => ?_⟩
  · exact pl.isList.at fun o e => Heap.get?_push_of_some _ e
  · intro i v s' Q' E' hv hQ
    have hi : its[i]? = some v := by simpa using hv
    obtain ⟨hlt, _⟩ := List.getElem?_eq_some_iff.mp hi
    have hb : (bs.map V.bl)[i]? = some (.bl bs[i]) := by rw [List.getElem?_map, List.getElem?_eq_getElem (by omega)]; rfl
    obtain ⟨u', e', r'⟩ := rv.get hb
    rw [hi] at e'
    cases e'
    obtain rfl : v = Value.bool bs[i] := r'
    refine wpAny_truthy_bool ?_
    have z : bs.getD i false = bs[i] := by rw [List.getD_eq_getElem?_getD, List.getElem?_eq_getElem (by omega)]; rfl
    rw [← z]
    exact hQ
  · have e : ((List.range its.toArray.size).any fun i => bs.getD i false) = bs.any id := by rw [List.size_toArray, ← hl, any_bools]
    rw [e]
    refine ⟨.bl _, H, I.kept (t' := tk) fun b o hb => hk b o (fun z => ?_) (Heap.get?_push_of_some _ hb), rfl, q⟩
    have z' : b = s.heap.objs.size := by simpa using z
    exact absurd (z' ▸ Heap.lt_size hb) (Nat.lt_irrefl _)
end
section
variable {X : Cx}
/-- a class or a def of the text as a value; a built-in type -/
theorem pe_ref {x : Str} {a : Addr} {pos : Pos} (hg : Gl X x) (hm : X.mg x = some (.ref a)) (hd : (x == ("__debug__" : Str)) = false := by decide) : PE X (.Name x pos) (tC (.ref a)) := pe_glob (v := .ref a) hg hm rfl hd
theorem pe_ty {x : Str} {n : String} {pos : Pos} (hg : Gl X x) (hm : X.mg x = none) (hv : bootBuiltins x = some (.type n)) (hn : x ≠ "__name__" := by decide) (hd : (x == ("__debug__" : Str)) = false := by decide) : PE X (.Name x pos) (tC (.ty n)) :=
  pe_bltn (v := .ty n) hg hm hv rfl hn hd
end
theorem cx_K {CX : CXT} {P : Program} {w : World} {K : PySem.W.Frag} {mg : Str → Option Value} {base : Heap} {N : List Str} {qual : Str} {scope : Scope} {f : Addr} {cd : Value} {A : Around} {outer : List Env} {s : Shared} {H : Hp} {E : XK} :
    (cxOf CX P w K mg base N qual scope f cd A outer s H E).K = K := rfl
theorem slT {n : Nat} (h : n ≤ 1000) : (n ≤ sizeLine) = True := eq_true (Nat.le_trans h (by decide))
theorem ixL {K : PySem.W.Frag} {H : Hp} {p : Addr} {xs : List V} {i : Int} {v : V} {Q : VK} (h : SqL K H p xs) (e : atI xs i = some v) (q : Q v H) : rIxL K (.ref p) (.int i) H Q := ⟨p, xs, i, v, rfl, rfl, h, e, q⟩
theorem at_ints {xs : List Int} {i : Int} (h0 : 0 ≤ i) (h1 : i < xs.length) : atI (xs.map V.int) i = some (.int (xs.getD i.toNat 0)) := by
  obtain ⟨k, rfl⟩ := Int.eq_ofNat_of_zero_le h0
  have hk : k < xs.length := by omega
  refine atI_nat ?_
  rw [List.getElem?_map, List.getElem?_eq_getElem hk, Int.toNat_natCast, List.getD_eq_getElem?_getD, List.getElem?_eq_getElem hk]
  rfl
theorem same_new {H : Hp} {p : Addr} (h : H p = none) (o : HO) : Same H (upd H p o) := fun b u q => by rw [upd_ne (ne_of_none q h)]; exact q
theorem scal_ii (a b : Int) : (scal (.int a) (.int b) = true) = True := eq_true rfl
theorem scal_bb (a b : Bool) : (scal (.bl a) (.bl b) = true) = True := eq_true rfl
theorem scal_ss (a b : Str) : (scal (.str a) (.str b) = true) = True := eq_true rfl
theorem scal_ni (b : Int) : (scal .non (.int b) = true) = True := eq_true rfl
theorem scal_in (a : Int) : (scal (.int a) .non = true) = True := eq_true rfl
theorem mem_cut {xs : List V} {lo hi : Option Int} {x : V} (h : x ∈ cutV xs lo hi) : x ∈ xs := List.mem_of_mem_drop (List.mem_of_mem_take h)
end L2

/-! ## tuples of ints compared; small rules -/
namespace L2
open PySem PySem.Spec PyProof.Rows
section
variable {X : Cx}
def rEqT (K : PySem.W.Frag) (neg : Bool) : R2 := fun x y H Q => ∃ p q ms ns, x = .ref p ∧ y = .ref q ∧ SqT K H p (List.map V.int ms) ∧ SqT K H q (List.map V.int ns) ∧ Q (.bl (if neg then !decide (ms = ns) else decide (ms = ns))) H
end
theorem Same.sqT {K : PySem.W.Frag} {H H' : Hp} {a : Addr} {xs : List V} (e : Same H H') (h : SqT K H a xs) : SqT K H' a xs := by
  rcases h with (h | ⟨o, h⟩) | h
  · exact .inl (.inl (e _ _ h))
  · exact .inl (.inr ⟨o, e _ _ h⟩)
  · exact .inr h
end L2

/-! ## a cut between statements; a call of a local; rules inside a try -/
namespace L2
open PySem PySem.Spec PyProof.Rows
/-- the statement's end is named once: what follows is read once -/
def tCut (t : TS) : TS := fun D σ H => ∃ R : St → Hp → Prop, t { D with nx := R } σ H ∧ ∀ σ' H', R σ' H' → D.nx σ' H'
theorem ps_cut {X : Cx} {st : Stmt} {t : TS} (h : PS X st t) : PS X st (tCut t) := by
  intro pins s σ H D I q
  obtain ⟨R, q1, q2⟩ := q
  refine thn (h pins s σ H { D with nx := R } I q1) fun f s1 z => ?_
  cases f with
  | next =>
    obtain ⟨σ', H', I', z⟩ := z
    exact ⟨σ', H', I', q2 _ _ z⟩
  | ret v => exact z
  | brk => exact z
  | cont => exact z
section
variable {X : Cx} {Ek : St → XK} {k : Nat} {f : Addr} {fd : FuncData} {ps : List Str} {sp : Sp} {x : Str} {p pos : Pos} {e : Expr} {es : List Expr} {t : TA}
/-- g(e, ..), g a local that holds the def at f -/
def tCallL (i : Nat) (f : Addr) (sp : Sp) (Ek : St → XK) (t : TA) : TE := fun σ H Q => σ[i]? = some (some (.ref f)) ∧ t σ H fun vs H1 => sp vs H1 Q (Ek σ)
end
section
variable {X : Cx} {K : PySem.W.Frag}
end
end L2

/-! ## texts, as lists of their signs' numbers -/
namespace L2
open PySem PySem.Spec PyProof.Rows
/-- the text of these signs -/
def SL (cs : List Nat) : Str := ⟨cs.toArray⟩
theorem SL_of (z : Str) : z = SL z.cps.toList := by cases z; rfl
theorem SL_len (cs : List Nat) : (SL cs).length = cs.length := by show cs.toArray.size = _; simp
theorem SL_app (a b : List Nat) : SL a ++ SL b = SL (a ++ b) := by
  show (⟨a.toArray ++ b.toArray⟩ : Str) = ⟨(a ++ b).toArray⟩
  simp
theorem SL_inj (a b : List Nat) : (SL a = SL b) = (a = b) := by
  refine propext ⟨fun h => ?_, fun h => by rw [h]⟩
  have := congrArg (fun z : Str => z.cps.toList) h
  exact this
/-- the walk over a text -/
def Its (x : Str) : It := ⟨fun i _ => i < x.cps.size, fun i H v H' => H' = H ∧ ∃ c, x.cps[i]? = some c ∧ v = .str ⟨#[c]⟩, fun i _ => i = x.cps.size⟩
theorem turn_str {P : Program} {w : World} {K : PySem.W.Frag} {tg : Expr} (it : Addr) (x : Str) (t : Tok) (ty : String) (hn : ["enumerate", "zip", "dict_itemiterator", "dict_reverseitemiterator", "odict_iterator", "itertools.zip_longest", "itertools.pairwise"].contains ty = false)
    (W : ∀ A : Around, A.handled = none → Walks P w A it [it] [it] x.cps.size (SignAt x) (fun i h => h.IsStrIter it ty x t i)) (Sf : ∀ (A : Around) (i : Nat) (s : Shared) (Q : Value → Shared → Prop) (E : Value → Shared → Prop), s.heap.IsStrIter it ty x t i → Q (.ref it) s → wpAny (model P w) A (pyIter (.ref it)) Q E s) :
    Turn P w K tg (Its x) [it] it (fun i h => h.IsStrIter it ty x t i) where
  mem := by simp
  obj := fun i h st b hb => by
    have e : b = it := by simpa using hb
    subst e
    obtain ⟨o, e, c, d⟩ := st
    exact ⟨o, e, fun v z => by rw [d] at z; cases z⟩
  keep := fun i h h' st k => let ⟨o, ho, r⟩ := st; ⟨o, k it (by simp) o ho, r⟩
  item := by
    intro X hP hw hK hc i pins s σ H E I hf st hg
    subst hP hw hK
    obtain ⟨f0, f1, f2, f3, f4, f5⟩ := hf it (by simp)
    refine (W X.A (I.ok.hd hc)).item i s _ _ hg st fun v h' tk hv st' kk => ?_
    obtain ⟨c, u, hcx, rfl⟩ := hv
    have I1 : Inv X pins σ H { s with heap := h', toks := tk } := I.turned (fun b o hb e => kk b o (by simpa using hb) e) f0 f1 f3 f4 f5
    obtain ⟨o, e, cc, d⟩ := id st'
    exact ⟨_, rfl, go_of (s := { s with heap := h', toks := tk }) e cc d hn ⟨.str ⟨#[c]⟩, H, I1, ⟨u, rfl⟩, ⟨rfl, c, hcx, rfl⟩, st', fun b hb => (hf b hb).1⟩⟩
  done := by
    intro X hP hw hK hc i pins s σ H E I hf st hg
    subst hP hw hK
    obtain ⟨f0, f1, f2, f3, f4, f5⟩ := hf it (by simp)
    have e : i = x.cps.size := hg
    rw [e] at st
    exact (W X.A (I.ok.hd hc)).done s _ _ st fun h' tk kk => ⟨rfl, I.turned (fun b o hb e => kk b o (by simpa using hb) e) f0 f1 f3 f4 f5⟩
  self := Sf
section
variable {X : Cx} {tg : Expr}
def iStr (tl : TE) : TI := fun σ H R => tl σ H fun x H1 => ∃ z, x = .str z ∧ R (Its z) H1
theorem pi_str {l : Expr} {tl : TE} (hl : PE X l tl) : PI X tg l (iStr tl) := by
  intro pins s σ H R I h
  refine thn (hl pins s σ H _ I h) fun v s1 ⟨x, H1, I1, r1, q1⟩ => ?_
  obtain ⟨z, e, q⟩ := q1
  subst e
  obtain ⟨t, rfl⟩ := r1
  have fin : ∀ (ty : String) (T : Turn X.prog X.w X.K tg (Its z) [s1.heap.objs.size] s1.heap.objs.size (fun i h => h.IsStrIter s1.heap.objs.size ty z t i)),
      PIE X pins σ tg R (.ref s1.heap.objs.size) { s1 with heap := s1.heap.push { cls := .type ty, data := .fields #[.str z t, .int 0 0] } } := fun ty T =>
    ⟨s1.heap.objs.size, [s1.heap.objs.size], _, _, H1, rfl, I1.kept (t' := s1.toks) fun b o e => Heap.get?_push_of_some _ e, T, ⟨_, Heap.get?_push_size _ rfl, rfl, rfl⟩, fun b hb => by
      have e : b = s1.heap.objs.size := by simpa using hb
      subst e
      exact I1.fpOk (Nat.le_refl _) (I1.hok.fresh (Nat.le_refl _)), q⟩
  cases ha : z.cps.all (· < 128)
  · exact wpAny_pyIter_wide ha (fin "str_iterator" (turn_str _ z t _ (by decide) (fun A hh => Walks.strWide hh _ z t) fun A i s Q E st h => wpAny_pyIter_striter_wide st h))
  · exact wpAny_pyIter_ascii ha (fin "str_ascii_iterator" (turn_str _ z t _ (by decide) (fun A hh => Walks.strAscii hh _ z t) fun A i s Q E st h => wpAny_pyIter_striter_ascii st h))
end
theorem for_str {cs : List Nat} {g : TG} {tb : TS} {D : Ends} {σ : St} {H : Hp} (Pv : Nat → St → Hp → Prop) (h0 : Pv 0 σ H)
    (hs : ∀ i c σ H, cs[i]? = some c → Pv i σ H → g (.str (SL [c])) σ H fun σ2 H2 => tb { D with nx := Pv (i + 1), ct := Pv (i + 1), bk := D.nx } σ2 H2) (hd : ∀ σ H, Pv cs.length σ H → D.nx σ H) :
    ∃ W : Nat → Nat → St → Hp → Prop, (∃ m, W 0 m σ H) ∧ ∀ i m σ H, W i m σ H →
      ((Its (SL cs)).stop i H ∧ D.nx σ H) ∨ ((Its (SL cs)).go i H ∧ ∃ N : St → Hp → Prop, (∀ σ' H', N σ' H' → ∃ m', m' < m ∧ W (i + 1) m' σ' H') ∧ ∀ x H', (Its (SL cs)).yld i H x H' → g x σ H' fun σ2 H2 => tb { D with nx := N, ct := N, bk := D.nx } σ2 H2) := by
  have hsz : (SL cs).cps.size = cs.length := by show cs.toArray.size = _; simp
  refine ⟨fun i m σ H => m = cs.length - i ∧ i ≤ cs.length ∧ Pv i σ H, ⟨cs.length, by simp, Nat.zero_le _, h0⟩, ?_⟩
  rintro i m σ H ⟨rfl, hi, p⟩
  by_cases hlt : i < cs.length
  · refine .inr ⟨show i < (SL cs).cps.size by omega, Pv (i + 1), fun σ' H' p' => ⟨cs.length - (i + 1), by omega, rfl, hlt, p'⟩, fun x H' y => ?_⟩
    obtain ⟨e, c, hc, rfl⟩ := y
    subst e
    exact hs i c σ _ (by simpa [SL] using hc) p
  · have e : i = cs.length := by omega
    subst e
    exact .inl ⟨hsz.symm, hd σ H p⟩
/-- the signs of a slice -/
def cutC (cs : List Nat) (lo hi : Option Int) : List Nat := (cs.drop (HT.sIx cs.length 0 lo)).take (HT.sIx cs.length cs.length hi - HT.sIx cs.length 0 lo)
theorem sliceIx (lo hi : Option Int) (n : Nat) : Builtin.Str.strSliceIndices lo hi 1 n = (List.range (HT.sIx n n hi - HT.sIx n 0 lo)).map (HT.sIx n 0 lo + ·) := by
  have cl : ∀ (o : Option Int) (d : Nat), (match o with | none => (d : Int) | some i => if (1 : Int) > 0 then max 0 (min (if i < 0 then i + (n : Int) else i) (n : Int)) else max (-1) (min (if i < 0 then i + (n : Int) else i) ((n : Int) - 1))) = ((match o with | none => d | some i => HT.sIx n d (some i) : Nat) : Int) := by
    intro o d
    cases o with
    | none => rfl
    | some i =>
      simp only [HT.sIx, show (1 : Int) > 0 by decide, if_true]
      by_cases h : i < 0
      · simp only [h, if_true]; omega
      · simp only [h, if_false]; omega
  unfold Builtin.Str.strSliceIndices
  have e1 : HT.sIx n 0 lo = (match lo with | none => 0 | some i => HT.sIx n 0 (some i)) := by cases lo <;> rfl
  have e2 : HT.sIx n n hi = (match hi with | none => n | some i => HT.sIx n n (some i)) := by cases hi <;> rfl
  rw [e1, e2, ← sliceRange_one, ← cl lo 0, ← cl hi n]
  rfl
theorem slice_SL (cs : List Nat) (lo hi : Option Int) : Txt.slice (SL cs) lo hi = SL (cutC cs lo hi) := by
  have hl : (SL cs).length = cs.length := SL_len cs
  have ha := HT.sIx_le cs.length 0 (Nat.zero_le _) lo
  have hb := HT.sIx_le cs.length cs.length (Nat.le_refl _) hi
  unfold Txt.slice cutC
  rw [hl, sliceIx, List.length_map, List.length_range]
  split
  · rename_i h
    have h2 : HT.sIx cs.length cs.length hi - HT.sIx cs.length 0 lo = cs.length := by simpa using h
    by_cases z : cs = []
    · subst z; rw [List.drop_nil, List.take_nil]
    · have hp : 0 < cs.length := List.length_pos_iff.mpr z
      have e0 : HT.sIx cs.length 0 lo = 0 := by omega
      rw [h2, e0, List.drop_zero, List.take_length]
  · rw [pick_run]
    rfl
/-- the figures of a number -/
def dg (n : Nat) : List Nat := (Nat.toDigits 10 n).map Char.toNat
def sI (i : Int) : List Nat := if i < 0 then 45 :: dg (-i).toNat else dg i.toNat
theorem str_nat (n : Nat) : Str.ofString (toString (n : Int)) = SL (dg n) := by
  rw [SL_of (Str.ofString (toString (n : Int))), PySem.W.KIN.signs_num]
  rfl
section
variable {X : Cx}
theorem pe_strL {x : Str} {cs : List Nat} {j pos} (e : x = SL cs) : PE X (.Constant (.str x) j pos) (tC (.str (SL cs))) := e ▸ pe_str
theorem op_add_s : OpR X (binaryOp .Add) (fun x y H Q => ∃ a b, x = .str (SL a) ∧ y = .str (SL b) ∧ a.length + b.length ≤ sizeLine ∧ Q (.str (SL (a ++ b))) H) := by
  intro pins s σ H x y v u Q I rx ry h
  obtain ⟨a, b, rfl, rfl, hz, q⟩ := h
  exact op_add_str pins s σ H _ _ v u Q I rx ry ⟨_, _, rfl, rfl, by rw [SL_len, SL_len]; exact hz, by rw [SL_app]; exact q⟩
theorem ix_s : IxR X (fun x y H Q => ∃ cs i c, x = .str (SL cs) ∧ y = .int i ∧ cs.length ≤ sizeLine ∧ atI cs i = some c ∧ Q (.str (SL [c])) H) := by
  intro value slice pins s σ H x y v u Q I rx ry h hs
  obtain ⟨cs, i, c, rfl, rfl, hz, he, q⟩ := h
  exact ix_str value slice pins s σ H _ _ v u Q I rx ry ⟨_, i, c, rfl, rfl, by rw [SL_len]; exact hz, he, q⟩ hs
theorem sl_str : SlR X (fun x lo hi H Q => ∃ cs, x = .str (SL cs) ∧ cs.length ≤ sizeLine ∧ Q (.str (SL (cutC cs lo hi))) H) := by
  intro pins s σ H x v vl vu lo hi sl Q I rx hs pl pu h
  obtain ⟨cs, rfl, hz, q⟩ := h
  obtain ⟨t, rfl⟩ := rx
  rw [← slice_SL] at q
  have fin : ∀ t' k, EP X pins σ Q (.str (Txt.slice (SL cs) lo hi) t') { s with toks := k } := fun t' k => ⟨.str (Txt.slice (SL cs) lo hi), H, I.tok _, ⟨_, rfl⟩, q⟩
  have hl : (Txt.slice (SL cs) lo hi).length ≤ sizeLine := Nat.le_trans (Txt.slice_le (SL cs) lo hi) (by rw [SL_len]; exact hz)
  refine ⟨"str", _, F.slot_str_getitem.lookup, typeIs_str _ _ _, ?_⟩
  cases pl with
  | none =>
    cases pu with
    | none => exact wpAny_getItem_str_slice (l := none) (u := none) (st := none) hs rfl (post_val_or_str ⟨hl, fin⟩)
    | int j uj => exact wpAny_getItem_str_slice (l := none) (u := some (j, uj)) (st := none) hs rfl (post_val_or_str ⟨hl, fin⟩)
  | int i ui =>
    cases pu with
    | none => exact wpAny_getItem_str_slice (l := some (i, ui)) (u := none) (st := none) hs rfl (post_val_or_str ⟨hl, fin⟩)
    | int j uj => exact wpAny_getItem_str_slice (l := some (i, ui)) (u := some (j, uj)) (st := none) hs rfl (post_val_or_str ⟨hl, fin⟩)
theorem call_len_s : CallR X (.builtin "len") (fun xs H Q => ∃ cs, xs = [.str (SL cs)] ∧ cs.length ≤ sizeLine ∧ Q (.int cs.length) H) := by
  intro pins s σ H xs us Q I r h
  obtain ⟨cs, rfl, hz, q⟩ := h
  exact call_len_str pins s σ H _ us Q I r ⟨SL cs, rfl, by rw [SL_len]; exact hz, by rw [SL_len]; exact q⟩
theorem op_in_s : OpR X (compareOp .In) (fun x y H Q => ∃ c cs, x = .str (SL [c]) ∧ y = .str (SL cs) ∧ Q (.bl (decide (c ∈ cs))) H) := by
  intro pins s σ H x y v u Q I rx ry h
  obtain ⟨c, cs, rfl, rfl, q⟩ := h
  refine op_in_str pins s σ H _ _ v u Q I rx ry ⟨_, _, rfl, rfl, ?_⟩
  have e := StrLaws.found_one (SL cs) c
  rw [show (!(Builtin.Str.occurrences (SL cs) (SL [c]) 0 (SL cs).length 1).isEmpty) = decide (c ∈ cs) from e]
  exact q
theorem op_notin_s : OpR X (compareOp .NotIn) (fun x y H Q => ∃ c cs, x = .str (SL [c]) ∧ y = .str (SL cs) ∧ Q (.bl (!decide (c ∈ cs))) H) := by
  intro pins s σ H x y v u Q I rx ry h
  obtain ⟨c, cs, rfl, rfl, q⟩ := h
  refine op_notin_str pins s σ H _ _ v u Q I rx ry ⟨_, _, rfl, rfl, ?_⟩
  have e := StrLaws.found_one (SL cs) c
  rw [show (!(Builtin.Str.occurrences (SL cs) (SL [c]) 0 (SL cs).length 1).isEmpty) = decide (c ∈ cs) from e]
  exact q
theorem call_ord_s : CallR X (.builtin "ord") (fun xs H Q => ∃ c : Nat, xs = [.str (SL [c])] ∧ Q (.int c) H) := by
  intro pins s σ H xs us Q I r h
  obtain ⟨c, rfl, q⟩ := h
  exact call_ord pins s σ H _ us Q I r ⟨_, rfl, rfl, q⟩
theorem call_int_text : CallR X (.type "int") (fun xs H Q => ∃ cs, xs = [.str (SL cs)] ∧ PySem.NumText.AllDigits cs ∧ cs ≠ [] ∧ cs.length ≤ 640 ∧ Q (.int (PySem.NumText.digitsVal cs : Nat)) H) := by
  intro pins s σ H xs us Q I r h
  obtain ⟨cs, rfl, hd, hne, hl, q⟩ := h
  obtain ⟨u, rfl, t, rfl⟩ := vals1 r
  have e := PySem.intText_digits (x := SL cs) hd hne (by rw [SL_len]; exact Nat.le_trans hl (by decide))
  exact PySem.W.KIN.call_text e (by rw [SL_len]; exact hl) ⟨.int _, H, I.tok _, ⟨_, rfl⟩, q⟩
theorem call_str_nat : CallR X (.type "str") (fun xs H Q => ∃ i, xs = [.int i] ∧ 0 ≤ i ∧ i.natAbs.log2 < 1920 ∧ Q (.str (SL (dg i.toNat))) H) := by
  intro pins s σ H xs us Q I r h
  obtain ⟨i, rfl, h0, hz, q⟩ := h
  refine call_str_int pins s σ H _ us Q I r ⟨i, rfl, hz, ?_⟩
  obtain ⟨n, rfl⟩ := Int.eq_ofNat_of_zero_le h0
  rw [show (toString ((n : Nat) : Int) : Str) = SL (dg n) from str_nat n]
  exact q
end
/-- texts with a text between -/
def jn (sep : List Nat) : List (List Nat) → List Nat
  | [] => []
  | [x] => x
  | x :: y :: r => x ++ sep ++ jn sep (y :: r)
def zf (cs : List Nat) (n : Nat) : List Nat := List.replicate (n - cs.length) 48 ++ cs
theorem zfill_SL {cs : List Nat} {n : Nat} (h : ∀ c r, cs = c :: r → c ≠ 43 ∧ c ≠ 45) : Txt.zfill (SL cs) (n : Int) = SL (zf cs n) := by
  unfold Txt.zfill zf
  rw [SL_len]
  by_cases c : (n : Int) ≤ (cs.length : Nat)
  · rw [if_pos c, show n - cs.length = 0 by omega]
    rfl
  · rw [if_neg c, Int.toNat_natCast]
    have e : Builtin.Str.padded (SL cs) (n - cs.length) 0 48 = SL (List.replicate (n - cs.length) 48 ++ cs) := by
      rw [SL_of (Builtin.Str.padded (SL cs) (n - cs.length) 0 48), padded_list]
      rw [List.replicate_zero, List.append_nil]
      rfl
    rw [← e]
    unfold PySem.zfilled
    cases cs with
    | nil => rfl
    | cons a r =>
      have q := h a r rfl
      show (match (some a : Option Nat) with | some 43 | some 45 => _ | _ => _) = _
      split
      · rename_i z; exact absurd (Option.some.inj z) q.1
      · rename_i z; exact absurd (Option.some.inj z) q.2
      · rfl
section
variable {X : Cx}
theorem mt_zfill : MtR X "str.zfill" (fun x vs H Q => ∃ cs n, x = .str (SL cs) ∧ vs = [.int ((n : Nat) : Int)] ∧ n ≤ 1000 ∧ (∀ c r, cs = c :: r → c ≠ 43 ∧ c ≠ 45) ∧ Q (.str (SL (zf cs n))) H) := by
  intro pins s σ H x vs v us Q I rx rv h
  obtain ⟨cs, n, rfl, rfl, hn, hc, q⟩ := h
  obtain ⟨t, rfl⟩ := rx
  obtain ⟨u, rfl, t', rfl⟩ := vals1 rv
  rw [← zfill_SL hc] at q
  refine SC.zfill ?_ fun t' k => ⟨.str _, H, I.tok _, ⟨_, rfl⟩, q⟩
  exact padOk_of (by omega) (by omega)
end
end L2

namespace L2
open PySem PySem.NumText
/-- the last k figures of a number, by the signs' numbers -/
def fig : Nat → Int → List Nat
  | 0, _ => []
  | k + 1, n => (48 + (n / 10 ^ k % 10).toNat) :: fig k n
theorem fig_len : ∀ (k : Nat) (n : Int), (fig k n).length = k
  | 0, _ => rfl
  | k + 1, n => by show (fig k n).length + 1 = k + 1; rw [fig_len k n]
theorem fig_snoc : ∀ (k : Nat) (n : Int), fig (k + 1) n = fig k (n / 10) ++ [48 + (n % 10).toNat]
  | 0, n => by
    show [48 + (n / 10 ^ 0 % 10).toNat] = [48 + (n % 10).toNat]
    rw [Int.pow_zero, Int.ediv_one]
  | k + 1, n => by
    have e : n / 10 / 10 ^ k = n / 10 ^ (k + 1) := by
      rw [Int.pow_succ, Int.mul_comm, Int.ediv_ediv_of_nonneg (by decide)]
    show (48 + (n / 10 ^ (k + 1) % 10).toNat) :: fig (k + 1) n = ((48 + (n / 10 / 10 ^ k % 10).toNat) :: fig k (n / 10)) ++ _
    rw [fig_snoc k n, e]
    rfl
theorem fig_digits : ∀ (k : Nat) (n : Int), AllDigits (fig k n)
  | 0, _ => fun c h => by cases h
  | k + 1, n => fun c h => by
    rcases List.mem_cons.mp h with rfl | h
    · have := Int.emod_lt_of_pos (n / 10 ^ k) (show (0 : Int) < 10 by decide)
      omega
    · exact fig_digits k n c h
theorem digit_char : ∀ d : Nat, d < 10 → (Nat.digitChar d).toNat = 48 + d := by decide
theorem dg_lt {n : Nat} (h : n < 10) : dg n = [48 + n] := by
  unfold dg
  rw [Nat.toDigits_of_lt_base h, List.map_cons, List.map_nil, digit_char n h]
theorem dg_ge {n : Nat} (h : 10 ≤ n) : dg n = dg (n / 10) ++ [48 + n % 10] := by
  have hm : n % 10 < 10 := Nat.mod_lt n (by decide)
  have t : Nat.toDigits 10 (n / 10) ++ Nat.toDigits 10 (n % 10) = Nat.toDigits 10 (10 * (n / 10) + n % 10) := Nat.toDigits_append_toDigits (by decide) (by omega) hm
  rw [Nat.div_add_mod] at t
  unfold dg
  rw [← t, List.map_append, Nat.toDigits_of_lt_base hm, List.map_cons, List.map_nil, digit_char _ hm]
theorem dg_digits (n : Nat) : AllDigits (dg n) := by
  induction n using Nat.strongRecOn with
  | _ n ih =>
    by_cases h : n < 10
    · rw [dg_lt h]
      intro c hc
      rw [List.mem_singleton] at hc
      omega
    · rw [dg_ge (by omega)]
      intro c hc
      rcases List.mem_append.mp hc with hc | hc
      · exact ih (n / 10) (by omega) c hc
      · rw [List.mem_singleton] at hc
        omega
theorem dg_head {n c : Nat} {r : List Nat} (h : dg n = c :: r) : c ≠ 43 ∧ c ≠ 45 := by
  have := dg_digits n c (by rw [h]; exact List.mem_cons_self ..)
  omega
theorem dg_pos (n : Nat) : 0 < (dg n).length := by
  by_cases h : n < 10
  · rw [dg_lt h]; exact Nat.one_pos
  · rw [dg_ge (by omega), List.length_append]; exact Nat.succ_pos _
theorem log2_ok {n : Nat} (h : n < 2 ^ 1000) : n.log2 < 1920 := by
  by_cases z : n = 0
  · subst z; decide
  · exact (Nat.log2_lt z).mpr (Nat.lt_trans h (Nat.pow_lt_pow_right (by decide) (by decide)))
theorem getD_in {xs : List Int} {lo hi : Int} (h : ∀ x ∈ xs, lo ≤ x ∧ x ≤ hi) {i : Int} (h0 : 0 ≤ i) (h1 : i < xs.length) : lo ≤ xs.getD i.toNat 0 ∧ xs.getD i.toNat 0 ≤ hi := by
  have hl : i.toNat < xs.length := by omega
  rw [List.getD_eq_getElem?_getD, List.getElem?_eq_getElem hl]
  exact h _ (List.getElem_mem hl)
theorem in_digits (c : Nat) : c ∈ [48, 49, 50, 51, 52, 53, 54, 55, 56, 57] ↔ 48 ≤ c ∧ c ≤ 57 := by
  simp only [List.mem_cons, List.not_mem_nil, or_false]
  omega
end L2

/-! ## a list unpacked; str.replace (its arguments' tokens must not be 0) -/
namespace L2
open PySem PySem.Spec PyProof.Rows
section
variable {prog : Program} {w : World} {A : Around} {E : Value → Shared → Prop}
end
section
variable {X : Cx} {pos : Pos}
def gLst (K : PySem.W.Frag) (n : Nat) (t : TGs) : TG := fun v σ H Q => ∃ a xs, v = .ref a ∧ SqL K H a xs ∧ xs.length = n ∧ t xs σ H Q
end
/-! ### where a token has been made -/
def PEt (X : Cx) (e : Expr) (t : TE) : Prop :=
  ∀ (pins : List (Addr × Obj)) (s : Shared) (σ : St) (H : Hp) (Q : VK), 0 < s.toks → Inv X pins σ H s → t σ H Q → wpAny (model X.prog X.w) X.A (eval e X.env) (EP X pins σ Q) X.xe s
def PAt (X : Cx) (es : List Expr) (t : TA) : Prop :=
  ∀ (pos : Pos) (pins : List (Addr × Obj)) (s : Shared) (σ : St) (H : Hp) (Q : List V → Hp → Prop), 0 < s.toks → Inv X pins σ H s → t σ H Q → wpAny (model X.prog X.w) X.A (spliced (backTo pos (starEach es X.env))) (AP X pins σ Q) X.xe s
def PSst (X : Cx) (st : List Stmt) (t : TS) : Prop :=
  ∀ (pins : List (Addr × Obj)) (s : Shared) (σ : St) (H : Hp) (D : Ends), 0 < s.toks → Inv X pins σ H s → t D σ H → wpAny (model X.prog X.w) X.A (execs st X.env) (SP X pins D) X.xe s
section
variable {X : Cx} {a b e o : Expr} {es : List Expr} {te ta tb to : TE} {t : TA} {pos apos cpos : Pos}
theorem pet_ix {r : R2} (hr : IxR X r) (ha : PEt X a ta) (hb : PE X b tb) (hs : PlainIx b) : PEt X (.Subscript a b pos) (tOp r ta tb) := by
  intro pins s σ H Q h0 I h
  refine Subscript_ (thn (ha pins s σ H _ h0 I h) fun v s1 ⟨x, H1, I1, r1, q1⟩ => ?_)
  refine thn (hb pins s1 σ H1 _ I1 q1) fun u s2 ⟨y, H2, I2, r2, q2⟩ => ?_
  exact hr a b pins s2 σ H2 x y v u Q I2 r1 r2 q2 (hs _ _)
/-- o.replace(y, z), y and z written: some text -/
def tRepl (to : TE) : TE := fun σ H Q => to σ H fun x H1 => ∃ cs, x = .str (SL cs) ∧ cs.length ≤ 100000 ∧ ∀ cs' : List Nat, cs'.length ≤ sizeLine → Q (.str (SL cs')) H1
end
theorem at_strs {ys : List (List Nat)} {i : Int} (h0 : 0 ≤ i) (h1 : i < ys.length) : ∃ y, y ∈ ys ∧ atI (ys.map fun y => V.str (SL y)) i = some (.str (SL y)) := by
  obtain ⟨k, rfl⟩ := Int.eq_ofNat_of_zero_le h0
  have hk : k < ys.length := by omega
  refine ⟨ys[k], List.getElem_mem hk, atI_nat ?_⟩
  rw [List.getElem?_map, List.getElem?_eq_getElem hk]
  rfl
theorem at_some {α : Type} {ys : List α} {i : Int} (h0 : 0 ≤ i) (h1 : i < ys.length) : ∃ y, y ∈ ys ∧ atI ys i = some y := by
  obtain ⟨k, rfl⟩ := Int.eq_ofNat_of_zero_le h0
  have hk : k < ys.length := by omega
  exact ⟨ys[k], List.getElem_mem hk, atI_nat (List.getElem?_eq_getElem hk)⟩
theorem cutC_len (cs : List Nat) (lo hi : Option Int) : (cutC cs lo hi).length ≤ cs.length := by
  unfold cutC
  rw [List.length_take, List.length_drop]
  omega
theorem ex_at {ys : List Nat} {i : Int} {P : Nat → Prop} (h0 : 0 ≤ i) (h1 : i < ys.length) (h : ∀ x ∈ ys, P x) : ∃ x, atI ys i = some x ∧ P x := by
  obtain ⟨x, hx, e⟩ := at_some h0 h1
  exact ⟨x, e, h x hx⟩
end L2

/-! ## list comprehensions: the block as a context of its own -/
namespace L2
open PySem PySem.Spec PyProof.Rows
section
variable {prog : Program} {w : World} {A : Around} {R : Result → Shared → Prop} {s : Shared}
abbrev NoE : Value → Shared → Prop := fun _ _ => False
end
/-- what a comprehension's block stands on -/
structure CA where
  cl : List (Str × Addr)
  C : Addr
  s : Shared
  H : Hp
  fp : List Addr
def Cx.comp (X : Cx) (scope : Scope) (N : List Str) (a : CA) : Cx :=
  { X with N := N, s₀ := a.s, H₀ := a.H, env := compEnvC scope a.cl a.C X.env, outer := X.stack, ex := a.fp, fn := fun _ => false, pn := [], xe := NoE }
theorem comp_K {X : Cx} {scope : Scope} {N : List Str} {a : CA} : (X.comp scope N a).K = X.K := rfl
/-- the names of a block: n of its own, then those at js of the names around it -/
def capOk (outer : List (Str × NameKind)) (oN : List Str) (inner : List (Str × NameKind)) (N : List Str) (n : Nat) (js : List Nat) : Bool :=
  N.length == n + js.length &&
  (inner.all fun p => p.2 != .cell && (p.2 != .local || inner.lookup p.1 == some .local) && (p.2 != .free || (inner.lookup p.1 == some .free && (outer.lookup p.1 == some .cell || outer.lookup p.1 == some .free)))) &&
  (List.range js.length).all fun k => match js[k]?, N[n + k]? with
    | some j, some x => oN[j]? == some x && (outer.lookup x == some .cell || outer.lookup x == some .free) && inner.lookup x == some .free
    | _, _ => false
/-- the values of a block's names at its beginning -/
def capσ (σ : St) (n : Nat) (js : List Nat) : St := List.replicate n none ++ js.map fun j => (σ[j]?).join
def Sub (σ τ : St) : Prop := σ.length = τ.length ∧ ∀ (i : Nat) v, σ[i]? = some (some v) → τ[i]? = some (some v)
theorem sub_nil : Sub [] [] = True := eq_true ⟨rfl, fun i v h => by simp at h⟩
theorem sub_none {σ τ : St} {x : Option V} : Sub (none :: σ) (x :: τ) = Sub σ τ := by
  refine propext ⟨fun h => ⟨by simpa using h.1, fun i v e => by simpa using h.2 (i + 1) v (by simpa using e)⟩, fun h => ⟨by simpa using h.1, fun i v e => ?_⟩⟩
  cases i with
  | zero => simp at e
  | succ i => simpa using h.2 i v (by simpa using e)
theorem sub_some {σ τ : St} {x : V} : Sub (some x :: σ) (some x :: τ) = Sub σ τ := by
  refine propext ⟨fun h => ⟨by simpa using h.1, fun i v e => by simpa using h.2 (i + 1) v (by simpa using e)⟩, fun h => ⟨by simpa using h.1, fun i v e => ?_⟩⟩
  cases i with
  | zero => simpa using e
  | succ i => simpa using h.2 i v (by simpa using e)
/-! ### the cells that a block closes over -/
section
variable {X : Cx} {scope : Scope} {N : List Str} {n : Nat} {js : List Nat} {pins : List (Addr × Obj)} {σ : St} {H : Hp} {s₃ : Shared} {cl : List (Str × Addr)} {fp : List Addr}
end
/-! ### the tests of a block -/
def PIf (X : Cx) (ifs : List Expr) (t : TT) : Prop :=
  ∀ (pins : List (Addr × Obj)) (s : Shared) (σ : St) (H : Hp) (Q : Bool → Hp → Prop), Inv X pins σ H s → t σ H Q →
    wpAny (model X.prog X.w) X.A (forIn ifs true fun c r => if r = true then do let ok ← isTrue c X.env (eval c X.env); pure (ForInStep.yield ok) else pure (ForInStep.yield r)) (TP X pins σ Q) X.xe s
def tYes : TT := fun _ H Q => Q true H
/-- a comprehension's reading: W by the turn, a measure, what is told so far -/
def CompR (J : It) (σ0 : St) (g : TG) (tc : TT) (te : TE) (l : Addr) (Q : VK) (H1 : Hp) : Prop :=
  ∃ W : Nat → Nat → List V → Hp → Prop, (∃ m, W 0 m [] (upd H1 l (.lst []))) ∧ ∀ i m xs H, W i m xs H → H l = some (.lst xs) ∧ xs.length < sizeLine ∧
    ((J.stop i H ∧ Q (.ref l) H) ∨ (J.go i H ∧ ∀ x H', J.yld i H x H' → g x σ0 H' fun σ2 H2 => Sub σ0 σ2 ∧ tc σ2 H2 fun b H3 =>
      if b = true then te σ2 H3 fun v H4 => H4 l = some (.lst xs) ∧ ∃ m', m' < m ∧ W (i + 1) m' (xs ++ [v]) (upd H4 l (.lst (xs ++ [v]))) else ∃ m', m' < m ∧ W (i + 1) m' xs H3))
section
variable {X : Cx} {tg elt iter : Expr} {ifs : List Expr} {scope : Scope} {pos : Pos} {N : List Str} {n : Nat} {js : List Nat} {g : CA → TG} {tc : CA → TT} {te : CA → TE}
def tComp (n : Nat) (js : List Nat) (wi : TI) (g : CA → TG) (tc : CA → TT) (te : CA → TE) : TE := fun σ H Q => wi σ H fun J H1 => ∀ l, H1 l = none → ∀ a : CA, CompR J (capσ σ n js) (g a) (tc a) (te a) l Q H1
end
/-! ### readings -/
/-- an iterator that yields just ys, whatever comes up beside -/
structure Lists (J : It) (H1 : Hp) (ys : List V) : Prop where
  go : ∀ i H, Same H1 H → i < ys.length → J.go i H
  stop : ∀ H, Same H1 H → J.stop ys.length H
  yld : ∀ i H x H', Same H1 H → J.yld i H x H' → i < ys.length → H' = H ∧ ys[i]? = some x
def rng (lo : Int) (n : Nat) : List V := (List.range n).map fun (i : Nat) => V.int (lo + i)
end L2

/-! ## wide numbers; sum, all of a list; values as trees, and their equality -/
namespace L2
open PySem PySem.Spec PyProof.Rows
/-- of at most some nine hundred figures -/
def Sm (i : Int) : Prop := i.natAbs < 2 ^ 3000
theorem Sm.pow10 {i : Int} {k : Nat} (hk : k ≤ 700) (h : i.natAbs ≤ 10 ^ k) : Sm i := by
  refine Nat.lt_of_le_of_lt h ?_
  refine Nat.lt_of_le_of_lt (Nat.pow_le_pow_left (show 10 ≤ 2 ^ 4 by decide) k) ?_
  rw [← Nat.pow_mul]
  exact Nat.pow_lt_pow_right (by decide) (by omega)
theorem Sm.small {i : Int} (h0 : -1000000000000000000 ≤ i) (h1 : i ≤ 1000000000000000000) : Sm i := by
  refine Sm.pow10 (k := 18) (by decide) ?_
  have e : (10 : Nat) ^ 18 = 1000000000000000000 := by decide
  omega
section
variable {X : Cx}
theorem bb_abs : bootBuiltins "abs" = some (.builtin "abs") := by decide +kernel
end
/-! ### values as trees -/
inductive D where
  | non
  | bl (b : Bool)
  | int (i : Int)
  | str (cs : List Nat)
  | tup (ds : List D)
  | lst (ds : List D)
def all2 (f : D → V → Prop) : List D → List V → Prop
  | [], [] => True
  | d :: ds, x :: xs => f d x ∧ all2 f ds xs
  | _, _ => False
/-- the value at v is this tree, of at most so many levels -/
def Dp (K : PySem.W.Frag) (H : Hp) : Nat → D → V → Prop
  | _, .non, v => v = .non
  | _, .bl b, v => v = .bl b
  | _, .int i, v => v = .int i
  | _, .str cs, v => v = .str (SL cs)
  | n + 1, .tup ds, v => ∃ a xs, v = .ref a ∧ SqT K H a xs ∧ all2 (Dp K H n) ds xs
  | n + 1, .lst ds, v => ∃ a xs, v = .ref a ∧ SqL K H a xs ∧ all2 (Dp K H n) ds xs
  | 0, .tup _, _ => False
  | 0, .lst _, _ => False
def all2b (f : D → D → Bool) : List D → List D → Bool
  | [], [] => true
  | a :: r, b :: t => f a b && all2b f r t
  | _, _ => false
/-- == of trees -/
def eqb : Nat → D → D → Bool
  | _, .non, .non => true
  | _, .bl a, .bl b => a == b
  | _, .bl a, .int b => (if a then 1 else 0) == b
  | _, .int a, .bl b => a == (if b then 1 else 0)
  | _, .int a, .int b => a == b
  | _, .str a, .str b => a == b
  | n + 1, .tup a, .tup b => all2b (eqb n) a b
  | n + 1, .lst a, .lst b => all2b (eqb n) a b
  | _, _, _ => false
def isSeq : D → Bool
  | .tup _ => true
  | .lst _ => true
  | _ => false
/-- what == is told of here: no list or tuple beside another kind -/
def cmpOk : Nat → D → D → Prop
  | n + 1, .tup a, .tup b => ∀ (j : Nat) (x y : D), a[j]? = some x → b[j]? = some y → cmpOk n x y
  | n + 1, .lst a, .lst b => ∀ (j : Nat) (x y : D), a[j]? = some x → b[j]? = some y → cmpOk n x y
  | _, a, b => isSeq a = false ∧ isSeq b = false
theorem all2_imp {f g : D → V → Prop} : ∀ {ds : List D} {xs : List V}, (∀ d ∈ ds, ∀ x, f d x → g d x) → all2 f ds xs → all2 g ds xs
  | [], [], _, _ => trivial
  | d :: r, x :: t, h, q => ⟨h d List.mem_cons_self x q.1, all2_imp (fun d hd => h d (List.mem_cons_of_mem _ hd)) q.2⟩
  | [], _ :: _, _, h => h.elim
  | _ :: _, [], _, h => h.elim
theorem Dp.same {K : PySem.W.Frag} {H H' : Hp} (sm : Same H H') : ∀ {n : Nat} {d : D} {v : V}, Dp K H n d v → Dp K H' n d v
  | _, .non, _, h => by unfold Dp at h ⊢; exact h
  | _, .bl _, _, h => by unfold Dp at h ⊢; exact h
  | _, .int _, _, h => by unfold Dp at h ⊢; exact h
  | _, .str _, _, h => by unfold Dp at h ⊢; exact h
  | n + 1, .tup ds, v, h => by
    unfold Dp at h ⊢
    obtain ⟨a, xs, e, hq, hs⟩ := h
    exact ⟨a, xs, e, sm.sqT hq, all2_imp (fun d _ x q => Dp.same sm q) hs⟩
  | n + 1, .lst ds, v, h => by
    unfold Dp at h ⊢
    obtain ⟨a, xs, e, hq, hs⟩ := h
    exact ⟨a, xs, e, sm.seq hq, all2_imp (fun d _ x q => Dp.same sm q) hs⟩
  | 0, .tup _, _, h => by unfold Dp at h; exact h.elim
  | 0, .lst _, _, h => by unfold Dp at h; exact h.elim
/-- a tree that is no list and no tuple -/
def sc : D → Option V
  | .non => some .non
  | .bl b => some (.bl b)
  | .int i => some (.int i)
  | .str cs => some (.str (SL cs))
  | _ => none
theorem Dp.sc {K : PySem.W.Frag} {H : Hp} {n : Nat} {d : D} {v x : V} (h : sc d = some x) : Dp K H n d v = (v = x) := by
  cases d with
  | non => cases h; unfold Dp; rfl
  | bl b => cases h; unfold Dp; rfl
  | int i => cases h; unfold Dp; rfl
  | str cs => cases h; unfold Dp; rfl
  | tup ds => cases h
  | lst ds => cases h
theorem Dp.flat {K : PySem.W.Frag} {H : Hp} {d : D} {v : V} (h : Dp K H 0 d v) : ∃ x, L2.sc d = some x := by
  cases d with
  | tup ds => unfold Dp at h; exact h.elim
  | lst ds => unfold Dp at h; exact h.elim
  | _ => exact ⟨_, rfl⟩
section
variable {X : Cx} {pins : List (Addr × Obj)} {σ : St} {H : Hp} {s : Shared}
end
section
variable {X : Cx}
/-- == (neg: !=) of two lists or two tuples, by their trees -/
def rEqD (K : PySem.W.Frag) (neg : Bool) : R2 := fun x y H Q => ∃ n d e, Dp K H (n + 1) d x ∧ Dp K H (n + 1) e y ∧ sc d = none ∧ sc e = none ∧ n ≤ 50 ∧ cmpOk (n + 1) d e ∧ Q (.bl (if neg then !eqb (n + 1) d e else eqb (n + 1) d e)) H
end
end L2

/-! ## new things, told by what stands there alone (no upd in the reading) -/
namespace L2
open PySem PySem.Spec PyProof.Rows
/-- a new object: its address was free, all else stays -/
def New (H : Hp) (o : HO) (Q : VK) : Prop := ∀ p H', H p = none → Same H H' → H' p = some o → Q (.ref p) H'
theorem New.at {H : Hp} {o : HO} {Q : VK} (h : New H o Q) {p : Addr} (hp : H p = none) : Q (.ref p) (upd H p o) := h p _ hp (same_new hp o) upd_same
section
variable {X : Cx} {es : List Expr} {t : TA} {pos : Pos}
def tTupS (t : TA) : TE := fun σ H Q => t σ H fun xs H1 => xs.length ≤ sizeLine ∧ New H1 (.tup xs) Q
def tLstS (t : TA) : TE := fun σ H Q => t σ H fun xs H1 => xs.length ≤ sizeLine ∧ New H1 (.lst xs) Q
theorem pe_lstS (h : PA X es t) : PE X (.List es pos) (tLstS t) := by
  intro pins s σ H Q I hq
  refine wpAny_List_spliced (thn (h pos pins s σ H _ I hq) fun us s1 ⟨xs, H1, I1, r, z, q⟩ => ⟨by rw [← r.length]; exact z, ?_⟩)
  have hf : H1 s1.heap.objs.size = none := I1.hok.fresh (Nat.le_refl _)
  refine ⟨.ref s1.heap.objs.size, upd H1 s1.heap.objs.size (.lst xs), I1.laid (t' := s1.toks) (fun b u e => Heap.get?_push_of_some _ e) (Nat.le_refl _) ?_, rfl, q.at hf⟩
  exact ⟨z, us, 0, r, Heap.get?_push_size _ rfl⟩
theorem OpR.imp {f : Value → Value → Sem Value} {r r' : R2} (h : OpR X f r) (i : ∀ x y H Q, r' x y H Q → r x y H Q) : OpR X f r' := fun pins s σ H x y v u Q I rx ry q => h pins s σ H x y v u Q I rx ry (i _ _ _ _ q)
theorem SlR.imp {r r' : V → Option Int → Option Int → Hp → VK → Prop} (h : SlR X r) (i : ∀ x lo hi H Q, r' x lo hi H Q → r x lo hi H Q) : SlR X r' :=
  fun pins s σ H x v vl vu lo hi sl Q I rx hs pl pu q => h pins s σ H x v vl vu lo hi sl Q I rx hs pl pu (i _ _ _ _ _ q)
theorem CallR.imp {f : Value} {r r' : List V → Hp → VK → Prop} (h : CallR X f r) (i : ∀ xs H Q, r' xs H Q → r xs H Q) : CallR X f r' := fun pins s σ H xs us Q I rx q => h pins s σ H xs us Q I rx (i _ _ _ q)
def rCatS : R2 := fun x y H Q => ∃ p q xs ys, x = .ref p ∧ y = .ref q ∧ H p = some (.lst xs) ∧ H q = some (.lst ys) ∧ xs.length + ys.length ≤ sizeLine ∧ New H (.lst (xs ++ ys)) Q
theorem op_catS : OpR X (binaryOp .Add) rCatS := op_cat.imp fun _ _ _ _ ⟨p, q, xs, ys, e1, e2, h1, h2, hz, hq⟩ => ⟨p, q, xs, ys, e1, e2, h1, h2, hz, fun _ hp => hq.at hp⟩
def rRepS : R2 := fun x y H Q => ∃ l k xs, x = .ref l ∧ y = .int k ∧ H l = some (.lst xs) ∧ -(2 ^ 63) ≤ k ∧ k < 2 ^ 63 ∧ xs.length * k.toNat ≤ sizeLine ∧ New H (.lst (List.replicate k.toNat xs).flatten) Q
def rSlLS (K : PySem.W.Frag) : V → Option Int → Option Int → Hp → VK → Prop := fun x lo hi H Q => ∃ a xs, x = .ref a ∧ SqL K H a xs ∧ New H (.lst (cutV xs lo hi)) Q
theorem sl_listS : SlR X (rSlLS X.K) := sl_list.imp fun _ _ _ _ _ ⟨a, xs, e, h, q⟩ => ⟨a, xs, e, h, fun _ hp => q.at hp⟩
end
end L2
namespace L2
open PySem PySem.Spec PyProof.Rows
/-- a function of an int's value -/
def mI (g : Int → V) : V → V
  | .int k => g k
  | _ => .non
theorem small_len {n : Nat} (h : n ≤ 1000) : n < sizeLine := Nat.lt_of_le_of_lt h (by decide)
theorem le_line {n : Nat} (h : n ≤ 1000) : n ≤ sizeLine := Nat.le_of_lt (small_len h)
/-- for c in script[:n] + [0], new things by New -/
theorem for_scriptS {K : PySem.W.Frag} {a : Addr} {ns : List Int} {n : Int} {j : Nat} {tb : TS} {D : Ends} {σ : St} {H : Hp} (Pv : St → Hp → Prop) (h0 : σ[0]? = some (some (.ref a))) (hS : SqL K H a (ns.map V.int)) (h63 : ns.length ≤ 63)
    (p0 : ∀ H', Same H H' → Pv σ H')
    (hs : ∀ (c : Int) σ1 H1 l (xs : List V), Pv σ1 H1 → H1 l = some (.lst xs) → tb { D with nx := fun σ2 H2 => Pv σ2 H2 ∧ H2 l = some (.lst xs), ct := fun σ2 H2 => Pv σ2 H2 ∧ H2 l = some (.lst xs), bk := D.nx } (σ1.set j (some (.int c))) H1)
    (hd : ∀ σ1 H1, Pv σ1 H1 → D.nx σ1 H1) :
    tFor (iList K (tOp rCatS (tSl (rSlLS K) (tVar 0) tNoPart (tPart (tC (V.int n)))) (tLstS (tCons (tC (V.int 0)) tNil)))) (gName j) tb D σ H := by
  refine ⟨_, h0, _, rfl, a, _, rfl, hS, fun p H1 _ s1 e1 => ?_⟩
  refine ⟨by decide, fun p2 H2 _ s2 e2 => ?_⟩
  have l1 := cutV_length (ns.map V.int) none (some n)
  rw [List.length_map] at l1
  refine ⟨p, p2, cutV (ns.map V.int) none (some n), [.int 0], rfl, rfl, s2 _ _ e1, e2, Nat.le_trans (Nat.add_le_add_right l1 _) (Nat.le_trans (Nat.add_le_add_right h63 _) (by decide)), fun l H3 _ s3 e3 => ?_⟩
  refine ⟨l, rfl, ⟨_, SqL.of e3⟩, ?_⟩
  refine for_list (xs := cutV (ns.map V.int) none (some n) ++ [.int 0]) (fun _ σ1 H1 => Pv σ1 H1 ∧ H1 l = some (.lst (cutV (ns.map V.int) none (some n) ++ [.int 0]))) ⟨p0 _ ((s1.trans s2).trans s3), e3⟩ (fun _ _ _ _ h => SqL.of h.2) (fun i x σ1 H1 hx h => ?_) (fun σ1 H1 h => hd σ1 H1 h.1)
  have hx' := List.mem_of_getElem? hx
  obtain ⟨c, rfl⟩ : ∃ c, x = .int c := by
    rcases List.mem_append.mp hx' with z | z
    · obtain ⟨c, _, e⟩ := List.mem_map.mp (mem_cut z)
      exact ⟨c, e.symm⟩
    · exact ⟨0, by simpa using z⟩
  exact hs c σ1 H1 l _ h.1 h.2
end L2
namespace L2
open PySem PySem.Spec PyProof.Rows
def tEither (t u : TE) : TE := fun σ H Q => t σ H Q ∨ u σ H Q
end L2

/-! ## a loop's iterator on its own; two lists side by side (zip) -/
namespace L2
open PySem PySem.Spec PyProof.Rows
/-- what a loop asks of its iterator -/
def Loop (g : TG) (tb : TS) (D : Ends) (σ : St) (J : It) (H1 : Hp) : Prop := ∃ W : Nat → Nat → St → Hp → Prop, (∃ m, W 0 m σ H1) ∧ ∀ i m σ H, W i m σ H →
  (J.stop i H ∧ D.nx σ H) ∨ (J.go i H ∧ ∃ N : St → Hp → Prop, (∀ σ' H', N σ' H' → ∃ m', m' < m ∧ W (i + 1) m' σ' H') ∧ ∀ x H', J.yld i H x H' → g x σ H' fun σ2 H2 => tb { D with nx := N, ct := N, bk := D.nx } σ2 H2)
/-- the loop's rest as one name, so that the simp call sees the iterator only -/
theorem for_by {wi : TI} {g : TG} {tb : TS} {D : Ends} {σ : St} {H : Hp} (k : ∀ R : It → Hp → Prop, (∀ J H1, Loop g tb D σ J H1 → R J H1) → wi σ H R) : tFor wi g tb D σ H := k _ fun _ _ h => h
/-- two lists side by side: each turn makes a new pair -/
def Itz (K : PySem.W.Frag) (a b : Addr) : It :=
  ⟨fun i H => ∃ xs ys x y, SqL K H a xs ∧ SqL K H b ys ∧ xs[i]? = some x ∧ ys[i]? = some y,
   fun i H v H' => ∃ p, v = .ref p ∧ H p = none ∧ Same H H' ∧ ∃ x y, H' p = some (.tup [x, y]) ∧ (∀ xs, SqL K H a xs → xs[i]? = some x) ∧ ∀ ys, SqL K H b ys → ys[i]? = some y,
   fun i H => ∃ xs ys, SqL K H a xs ∧ SqL K H b ys ∧ (xs.length ≤ i ∨ ys.length ≤ i)⟩
section
variable {X : Cx} {pins : List (Addr × Obj)} {σ : St} {H : Hp} {s : Shared} {h' : Heap} {ch : List Addr} {t' : Nat}
end
def iZip (K : PySem.W.Frag) (ta : TA) : TI := fun σ H R => ta σ H fun vs H1 => ∃ a b, vs = [.ref a, .ref b] ∧ (∃ xs, SqL K H1 a xs) ∧ (∃ ys, SqL K H1 b ys) ∧ R (Itz K a b) H1
section
variable {X : Cx}
end
/-! ### f(e, .., k = v, ..) where f may raise -/
section
variable {X : Cx} {Ek : St → XK} {k : Nat} {f : Addr} {fd : FuncData} {ps ks : List Str} {sp : Sp} {x : Str} {p pos : Pos} {e : Expr} {es : List Expr} {kws : List Keyword} {t tk : TA} {g : List Value → List Value → List Value} {gV : List V → List V → List V}
def tCallKX (sp : Sp) (gV : List V → List V → List V) (Ek : St → XK) (t tk : TA) : TE := fun σ H Q => t σ H fun vs H1 => tk σ H1 fun zs H2 => sp (gV vs zs) H2 Q (Ek σ)
theorem run_fnKX {pins : List (Addr × Obj)} {σ : St} {H : Hp} {s : Shared} {Q : VK} {us ws : List Value} {vs zs : List V} (L : Lv X Ek) (F : FnOk X.prog X.w X.K X.mg X.base (CXE X.prog X.w) k f fd ps sp) (hr : Room k X.A) (hb : KBinds X.K fd ps ks g gV)
    (I : Inv X pins σ H s) (r : Vals vs us) (rz : Vals zs ws) (h : sp (gV vs zs) H Q (Ek σ)) : wpAny (model X.prog X.w) X.A (call (.ref f) us (ks.zip ws)) (EP X pins σ Q) X.xe s := by
  have r2 := hb.rel r rz
  have hl : (g us ws).length = ps.length := by rw [← r2.length]; exact F.len _ _ _ _ h
  refine wpAny_call (codeAny_mono (F.run X.A X.stack s H ⟨us, ks.zip ws⟩ (g us ws) (gV vs zs) Q (Ek σ) hr I.env0 (hb.to s us ws I.kIn hl) r2 h) fun r s' hq => ?_)
  cases r with
  | error e =>
    obtain ⟨ea, cls, H', rfl, fl, q⟩ := hq
    exact L.call pins σ ea cls H H' s s' I fl q
  | ok fl =>
    cases fl with
    | ret u => exact I.after hq
    | next => exact False.elim hq
    | brk => exact False.elim hq
    | cont => exact False.elim hq
theorem pe_callKX (L : Lv X Ek) (F : FnOk X.prog X.w X.K X.mg X.base (CXE X.prog X.w) k f fd ps sp) (hr : Room k X.A) (hg : Gl X x) (hm : X.mg x = some (.ref f)) (hk : PySem.W.keepIn X.K (.ref f) = true) (hb : KBinds X.K fd ps ks g gV)
    (ha : PA X (e :: es) t) (hkw : PK X kws tk) (hall : (backToKw pos (keywordEach kws X.env)).all (·.1.isSome) = true := by rfl) (hks : (backToKw pos (keywordEach kws X.env)).filterMap (·.1) = ks := by rfl)
    (hdb : (x == ("__debug__" : Str)) = false := by decide) (he : starEach (e :: es) X.env = (false, eval e X.env) :: starEach es X.env := by rfl)
    (hpl : ((backTo pos (starEach (e :: es) X.env)).any (·.1) || (backToKw pos (keywordEach kws X.env)).any (·.1.isNone)) = false := by rfl) :
    PE X (.Call (.Name x p) (e :: es) kws pos) (tCallKX sp gV Ek t tk) := by
  intro pins s σ H Q I h
  refine wpAny_Call_Name_kw (ld_glob I hg hm ?_ hdb)
  refine PySem.W.callWith_KW (h₀ := X.base) I.ok.mod.kin hk hall (thn (ha pos pins s σ H _ I h) fun us s1 ⟨vs, H1, I1, r, q⟩ => ?_) hpl he
  refine thn (hkw pos pins s1 σ H1 _ I1 q) fun ws s2 ⟨zs, H2, I2, rz, q2⟩ => ⟨I2.kIn, ?_⟩
  rw [hks]
  exact run_fnKX L F hr hb I2 r rz q2
end
/-! ### a def with a default for its last argument -/
structure FunD (K : PySem.W.Frag) (x qual : Str) (st : Stmt) (f : Addr) (fd : FuncData) : Prop where
  ex : ∃ (dV oc : Value) (od : Option Addr) (kV doc pm : Value) (an : Option Addr) (cdv ct : Value) (osl : Array (Option Value)),
    fd = PySem.W.fnOf x qual (defArgs st) (defBody st) (defScope st) dV kV doc pm an cdv ct ∧ K.lookup f = some ⟨oc, od, .func fd, osl⟩ ∧ PySem.W.codeIn K cdv qual = true
  kp : PySem.W.keepIn K (.ref f) = true
theorem FunD.okX {P : Program} {w : World} {K : PySem.W.Frag} {mg : Str → Option Value} {base : Heap} {x qual : Str} {st : Stmt} {f : Addr} {fd : FuncData} {N ps : List Str} {k : Nat} {sp : Sp} (F : FunD K x qual st f fd) (S : FnScope N ps (defScope st)) (len : ∀ vs H Q E, sp vs H Q E → vs.length = ps.length)
    (hbody : ∀ (cdv : Value) (A : Around) (outer : List Env) (s : Shared) (H : Hp) (vs : List V) (Q : VK) (E : XK), LvR (cxOf (CXE P w) P w K mg base N qual (defScope st) f cdv A outer s H E) (fun _ => E) → Room k (A.deeper (envOfC qual (defScope st) s.heap.objs.size f cdv)) → sp vs H Q E →
      ∃ t, PSs (cxOf (CXE P w) P w K mg base N qual (defScope st) f cdv A outer s H E) (defBody st) t ∧ t { nx := fun _ H' => Q .non H', rt := Q } (start N vs) H) : FnOk P w K mg base (CXE P w) (k + 1) f fd ps sp := by
  obtain ⟨dV, oc, od, kV, doc, pm, an, cdv, ct, osl, rfl, lk, hcd⟩ := F.ex
  exact fn_of lk hcd S len fun A outer s H vs Q E hr hsp => hbody cdv A outer s H vs Q E lv_def hr hsp
theorem funD_mk {K : PySem.W.Frag} {x qual : Str} {st : Stmt} {f : Addr} {oc dV : Value} {od an : Option Addr} {osl : Array (Option Value)} {kV doc pm cdv ct : Value} (l : K.lookup f = some ⟨oc, od, .func (PySem.W.fnOf x qual (defArgs st) (defBody st) (defScope st) dV kV doc pm an cdv ct), osl⟩)
    (c : PySem.W.codeIn K cdv qual = true) (k : PySem.W.keepIn K (.ref f) = true) : FunD K x qual st f (PySem.W.fnOf x qual (defArgs st) (defBody st) (defScope st) dV kV doc pm an cdv ct) := ⟨⟨dV, oc, od, kV, doc, pm, an, cdv, ct, osl, rfl, l, c⟩, k⟩
/-- one argument by place, one by name -/
def kwG {α : Type} (us ws : List α) : List α := match us, ws with
  | [a], [b] => [a, b]
  | _, _ => []
theorem kwG_one {α : Type} (a b : α) : kwG [a] [b] = [a, b] := rfl
theorem kbinds_one {K : PySem.W.Frag} {fd : FuncData} {p0 p1 : Str} (h : ∀ (s : Shared) (u v : Value), K.In s.heap → BindsTo s fd ⟨[u], [(p1, v)]⟩ [(p0, u), (p1, v)]) : KBinds K fd [p0, p1] [p1] kwG kwG where
  to := fun s us ws hk hl => by
    match us, ws, hl with
    | [u], [v], _ => exact h s u v hk
    | [], [], hl => cases hl
    | [], _ :: _, hl => cases hl
    | [_], [], hl => cases hl
    | [_], _ :: _ :: _, hl => cases hl
    | _ :: _ :: _, [], hl => cases hl
    | _ :: _ :: _, _ :: _, hl => cases hl
  rel := fun r q => by
    cases r with
    | nil => exact .nil
    | cons r rr =>
      cases rr with
      | nil =>
        cases q with
        | nil => exact .nil
        | cons q qq =>
          cases qq with
          | nil => exact .cons r (.cons q .nil)
          | cons _ _ => exact .nil
      | cons _ _ => exact .nil
theorem binds_two {K : PySem.W.Frag} {fd : FuncData} {p0 p1 : Str} (h : ∀ (s : Shared) (u v : Value), K.In s.heap → BindsTo s fd ⟨[u, v], []⟩ [(p0, u), (p1, v)]) : Binds K fd [p0, p1] [] := fun s us hk hl => by
  match us, hl with
  | [u, v], _ => exact h s u v hk
  | [], hl => cases hl
  | [_], hl => cases hl
  | _ :: _ :: _ :: _, hl => simp at hl
theorem binds_dflt {K : PySem.W.Frag} {fd : FuncData} {p0 p1 : Str} {d : Value} (h : ∀ (s : Shared) (u : Value), K.In s.heap → BindsTo s fd ⟨[u], []⟩ [(p0, u), (p1, d)]) : Binds K fd [p0, p1] [d] := fun s us hk hl => by
  match us, hl with
  | [u], _ => exact h s u hk
  | [], hl => cases hl
  | _ :: _ :: _, hl => simp at hl
end L2

/-! ## an amount spread by weights -/
namespace Parts
/-- the parts of an amount A, by weights that come behind some of sum w, all of sum s -/
def pts (A s : Int) : Int → List Int → List Int
  | _, [] => []
  | w, x :: r => (A * (w + x) / s - A * w / s) :: pts A s (w + x) r
def parts (A : Int) (ws : List Int) : List Int := pts A ws.sum 0 ws
/-- weights that are none of the refused ones -/
def Good (ws : List Int) : Prop := 1 ≤ ws.length ∧ ws.length ≤ 20 ∧ (∀ w ∈ ws, 0 ≤ w) ∧ 0 < ws.sum
variable {A s : Int}
end Parts

/-! ## an argument that is no star, told once (its reduction over a long list is slow) -/
namespace L2
open PySem
section
variable {env : Env} {es : List Expr} {p : Pos}
theorem star_Constant {c : Const} {j : Nat} : starEach (.Constant c j p :: es) env = (false, eval (.Constant c j p) env) :: starEach es env := rfl
theorem star_Name {x : Str} : starEach (.Name x p :: es) env = (false, eval (.Name x p) env) :: starEach es env := rfl
theorem star_BinOp {a b : Expr} {o : Operator} : starEach (.BinOp a o b p :: es) env = (false, eval (.BinOp a o b p) env) :: starEach es env := rfl
theorem star_Subscript {a b : Expr} : starEach (.Subscript a b p :: es) env = (false, eval (.Subscript a b p) env) :: starEach es env := rfl
theorem star_Call {f : Expr} {xs : List Expr} {ks : List Keyword} : starEach (.Call f xs ks p :: es) env = (false, eval (.Call f xs ks p) env) :: starEach es env := rfl
end
end L2
/-! ## where a token has been made, through statements and calls (str.replace asks for that) -/
namespace L2
open PySem PySem.Spec PyProof.Rows
/-- weaken the end; a token stays made -/
theorem thnT {α : Type} {t : Sem α} {Q Q' : α → Shared → Prop} {M : Model} {A : Around} {E : Value → Shared → Prop} {s : Shared} (h0 : 0 < s.toks) (h : wpAny M A t Q E s) (hQ : ∀ a s, 0 < s.toks → Q a s → Q' a s) : wpAny M A t Q' E s :=
  wpAny_mono (wpAny_toks_of (n := 1) h0 h) (fun a s x => hQ a s x.1 x.2) fun _ _ x => x.2
def PSt (X : Cx) (st : Stmt) (t : TS) : Prop :=
  ∀ (pins : List (Addr × Obj)) (s : Shared) (σ : St) (H : Hp) (D : Ends), 0 < s.toks → Inv X pins σ H s → t D σ H → wpAny (model X.prog X.w) X.A (exec st X.env) (SP X pins D) X.xe s
def PTt (X : Cx) (e : Expr) (t : TT) : Prop :=
  ∀ (pins : List (Addr × Obj)) (s : Shared) (σ : St) (H : Hp) (Q : Bool → Hp → Prop), 0 < s.toks → Inv X pins σ H s → t σ H Q → wpAny (model X.prog X.w) X.A (isTrue e X.env (eval e X.env)) (TP X pins σ Q) X.xe s
def PWt (X : Cx) (e : Expr) (t : TT) : Prop :=
  ∀ (whole : Sem Value) (pins : List (Addr × Obj)) (s : Shared) (σ : St) (H : Hp) (Q : Bool → Hp → Prop), 0 < s.toks → Inv X pins σ H s → t σ H Q → wpAny (model X.prog X.w) X.A (isTrue e X.env whole) (TP X pins σ Q) X.xe s
theorem PWt.pt {X : Cx} {e : Expr} {t : TT} (h : PWt X e t) : PTt X e t := h _
section
variable {X : Cx} {st : Stmt} {sts rest : List Stmt} {e a b : Expr} {es : List Expr} {u v : TS} {te ta tb to : TE} {tc tA tB' : TT} {tl : TA} {pos : Pos}
theorem PE.t (h : PE X e te) : PEt X e te := fun pins s σ H Q _ I q => h pins s σ H Q I q
theorem PA.t (h : PA X es tl) : PAt X es tl := fun ps pins s σ H Q _ I q => h ps pins s σ H Q I q
theorem PS.t (h : PS X st u) : PSt X st u := fun pins s σ H D _ I q => h pins s σ H D I q
theorem PSs.t (h : PSs X sts u) : PSst X sts u := fun pins s σ H D _ I q => h pins s σ H D I q
theorem PT.t (h : PT X e tc) : PTt X e tc := fun pins s σ H Q _ I q => h pins s σ H Q I q
theorem PW.t (h : PW X e tc) : PWt X e tc := fun wh pins s σ H Q _ I q => h wh pins s σ H Q I q
theorem psst_cons (h1 : PSt X st u) (h2 : PSst X rest v) : PSst X (st :: rest) (tSeq u v) := by
  intro pins s σ H D h0 I h
  refine wpAny_execs_cons (thnT h0 (h1 pins s σ H { D with nx := v D } h0 I h) fun f s1 l1 q => ?_)
  cases f with
  | next =>
    obtain ⟨σ', H', I', q⟩ := q
    exact h2 pins s1 σ' H' D l1 I' q
  | ret v => exact q
  | brk => exact q
  | cont => exact q
theorem psst_one (h1 : PSt X st u) : PSst X [st] u := by
  intro pins s σ H D h0 I h
  refine wpAny_execs_cons (thn (h1 pins s σ H D h0 I h) fun f s1 q => ?_)
  cases f with
  | next => exact wpAny_execs_nil q
  | ret v => exact q
  | brk => exact q
  | cont => exact q
theorem pst_ret (he : PEt X e te) : PSt X (.Return (some e) pos) (tRet te) := by
  intro pins s σ H D h0 I h
  exact wpAny_Return_some (thn (he pins s σ H _ h0 I h) fun v s1 ⟨x, H1, I1, r1, q1⟩ => ⟨x, σ, H1, I1, r1, q1⟩)
theorem pst_if {c : Expr} {a b : List Stmt} (hc : PTt X c tc) (ha : PSst X a u) (hb : PSst X b v) : PSt X (.If c a b pos) (tIfS tc u v) := by
  intro pins s σ H D h0 I h
  refine wpAny_If (thnT h0 (hc pins s σ H _ h0 I h) fun d s1 l1 ⟨H1, I1, q1⟩ => ?_)
  cases d with
  | true => exact ha pins s1 σ H1 D l1 I1 q1
  | false => exact hb pins s1 σ H1 D l1 I1 q1
theorem pst_set {i : Nat} {x : Str} {pos' : Pos} (hN : X.N.Nodup) (hi : X.N[i]? = some x) (hx : Loc X.env.scope x) (he : PEt X e te) (hs : swapsWith e (some (.Name x pos')) pos.line X.env = pure false := by rfl) (hf : X.fn x = true ∨ X.env.scope.names.lookup x = some .local := by first | exact .inl rfl | exact .inr rfl | assumption) :
    PSt X (.Assign [.Name x pos'] e pos) (tAsg te (gName i)) := by
  intro pins s σ H D h0 I h
  refine wpAny_Assign_Name (thn (he pins s σ H _ h0 I h) fun v s1 ⟨y, H1, I1, r1, q1⟩ => ?_) hs
  exact store_ok I1 hN hi hx r1 (fun s2 I2 => ⟨_, H1, I2, q1⟩) hf
theorem pst_cut (h : PSt X st u) : PSt X st (tCut u) := by
  intro pins s σ H D h0 I q
  obtain ⟨R, q1, q2⟩ := q
  refine thn (h pins s σ H { D with nx := R } h0 I q1) fun f s1 z => ?_
  cases f with
  | next =>
    obtain ⟨σ', H', I', z⟩ := z
    exact ⟨σ', H', I', q2 _ _ z⟩
  | ret v => exact z
  | brk => exact z
  | cont => exact z
theorem ptt_val (h : PEt X e te) (he : ∀ whole, isTrue e X.env whole = (do let v ← whole; standAt e.pos; holding [v] (truthy v)) := by intro _; rfl) : PTt X e (tB te) := by
  intro pins s σ H Q h0 I hw
  refine isTrue_plain (thn (h pins s σ H _ h0 I hw) fun v s1 ⟨x, H1, I1, r1, q1⟩ => ?_) (he _)
  obtain ⟨d, rfl, q⟩ := q1
  cases r1
  exact wpAny_truthy_bool ⟨H1, I1, q⟩
theorem pwt_or1 (ha : PTt X a tA) : PWt X (.BoolOp .Or [a] pos) tA := by
  intro wh pins s σ H Q h0 I h
  refine isTrue_or (thn (ha pins s σ H Q h0 I h) fun c s1 e => ?_)
  cases c with
  | false => exact isTrue_or_nil e
  | true => exact e
theorem pwt_or {rest : List Expr} (ha : PTt X a tA) (hb : PWt X (.BoolOp .Or (b :: rest) pos) tB') : PWt X (.BoolOp .Or (a :: b :: rest) pos) (tOr tA tB') := by
  intro wh pins s σ H Q h0 I h
  refine isTrue_or (thnT h0 (ha pins s σ H _ h0 I h) fun c s1 l1 ⟨H1, I1, q1⟩ => ?_)
  cases c with
  | true => exact ⟨H1, I1, q1⟩
  | false => exact hb wh pins s1 σ H1 Q l1 I1 q1
theorem ptt_not (ha : PTt X a tA) : PTt X (.UnaryOp .Not a pos) (tNot tA) := by
  intro pins s σ H Q h0 I h
  exact isTrue_not (ha pins s σ H (fun c H1 => Q (!c) H1) h0 I h)
theorem patT_cons (ha : PEt X e te) (hr : PAt X es tl) (hs : starEach (e :: es) X.env = (false, eval e X.env) :: starEach es X.env := by rfl) : PAt X (e :: es) (tCons te tl) := by
  intro pos pins s σ H Q h0 I h
  rw [hs]
  show wpAny _ _ (spliced ((false, eval e X.env) :: backTo pos (starEach es X.env))) _ _ s
  refine Calls.spliced_cons (thnT h0 (ha pins s σ H _ h0 I h) fun u s1 l1 ⟨x, H1, I1, r1, q1⟩ => ?_)
  exact thn (hr pos pins s1 σ H1 _ l1 I1 q1) fun us s2 ⟨xs, H2, I2, r2, q2⟩ => ⟨x :: xs, H2, I2, .cons r1 r2, q2⟩
theorem pet_lstS (h : PAt X es tl) : PEt X (.List es pos) (tLstS tl) := by
  intro pins s σ H Q h0 I hq
  refine wpAny_List_spliced (thn (h pos pins s σ H _ h0 I hq) fun us s1 ⟨xs, H1, I1, r, z, q⟩ => ⟨by rw [← r.length]; exact z, ?_⟩)
  have hf : H1 s1.heap.objs.size = none := I1.hok.fresh (Nat.le_refl _)
  refine ⟨.ref s1.heap.objs.size, upd H1 s1.heap.objs.size (.lst xs), I1.laid (t' := s1.toks) (fun b u e => Heap.get?_push_of_some _ e) (Nat.le_refl _) ?_, rfl, q _ _ hf (same_new hf _) upd_same⟩
  exact ⟨z, us, 0, r, Heap.get?_push_size _ rfl⟩
/-- o.replace(y, ""), y a sign -/
def tStrike (c : Nat) (to : TE) : TE := fun σ H Q => to σ H fun x H1 => ∃ cs, x = .str (SL cs) ∧ cs.length ≤ sizeLine ∧ Q (.str (SL (cs.filter (· != c)))) H1
theorem replace_SL (cs : List Nat) (c : Nat) : Txt.replace (SL cs) (SL [c]) (SL []) = SL (cs.filter (· != c)) := by
  rw [SL_of (Txt.replace (SL cs) (SL [c]) (SL []))]
  exact congrArg SL (replace_strikes (SL cs) c)
theorem pet_strike {o : Expr} {y z : Str} {c : Nat} {j k : Nat} {p1 p2 apos cpos : Pos} (hy : y = SL [c]) (hz : z = SL []) (ho : PEt X o to)
    (hbase : attributeBase o "replace" X.env (eval o X.env) = eval o X.env := by rfl)
    (hfew : ((backTo cpos (starEach [.Constant (.str y) j p1, .Constant (.str z) k p2] X.env)).all (fun x => !x.1) && (backToKw cpos (keywordEach [] X.env)).all (fun x => x.1.isSome)
      && decide (([.Constant (.str y) j p1, .Constant (.str z) k p2] : List Expr).length + ([] : List Keyword).length + (if ([] : List Keyword).isEmpty then 0 else 1) < 30)) = true := by rfl)
    (hline : (apos.endLine == cpos.line) = true := by rfl)
    (hs : starEach [.Constant (.str y) j p1, .Constant (.str z) k p2] X.env = [(false, eval (.Constant (.str y) j p1) X.env), (false, eval (.Constant (.str z) k p2) X.env)] := by rfl) :
    PEt X (.Call (.Attribute o "replace" apos) [.Constant (.str y) j p1, .Constant (.str z) k p2] [] cpos) (tStrike c to) := by
  intro pins s σ H Q h0 I h
  refine wpAny_Call_method_late hbase hfew hline rfl (wpAny_mono (wpAny_toks_of (n := 1) h0 (ho pins s σ H _ h0 I h)) (fun v s1 hv => ?_) fun _ _ z => z.2)
  obtain ⟨l1, x, H1, I1, r1, cs, rfl, hl, q1⟩ := hv
  have ty : tyV X.K "str" (.str (SL cs)) H1 := rfl
  obtain ⟨h1, h2⟩ := tyV_is I1 r1 ty
  refine ⟨"str", "str.replace", PySem.F.plainAttrs_str, PySem.F.slot_str_replace, PySem.F.type_str_replace, h1, h2, ?_⟩
  obtain ⟨t, rfl⟩ := r1
  rw [hs]
  refine Calls.callWith_builtin rfl (Calls.evalArgs_plain ?_)
  refine Calls.spliced_cons (Calls.Constant_str (k := j) (pos := p1) ?_)
  refine Calls.spliced_cons (Calls.Constant_str (k := k) (pos := p2) ?_)
  refine Calls.spliced_nil ?_
  have hyz : (y == z) = false := by
    rw [hy, hz]
    refine Bool.eq_false_iff.mpr fun q => ?_
    have e := eq_of_beq q
    rw [SL_inj] at e
    cases e
  have hb : (SL cs).length + ((SL cs).length + 1) * z.length ≤ 16777216 := by
    rw [hz, SL_len, SL_len]
    simp only [List.length_nil, Nat.mul_zero, Nat.add_zero]
    rw [← sizeLine_eq]
    exact hl
  refine SC.replace (by show s1.toks ≠ 0; omega) (by show s1.toks + 1 ≠ 0; omega) (by show s1.toks ≠ s1.toks + 1; omega) hyz hb fun t' k => ?_
  rw [hy, hz, replace_SL]
  exact ⟨.str _, H1, I1.tok _, ⟨t', rfl⟩, q1⟩
/-- o.replace(y, z), y and z written: some text -/
theorem petT_replace {o : Expr} {y z : Str} {j k : Nat} {p1 p2 apos cpos : Pos} (hyz : (y == z) = false) (hz : z.length ≤ 2) (ho : PEt X o to)
    (hbase : attributeBase o "replace" X.env (eval o X.env) = eval o X.env := by rfl)
    (hfew : ((backTo cpos (starEach [.Constant (.str y) j p1, .Constant (.str z) k p2] X.env)).all (fun x => !x.1) && (backToKw cpos (keywordEach [] X.env)).all (fun x => x.1.isSome)
      && decide (([.Constant (.str y) j p1, .Constant (.str z) k p2] : List Expr).length + ([] : List Keyword).length + (if ([] : List Keyword).isEmpty then 0 else 1) < 30)) = true := by rfl)
    (hline : (apos.endLine == cpos.line) = true := by rfl)
    (hs : starEach [.Constant (.str y) j p1, .Constant (.str z) k p2] X.env = [(false, eval (.Constant (.str y) j p1) X.env), (false, eval (.Constant (.str z) k p2) X.env)] := by rfl) :
    PEt X (.Call (.Attribute o "replace" apos) [.Constant (.str y) j p1, .Constant (.str z) k p2] [] cpos) (tRepl to) := by
  intro pins s σ H Q h0 I h
  refine wpAny_Call_method_late hbase hfew hline rfl (wpAny_mono (wpAny_toks_of (n := 1) h0 (ho pins s σ H _ h0 I h)) (fun v s1 hv => ?_) fun _ _ z => z.2)
  obtain ⟨l1, x, H1, I1, r1, cs, rfl, hl, q1⟩ := hv
  have ty : tyV X.K "str" (.str (SL cs)) H1 := rfl
  obtain ⟨h1, h2⟩ := tyV_is I1 r1 ty
  refine ⟨"str", "str.replace", PySem.F.plainAttrs_str, PySem.F.slot_str_replace, PySem.F.type_str_replace, h1, h2, ?_⟩
  obtain ⟨t, rfl⟩ := r1
  rw [hs]
  refine Calls.callWith_builtin rfl (Calls.evalArgs_plain ?_)
  refine Calls.spliced_cons (Calls.Constant_str (k := j) (pos := p1) ?_)
  refine Calls.spliced_cons (Calls.Constant_str (k := k) (pos := p2) ?_)
  refine Calls.spliced_nil ?_
  have hb : (SL cs).length + ((SL cs).length + 1) * z.length ≤ 16777216 := by
    rw [SL_len]
    have := Nat.mul_le_mul_left (cs.length + 1) hz
    omega
  refine SC.replace (by show s1.toks ≠ 0; omega) (by show s1.toks + 1 ≠ 0; omega) (by show s1.toks ≠ s1.toks + 1; omega) hyz hb fun t' k => ?_
  have hl' : (Txt.replace (SL cs) y z).length ≤ sizeLine := by
    unfold Txt.replace
    split
    · rw [SL_len]; exact Nat.le_trans hl (by decide)
    · exact fits_replaced y hb
  refine ⟨.str (SL (Txt.replace (SL cs) y z).cps.toList), H1, I1.tok _, ⟨t', by rw [← SL_of]⟩, q1 _ ?_⟩
  rw [← SL_len, ← SL_of]
  exact hl'
end
/-! ### a statement that makes a token -/
def PEm (X : Cx) (e : Expr) (t : TE) : Prop :=
  ∀ (pins : List (Addr × Obj)) (s : Shared) (σ : St) (H : Hp) (Q : VK), Inv X pins σ H s → t σ H Q → wpAny (model X.prog X.w) X.A (eval e X.env) (fun v s' => 0 < s'.toks ∧ EP X pins σ Q v s') X.xe s
def PSm (X : Cx) (st : Stmt) (t : TS) : Prop :=
  ∀ (pins : List (Addr × Obj)) (s : Shared) (σ : St) (H : Hp) (D : Ends), Inv X pins σ H s → t D σ H → wpAny (model X.prog X.w) X.A (exec st X.env) (fun f s' => 0 < s'.toks ∧ SP X pins D f s') X.xe s
section
variable {X : Cx} {st : Stmt} {rest : List Stmt} {e a : Expr} {t u : TS} {te ta : TE} {pos cp : Pos}
theorem pem_op {op : Operator} {r : R2} {n : Int} {j : Nat} (ho : OpR X (binaryOp op) r) (ha : PE X a ta) : PEm X (.BinOp a op (.Constant (.int n) j cp) pos) (tOp r ta (tC (.int n))) := by
  intro pins s σ H Q I h
  refine wpAny_BinOp (thn (ha pins s σ H _ I h) fun v s1 ⟨x, H1, I1, r1, q1⟩ => ?_)
  refine wpAny_Constant_int ?_
  have I2 : Inv X pins σ H1 { s1 with toks := s1.toks + 1 } := I1.tok _
  exact wpAny_mono (wpAny_toks_of (n := 1) (by show 1 ≤ s1.toks + 1; omega) (ho pins _ σ H1 x (.int n) v _ _ I2 r1 ⟨_, rfl⟩ q1)) (fun _ _ z => z) fun _ _ z => z.2
theorem psm_set {i : Nat} {x : Str} {pos' : Pos} (hN : X.N.Nodup) (hi : X.N[i]? = some x) (hx : Loc X.env.scope x) (he : PEm X e te) (hs : swapsWith e (some (.Name x pos')) pos.line X.env = pure false := by rfl) (hf : X.fn x = true ∨ X.env.scope.names.lookup x = some .local := by first | exact .inl rfl | exact .inr rfl | assumption) :
    PSm X (.Assign [.Name x pos'] e pos) (tAsg te (gName i)) := by
  intro pins s σ H D I h
  refine wpAny_Assign_Name (thn (he pins s σ H _ I h) fun v s1 ⟨l1, y, H1, I1, r1, q1⟩ => ?_) hs
  exact wpAny_mono (wpAny_toks_of (n := 1) l1 (store_ok (Q := fun _ s2 => SP X pins D .next s2) I1 hN hi hx r1 (fun s2 I2 => ⟨_, H1, I2, q1⟩) hf)) (fun _ _ z => z) fun _ _ z => z.2
theorem pss_consm (h1 : PSm X st t) (h2 : PSst X rest u) : PSs X (st :: rest) (tSeq t u) := by
  intro pins s σ H D I h
  refine wpAny_execs_cons (thn (h1 pins s σ H { D with nx := u D } I h) fun f s1 q => ?_)
  obtain ⟨l1, q⟩ := q
  cases f with
  | next =>
    obtain ⟨σ', H', I', q⟩ := q
    exact h2 pins s1 σ' H' D l1 I' q
  | ret v => exact q
  | brk => exact q
  | cont => exact q
end
/-! ### defs that are called where a token has been made -/
structure FnOkT (P : Program) (w : World) (K : PySem.W.Frag) (mg : Str → Option Value) (base : Heap) (CX : CXT) (k : Nat) (f : Addr) (fd : FuncData) (ps : List Str) (sp : Sp) : Prop where
  len : ∀ vs H Q E, sp vs H Q E → vs.length = ps.length
  run : ∀ (A : Around) (outer : List Env) (s : Shared) (H : Hp) (args : Args) (us : List Value) (vs : List V) (Q : VK) (E : XK), 0 < s.toks → Room k A → Env0 P w K mg base A outer s H → BindsTo s fd args (ps.zip us) → Vals vs us → sp vs H Q E →
    codeAny (model P w) A (.call (.ref f) args) (CR CX outer P w H s Q E) s
theorem fn_ofT {CX : CXT} {P : Program} {w : World} {K : PySem.W.Frag} {mg : Str → Option Value} {base : Heap} {k : Nat} {f : Addr} {name qual : Str} {params : Arguments} {body : List Stmt} {scope : Scope} {dV kV doc pm cdv ct oc : Value} {an od : Option Addr}
    {osl : Array (Option Value)} {N ps : List Str} {sp : Sp} (lk : K.lookup f = some ⟨oc, od, .func (PySem.W.fnOf name qual params body scope dV kV doc pm an cdv ct), osl⟩) (hcd : PySem.W.codeIn K cdv qual = true) (S : FnScope N ps scope)
    (len : ∀ vs H Q E, sp vs H Q E → vs.length = ps.length)
    (hbody : ∀ (A : Around) (outer : List Env) (s : Shared) (H : Hp) (vs : List V) (Q : VK) (E : XK), Room k (A.deeper (envOfC qual scope s.heap.objs.size f cdv)) → sp vs H Q E →
      ∃ t, PSst (cxOf CX P w K mg base N qual scope f cdv A outer s H E) body t ∧ t { nx := fun _ H' => Q .non H', rt := Q } (start N vs) H) :
    FnOkT P w K mg base CX (k + 1) f (PySem.W.fnOf name qual params body scope dV kV doc pm an cdv ct) ps sp := by
  refine ⟨len, fun A outer s H args us vs Q E h0 hr e0 hb r hsp => ?_⟩
  have hl := len _ _ _ _ hsp
  have KX : K.In s.heap := e0.mod.kin.keeps fun b o e => (e0.bs b o e).1
  have lim : s.heap.NoLimit := e0.mod.nolimit.keeps fun b o e => (e0.bs b o e).1
  have hkind : ∀ y ∈ ps.zip us, scope.names.lookup y.1 = some .local ∨ (scope.names.lookup y.1 = some .cell ∧ ((cellsFrom (s.heap.objs.size + 1) scope.names []).lookup y.1).isSome = true) := fun ⟨n, v⟩ hy => by
    rcases S.par n (List.of_mem_zip hy).1 with q | q
    · exact .inl q
    · exact .inr ⟨q, PySem.W.cellsFrom_some _ _ _ (.inl q)⟩
  refine codeAny_call_function hr.depth (KX _ _ lk) rfl S.co S.gen rfl (PySem.W.codeRec_of KX hcd) (hb _ _ _ _ ?_)
  refine wpAny_with_toks (n := 1) h0 (wpAny_newFunctionEnv_cells S.kind hkind fun env he s1 x l1 => ?_)
  subst he
  refine ⟨lim.keeps x.toInCall.keep, codeAny_func ?_⟩
  obtain ⟨t, ht, hq⟩ := hbody A outer s H vs Q E (hr.deeper _) hsp
  have I : Inv (cxOf CX P w K mg base N qual scope f cdv A outer s H E) [] (start N vs) H s1 := inv_start S hr.hd e0 hl r x
  refine wpAny_mono (ht [] s1 (start N vs) H _ l1 I hq) (fun fl s' hs => ?_) fun e s' hs => hs
  have fin : ∀ {σ' : St} {H' : Hp} {v : V} {u : Value}, Inv (cxOf CX P w K mg base N qual scope f cdv A outer s H E) [] σ' H' s' → RelV v u → Q v H' → CE outer P w H s Q u s' :=
    fun {σ' H' v u} J rv q => ⟨v, H', J.os, J.bare, J.base, J.hok, rv, q⟩
  cases fl with
  | ret u =>
    obtain ⟨v, σ', H', J, rv, q⟩ := hs
    exact fin J rv q
  | next =>
    obtain ⟨σ', H', J, q⟩ := hs
    exact fin (v := V.non) (u := Value.none) J rfl q
  | brk =>
    obtain ⟨_, _, _, q⟩ := hs
    exact False.elim q
  | cont =>
    obtain ⟨_, _, _, q⟩ := hs
    exact False.elim q
section
variable {P : Program} {w : World} {K : PySem.W.Frag} {mg : Str → Option Value} {base : Heap} {x qual : Str} {st : Stmt} {f : Addr} {fd : FuncData} {N ps : List Str} {k : Nat} {sp : Sp}
theorem Fun.okXT (F : Fun K x qual st f fd) (S : FnScope N ps (defScope st)) (len : ∀ vs H Q E, sp vs H Q E → vs.length = ps.length)
    (hbody : ∀ (cdv : Value) (A : Around) (outer : List Env) (s : Shared) (H : Hp) (vs : List V) (Q : VK) (E : XK), LvR (cxOf (CXE P w) P w K mg base N qual (defScope st) f cdv A outer s H E) (fun _ => E) → Room k (A.deeper (envOfC qual (defScope st) s.heap.objs.size f cdv)) → sp vs H Q E →
      ∃ t, PSst (cxOf (CXE P w) P w K mg base N qual (defScope st) f cdv A outer s H E) (defBody st) t ∧ t { nx := fun _ H' => Q .non H', rt := Q } (start N vs) H) : FnOkT P w K mg base (CXE P w) (k + 1) f fd ps sp := by
  obtain ⟨oc, od, kV, doc, pm, an, cdv, ct, osl, rfl, lk, hcd⟩ := F.ex
  exact fn_ofT lk hcd S len fun A outer s H vs Q E hr hsp => hbody cdv A outer s H vs Q E lv_def hr hsp
theorem FunD.okXT (F : FunD K x qual st f fd) (S : FnScope N ps (defScope st)) (len : ∀ vs H Q E, sp vs H Q E → vs.length = ps.length)
    (hbody : ∀ (cdv : Value) (A : Around) (outer : List Env) (s : Shared) (H : Hp) (vs : List V) (Q : VK) (E : XK), LvR (cxOf (CXE P w) P w K mg base N qual (defScope st) f cdv A outer s H E) (fun _ => E) → Room k (A.deeper (envOfC qual (defScope st) s.heap.objs.size f cdv)) → sp vs H Q E →
      ∃ t, PSst (cxOf (CXE P w) P w K mg base N qual (defScope st) f cdv A outer s H E) (defBody st) t ∧ t { nx := fun _ H' => Q .non H', rt := Q } (start N vs) H) : FnOkT P w K mg base (CXE P w) (k + 1) f fd ps sp := by
  obtain ⟨dV, oc, od, kV, doc, pm, an, cdv, ct, osl, rfl, lk, hcd⟩ := F.ex
  exact fn_ofT lk hcd S len fun A outer s H vs Q E hr hsp => hbody cdv A outer s H vs Q E lv_def hr hsp
end
section
variable {X : Cx} {Ek : St → XK} {k : Nat} {f : Addr} {fd : FuncData} {ps ks : List Str} {sp : Sp} {x : Str} {p pos : Pos} {e : Expr} {es : List Expr} {kws : List Keyword} {t tk : TA} {g : List Value → List Value → List Value} {gV : List V → List V → List V} {dvs : List V} {ds : List Value}
theorem run_fnXT {pins : List (Addr × Obj)} {σ : St} {H : Hp} {s : Shared} {Q : VK} {us : List Value} {vs : List V} (L : Lv X Ek) (F : FnOkT X.prog X.w X.K X.mg X.base (CXE X.prog X.w) k f fd ps sp) (hr : Room k X.A) (hb : Binds X.K fd ps ds) (hd : Vals dvs ds) (h0 : 0 < s.toks)
    (I : Inv X pins σ H s) (r : Vals vs us) (h : sp (vs ++ dvs) H Q (Ek σ)) : wpAny (model X.prog X.w) X.A (call (.ref f) us) (EP X pins σ Q) X.xe s := by
  have r2 : Vals (vs ++ dvs) (us ++ ds) := r.append hd
  have hl : (us ++ ds).length = ps.length := by rw [← r2.length]; exact F.len _ _ _ _ h
  refine wpAny_call (codeAny_mono (F.run X.A X.stack s H ⟨us, []⟩ (us ++ ds) (vs ++ dvs) Q (Ek σ) h0 hr I.env0 (hb s us I.kIn hl) r2 h) fun r s' hq => ?_)
  cases r with
  | error e =>
    obtain ⟨ea, cls, H', rfl, fl, q⟩ := hq
    exact L.call pins σ ea cls H H' s s' I fl q
  | ok fl =>
    cases fl with
    | ret u => exact I.after hq
    | next => exact False.elim hq
    | brk => exact False.elim hq
    | cont => exact False.elim hq
theorem pet_callX (L : Lv X Ek) (F : FnOkT X.prog X.w X.K X.mg X.base (CXE X.prog X.w) k f fd ps sp) (hr : Room k X.A) (hg : Gl X x) (hm : X.mg x = some (.ref f)) (hk : PySem.W.keepIn X.K (.ref f) = true) (hb : Binds X.K fd ps ds) (hd : Vals dvs ds)
    (ha : PAt X (e :: es) t) (hdb : (x == ("__debug__" : Str)) = false := by decide) (he : starEach (e :: es) X.env = (false, eval e X.env) :: starEach es X.env := by rfl) (hpl : (backTo pos (starEach es X.env)).any (·.1) = false := by rfl) :
    PEt X (.Call (.Name x p) (e :: es) [] pos) (tCallX sp dvs Ek t) := by
  intro pins s σ H Q h0 I h
  refine wpAny_Call_Name_kw (ld_glob I hg hm ?_ hdb)
  refine PySem.W.callWith_K (h₀ := X.base) I.ok.mod.kin hk (thnT h0 (ha pos pins s σ H _ h0 I h) fun us s1 l1 ⟨vs, H1, I1, r, q⟩ => ⟨I1.kIn, ?_⟩) he hpl
  exact run_fnXT L F hr hb hd l1 I1 r q
end
section
variable {X : Cx} {body suite : List Stmt} {b₀ : Stmt} {n xn : Str} {i : Nat} {C : Addr} {tb : (St → XK) → TS} {ts : TS} {np hpos pos : Pos}
/-- try, its body where a token has been made -/
theorem pst_try (W : X.Own) (hb : ∀ (Ek : St → XK) (pn : List (Addr × Obj)) (xe : Value → Shared → Prop), Lv (X.other pn xe) Ek → PSst (X.other pn xe) body (tb Ek)) (hs : ∀ ea, PSs (X.suite ea) (b₀ :: suite) ts)
    (hg : Gl X xn) (hm : X.mg xn = some (.ref C)) (hN : X.N.Nodup) (hi : X.N[i]? = some n) (hk : X.env.scope.names.lookup n = some .local) (hd : (xn == ("__debug__" : Str)) = false := by decide) :
    PSt X (.Try body [.ExceptHandler (some (.Name xn np)) (some n) (b₀ :: suite) hpos] [] [] pos) (sTry X.K C i tb ts) := by
  intro pins s σ H D h0 I h
  refine wpAny_Try_except ?_
  refine wpAny_mono (hb _ (X.pn ++ pins) _ ?L [] s σ H D h0 (I.other _) h) (fun f s1 hf => ?_) (fun e s1 hx => hx)
  case L =>
    refine ⟨fun pins' σ' ea cls H1 H2 s1 s2 J F q => ?_⟩
    have J0 : Inv X pins σ' H1 s1 := J.unother
    obtain ⟨B, a0, fl, hok, kp, th⟩ := F.ex
    obtain ⟨q1, q2⟩ := q
    obtain ⟨hh, g2, d2, t2, os2⟩ := s2
    have eo : os2 = s1.os := F.os
    subst eo
    have fl1 : Heap.FlyingW B X.stack ea cls a0 hh := fl
    have fl2 := fl1
    rw [W.stk] at fl2
    refine wpAny_looks_onW (by rw [I.ok.frames, W.stk]) W.fr fl2 fun h4 held up4 => ?_
    refine wpAny_landsW held fun h5 fl5 up5 => ?_
    have u5 := F.un.flown fl1.2.2.1 (up4.trans up5) fl5.1 kp th
    obtain ⟨hn, J5, _⟩ := J0.landed (g' := g2) (d' := d2) (t' := t2) W u5 (by rw [W.stk]; exact fl5) hok th F.bare
    refine wpAny_handleBy_cons (codeAny_handlers_test ?_) (by intro q; cases q)
    refine ld_glob (X := X.suite ea) (J5.suite ea) hg hm ?_ hd
    have LT : PySem.W.Looks (model X.prog X.w) h5 (typeOf (.ref ea)) cls := by
      obtain ⟨ob, e1, e2⟩ := fl5.there
      exact e2 ▸ (PySem.W.Looks.ld e1).andThen .now
    refine PySem.W.Looks.here (s := { s1 with heap := h5, gens := g2, drawn := d2, toks := t2 }) (PySem.W.exm_one J5.kIn LT q1) ?_
    show codeAny _ _ _ _ _
    refine codeAny_handlers_suite_as ?_
    refine lands_againW fl5 fun h6 fl6 up6 => ?_
    have u6 := F.un.flown fl1.2.2.1 ((up4.trans up5).trans up6) fl6.1 kp th
    obtain ⟨_, _, J6⟩ := J0.landed (g' := g2) (d' := d2) (t' := t2) W u6 (by rw [W.stk]; exact fl6) hok th F.bare
    refine store_ok (X := X.suite ea) (v := .ref ea) (J6.suite ea) hN hi (Or.inl hk) rfl (fun s7 J7 => ?_) (Or.inr hk)
    refine wpAny_mono (hs ea pins s7 _ _ _ J7 (q2 ea hn)) (fun f s8 hf => ?_) (fun _ _ z => z.elim)
    cases f with
    | next =>
      obtain ⟨σ8, H8, J8, q8⟩ := hf
      exact (J8.unsuite J5.ok).unbind hN hi hk fun s9 J9 => ⟨_, _, J9, q8⟩
    | brk =>
      obtain ⟨σ8, H8, J8, q8⟩ := hf
      exact (J8.unsuite J5.ok).unbind hN hi hk fun s9 J9 => ⟨_, _, J9, q8⟩
    | cont =>
      obtain ⟨σ8, H8, J8, q8⟩ := hf
      exact (J8.unsuite J5.ok).unbind hN hi hk fun s9 J9 => ⟨_, _, J9, q8⟩
    | ret u =>
      obtain ⟨v, σ8, H8, J8, r8, q8⟩ := hf
      exact (J8.unsuite J5.ok).unbind hN hi hk fun s9 J9 => ⟨v, _, _, J9, r8, q8⟩
  cases f with
  | next =>
    obtain ⟨σ8, H8, J8, q8⟩ := hf
    exact wpAny_execs_nil ⟨σ8, H8, J8.unother, q8⟩
  | brk =>
    obtain ⟨σ8, H8, J8, q8⟩ := hf
    exact ⟨σ8, H8, J8.unother, q8⟩
  | cont =>
    obtain ⟨σ8, H8, J8, q8⟩ := hf
    exact ⟨σ8, H8, J8.unother, q8⟩
  | ret u =>
    obtain ⟨v, σ8, H8, J8, r8, q8⟩ := hf
    exact ⟨v, σ8, H8, J8.unother, r8, q8⟩
end
end L2
namespace L2
open PySem PySem.Spec PyProof.Rows
theorem starts_SL (cs : List Nat) (c : Nat) : Txt.startswith (SL cs) (SL [c]) = decide (cs.head? = some c) := by
  unfold Txt.startswith Builtin.Str.subAt
  rw [SL_len, SL_len]
  cases cs with
  | nil => rfl
  | cons a r =>
    have e : (SL (a :: r)).cps.extract 0 (0 + [c].length) = #[a] := by
      show (a :: r).toArray.extract 0 1 = #[a]
      simp
    rw [e]
    have l : decide (0 + [c].length ≤ (a :: r).length) = true := decide_eq_true (by simp)
    rw [l, Bool.true_and]
    show (#[a] == #[c]) = decide ((a :: r).head? = some c)
    rw [List.head?_cons, Bool.eq_iff_iff, beq_iff_eq, decide_eq_true_eq]
    constructor
    · intro h
      have := congrArg Array.toList h
      simpa using this
    · intro h
      rw [Option.some.inj h]
section
variable {X : Cx}
theorem mt_startswith : MtR X "str.startswith" (fun x vs H Q => ∃ cs c, x = .str (SL cs) ∧ vs = [.str (SL [c])] ∧ Q (.bl (decide (cs.head? = some c))) H) := by
  intro pins s σ H x vs v us Q I rx rv h
  obtain ⟨cs, c, rfl, rfl, q⟩ := h
  obtain ⟨t, rfl⟩ := rx
  obtain ⟨u, rfl, t', rfl⟩ := vals1 rv
  refine SC.startswith ?_
  rw [starts_SL]
  exact ⟨.bl _, H, I, rfl, q⟩
theorem cat_fold : ∀ (n : Nat) (a : Array Nat) (cs : List Nat), ((List.replicate n cs.toArray).foldl (· ++ ·) a).toList = a.toList ++ (List.replicate n cs).flatten
  | 0, a, cs => by simp
  | n + 1, a, cs => by
    rw [List.replicate_succ, List.foldl_cons, cat_fold n, List.replicate_succ, List.flatten_cons]
    simp
theorem mul_SL (cs : List Nat) {k : Nat} : Txt.mul (SL cs) (k : Int) = SL (List.replicate k cs).flatten := by
  unfold Txt.mul
  by_cases h1 : (k : Int) < 1
  · obtain rfl : k = 0 := by omega
    rw [if_pos h1]
    rfl
  rw [if_neg h1]
  by_cases h2 : ((k : Int) == 1 || (SL cs).length == 0) = true
  · rw [if_pos h2]
    rcases Bool.or_eq_true _ _ ▸ h2 with z | z
    · have : k = 1 := by have := eq_of_beq z; omega
      subst this
      simp
    · have z' : cs.length = 0 := by rw [SL_len] at z; exact eq_of_beq z
      have : cs = [] := List.length_eq_zero_iff.mp z'
      subst this
      congr 1
      simp
  · rw [if_neg h2]
    refine (SL_of _).trans (congrArg SL ?_)
    have := cat_fold k #[] cs
    rw [show (#[] : Array Nat).toList = [] from rfl, List.nil_append] at this
    exact this
theorem op_mul_s : OpR X (binaryOp .Mult) (fun x y H Q => ∃ cs k, x = .str (SL cs) ∧ y = .int ((k : Nat) : Int) ∧ cs.length ≤ 1000 ∧ k ≤ 1000 ∧ Q (.str (SL (List.replicate k cs).flatten)) H) := by
  intro pins s σ H x y v u Q I rx ry h
  obtain ⟨cs, k, rfl, rfl, h1, h2, q⟩ := h
  obtain ⟨t, rfl⟩ := rx
  obtain ⟨t', rfl⟩ := ry
  have hm : cs.length * k ≤ 1000 * 1000 := Nat.mul_le_mul h1 h2
  refine SB.mul ⟨?_, fun a b => ?_, fun a b => ?_⟩ fun t' k' => ?_
  · rw [Bool.or_eq_false_iff]
    constructor <;> refine decide_eq_false ?_ <;> omega
  · rw [SL_len]
    have : 0 < k := by omega
    have e : ((2 : Int) ^ 63 - 1) / k ≥ 1000 := by
      refine Int.le_ediv_of_mul_le (by omega) ?_
      omega
    omega
  · rw [SL_len, Int.toNat_natCast]
    unfold Builtin.Str.tooLong
    refine decide_eq_false ?_
    rw [sizeLine_eq]
    omega
  · rw [mul_SL]
    exact ⟨.str _, H, I.tok _, ⟨_, rfl⟩, q⟩
end
end L2

/-! ## amounts with places, as texts -/
namespace L2
open PySem PySem.NumText
/-- the figures, padded with noughts ahead, are those ahead of the point and those behind it -/
theorem zf_split : ∀ (p m : Nat), zf (dg m) (p + 1) = dg (m / 10 ^ p) ++ fig p (m : Int)
  | 0, m => by
    rw [Nat.pow_zero, Nat.div_one]
    unfold zf
    have := dg_pos m
    rw [show 0 + 1 - (dg m).length = 0 by omega]
    show dg m = dg m ++ []
    rw [List.append_nil]
  | p + 1, m => by
    rw [fig_snoc]
    have e : ((m : Int) / 10) = ((m / 10 : Nat) : Int) := by omega
    have e2 : ((m : Int) % 10).toNat = m % 10 := by omega
    have e3 : m / 10 ^ (p + 1) = m / 10 / 10 ^ p := by rw [Nat.pow_succ, Nat.mul_comm, Nat.div_div_eq_div_mul]
    rw [e, e2, e3, ← List.append_assoc, ← zf_split p (m / 10)]
    by_cases c : m < 10
    · rw [dg_lt c, show m / 10 = 0 by omega, show m % 10 = m by omega, dg_lt (show 0 < 10 by decide)]
      unfold zf
      rw [List.length_singleton, List.length_singleton, Nat.add_sub_cancel, Nat.add_sub_cancel, List.replicate_succ']
    · rw [dg_ge (n := m) (by omega)]
      unfold zf
      rw [List.length_append, List.length_singleton, ← List.append_assoc]
      congr 3
      omega
/-- the text of the amount n with p places -/
def atxt (n : Int) (p : Nat) : List Nat :=
  (if n < 0 then [45] else []) ++ (dg (n.natAbs / 10 ^ p) ++ (if p = 0 then [] else 46 :: fig p (n.natAbs : Int)))
/-- how many figures it has -/
def acnt (n : Int) (p : Nat) : Nat := (dg (n.natAbs / 10 ^ p)).length + p
theorem dg_len : ∀ (k n : Nat), 0 < k → n < 10 ^ k → (dg n).length ≤ k
  | 0, _, h, _ => absurd h (by decide)
  | k + 1, n, _, h => by
    by_cases c : n < 10
    · rw [dg_lt c, List.length_singleton]; omega
    · rw [dg_ge (by omega), List.length_append, List.length_singleton]
      have k0 : 0 < k := by
        rcases k with _ | k
        · simp at h; omega
        · omega
      have := dg_len k (n / 10) k0 (by rw [Nat.pow_succ] at h; omega)
      omega
theorem strike_digits {cs : List Nat} (h : AllDigits cs) (c : Nat) (hc : c < 48) : cs.filter (· != c) = cs := by
  rw [List.filter_eq_self]
  intro a ha
  have := h a ha
  simp
  omega
theorem atxt_strike (n : Int) (p : Nat) : ((atxt n p).filter (· != 45)).filter (· != 46) = zf (dg n.natAbs) (p + 1) := by
  rw [zf_split]
  have d1 := dg_digits (n.natAbs / 10 ^ p)
  have d2 := fig_digits p (n.natAbs : Int)
  unfold atxt
  rw [List.filter_append, List.filter_append, List.filter_append, List.filter_append]
  rw [strike_digits d1 45 (by decide), strike_digits d1 46 (by decide)]
  have e1 : (List.filter (· != 46) (List.filter (· != 45) (if n < 0 then [45] else []))) = [] := by split <;> rfl
  rw [e1, List.nil_append]
  congr 1
  by_cases z : p = 0
  · subst z
    rfl
  · rw [if_neg z, List.filter_cons, if_pos (by decide), List.filter_cons, if_neg (by decide), strike_digits d2 45 (by decide), strike_digits d2 46 (by decide)]
theorem atxt_head (n : Int) (p : Nat) : (atxt n p).head? = some 45 ↔ n < 0 := by
  unfold atxt
  by_cases h : n < 0
  · rw [if_pos h]
    simp [h]
  · rw [if_neg h, List.nil_append]
    have d1 := dg_digits (n.natAbs / 10 ^ p)
    cases e : dg (n.natAbs / 10 ^ p) with
    | nil => have := dg_pos (n.natAbs / 10 ^ p); rw [e] at this; cases this
    | cons c r =>
      rw [e] at d1
      have := d1 c List.mem_cons_self
      simp only [List.cons_append, List.head?_cons, Option.some.injEq]
      constructor
      · intro z; omega
      · intro z; exact absurd z h
theorem dg_val (n : Nat) : digitsVal (dg n) = n := by
  induction n using Nat.strongRecOn with
  | _ n ih =>
    by_cases h : n < 10
    · rw [dg_lt h]
      have := digitsVal_snoc [] (48 + n)
      simp at this
      rw [this]
      simp [digitsVal]
    · rw [dg_ge (by omega), digitsVal_snoc, ih (n / 10) (by omega)]
      omega
theorem zf_val (m : Nat) : ∀ k, digitsVal (zf (dg m) (k + 1)) = m := by
  intro k
  induction k generalizing m with
  | zero => rw [zf_split, Nat.pow_zero, Nat.div_one]; show digitsVal (dg m ++ []) = m; rw [List.append_nil, dg_val]
  | succ k ih =>
    rw [zf_split, fig_snoc]
    have e : ((m : Int) / 10) = ((m / 10 : Nat) : Int) := by omega
    have e2 : ((m : Int) % 10).toNat = m % 10 := by omega
    have e3 : m / 10 ^ (k + 1) = m / 10 / 10 ^ k := by rw [Nat.pow_succ, Nat.mul_comm, Nat.div_div_eq_div_mul]
    rw [e, e2, e3, ← List.append_assoc, ← zf_split k (m / 10), digitsVal_snoc, ih (m / 10)]
    omega
theorem zf_digits (m k : Nat) : AllDigits (zf (dg m) (k + 1)) := by
  rw [zf_split]
  intro c hc
  rcases List.mem_append.mp hc with h | h
  · exact dg_digits _ c h
  · exact fig_digits _ _ c h
theorem zf_len (m k : Nat) : (zf (dg m) (k + 1)).length = (dg (m / 10 ^ k)).length + k := by
  rw [zf_split, List.length_append, fig_len]
/-- a text that is written as an amount with p places, of at most sixty figures -/
def Written (cs : List Nat) (p : Nat) (n : Int) : Prop := cs = atxt n p ∧ acnt n p ≤ 60
theorem atxt_inj {n n' : Int} {p : Nat} (h : atxt n p = atxt n' p) : n = n' := by
  have h1 := congrArg (fun cs => digitsVal ((cs.filter (· != 45)).filter (· != 46))) h
  simp only [atxt_strike, zf_val] at h1
  have h2 := atxt_head n p
  have h3 := atxt_head n' p
  rw [h, h3] at h2
  omega
theorem acnt_le {n : Int} {p : Nat} (hn : n.natAbs < 10 ^ 60) (hp : p ≤ 6) : acnt n p ≤ 60 := by
  unfold acnt
  have h : n.natAbs / 10 ^ p < 10 ^ (60 - p) := by
    refine Nat.div_lt_of_lt_mul ?_
    rw [← Nat.pow_add, show p + (60 - p) = 60 by omega]
    exact hn
  have := dg_len (60 - p) _ (by omega) h
  omega
theorem atxt_len (n : Int) (p : Nat) : (atxt n p).length ≤ acnt n p + 2 := by
  unfold atxt acnt
  rw [List.length_append, List.length_append]
  have e1 : (if n < 0 then [45] else ([] : List Nat)).length ≤ 1 := by split <;> simp
  have e2 : (if p = 0 then [] else 46 :: fig p (n.natAbs : Int)).length ≤ p + 1 := by
    split
    · simp
    · rw [List.length_cons, fig_len]
      exact Nat.le_refl _
  omega
theorem cutC_take (cs : List Nat) {k : Int} (h0 : 0 ≤ k) (h1 : k ≤ cs.length) : cutC cs none (some k) = cs.take k.toNat := by
  obtain ⟨j, rfl⟩ := Int.eq_ofNat_of_zero_le h0
  unfold cutC
  rw [HT.sIx_none, HT.sIx_nat, Int.toNat_natCast, List.drop_zero, Nat.sub_zero, Nat.min_eq_left (by omega)]
theorem cutC_drop (cs : List Nat) {k : Int} (h0 : 0 ≤ k) (h1 : k ≤ cs.length) : cutC cs (some k) none = cs.drop k.toNat := by
  obtain ⟨j, rfl⟩ := Int.eq_ofNat_of_zero_le h0
  unfold cutC
  rw [HT.sIx_none, HT.sIx_nat, Int.toNat_natCast, Nat.min_eq_left (by omega), List.take_of_length_le (by rw [List.length_drop]; omega)]
theorem Written.one {cs : List Nat} {p : Nat} {n n' : Int} (h : Written cs p n) (g : Written cs p n') : n = n' := atxt_inj (h.1.symm.trans g.1)
theorem written {n : Int} {p : Nat} (hn : n.natAbs < 10 ^ 60) (hp : p ≤ 6) : Written (atxt n p) p n := ⟨rfl, acnt_le hn hp⟩
theorem atxt_small {n : Int} {p : Nat} (hn : n.natAbs < 10 ^ 60) (hp : p ≤ 6) : (atxt n p).length ≤ 62 := by
  have := atxt_len n p
  have := acnt_le hn hp
  omega
theorem log2_60 {i : Int} (h : i.natAbs < 10 ^ 60) : i.natAbs.log2 < 1920 := log2_ok (Nat.lt_trans h (by decide))
theorem rev_ind {P : List Nat → Prop} (h0 : P []) (h1 : ∀ r c, P r → P (r ++ [c])) (cs : List Nat) : P cs := by
  have : ∀ n (cs : List Nat), cs.length = n → P cs := by
    intro n
    induction n with
    | zero =>
      intro cs e
      rw [List.length_eq_zero_iff.mp e]
      exact h0
    | succ n ih =>
      intro cs e
      have ne : cs ≠ [] := fun z => by rw [z] at e; cases e
      rw [← List.dropLast_concat_getLast ne]
      exact h1 _ _ (ih _ (by rw [List.length_dropLast, e]; rfl))
  exact this _ cs rfl
theorem digits_app {a b : List Nat} : AllDigits (a ++ b) ↔ AllDigits a ∧ AllDigits b :=
  ⟨fun h => ⟨fun c hc => h c (List.mem_append_left _ hc), fun c hc => h c (List.mem_append_right _ hc)⟩, fun h c hc => (List.mem_append.mp hc).elim (h.1 c) (h.2 c)⟩
theorem dv_div (A B : List Nat) (hB : AllDigits B) : digitsVal (A ++ B) / 10 ^ B.length = digitsVal A := by
  revert hB
  refine rev_ind (P := fun B => AllDigits B → digitsVal (A ++ B) / 10 ^ B.length = digitsVal A) (fun _ => ?_) (fun r c ih hB => ?_) B
  · rw [List.append_nil, List.length_nil, Nat.pow_zero, Nat.div_one]
  · obtain ⟨h1, h2⟩ := digits_app.mp hB
    have hc := h2 c List.mem_cons_self
    rw [← List.append_assoc, digitsVal_snoc, List.length_append, List.length_singleton, Nat.pow_succ, Nat.mul_comm (10 ^ r.length), ← Nat.div_div_eq_div_mul]
    rw [show (digitsVal (A ++ r) * 10 + (c - 48)) / 10 = digitsVal (A ++ r) by omega]
    exact ih h1
theorem fig_of (A B : List Nat) (hB : AllDigits B) : fig B.length (digitsVal (A ++ B) : Int) = B := by
  revert hB
  refine rev_ind (P := fun B => AllDigits B → fig B.length (digitsVal (A ++ B) : Int) = B) (fun _ => rfl) (fun r c ih hB => ?_) B
  obtain ⟨h1, h2⟩ := digits_app.mp hB
  have hc := h2 c List.mem_cons_self
  rw [List.length_append, List.length_singleton, fig_snoc, ← List.append_assoc, digitsVal_snoc]
  rw [show (((digitsVal (A ++ r) * 10 + (c - 48) : Nat) : Int) / 10) = ((digitsVal (A ++ r) : Nat) : Int) by omega, ih h1]
  rw [show 48 + (((digitsVal (A ++ r) * 10 + (c - 48) : Nat) : Int) % 10).toNat = c by omega]
theorem dg_of1 (A : List Nat) : AllDigits A → (∃ c r, A = c :: r ∧ c ≠ 48) → dg (digitsVal A) = A ∧ 0 < digitsVal A := by
  refine rev_ind (P := fun A => AllDigits A → (∃ c r, A = c :: r ∧ c ≠ 48) → dg (digitsVal A) = A ∧ 0 < digitsVal A) (fun _ h => ?_) (fun r c ih hB h => ?_) A
  · obtain ⟨_, _, e, _⟩ := h
    cases e
  · obtain ⟨h1, h2⟩ := digits_app.mp hB
    have hc := h2 c List.mem_cons_self
    rw [digitsVal_snoc]
    cases r with
    | nil =>
      obtain ⟨c', r', e, ne⟩ := h
      cases e
      show dg (0 * 10 + (c - 48)) = [c] ∧ 0 < 0 * 10 + (c - 48)
      refine ⟨?_, by omega⟩
      rw [dg_lt (by omega)]
      congr 1
      omega
    | cons x t =>
      obtain ⟨c', r', e, ne⟩ := h
      rw [List.cons_append] at e
      obtain ⟨rfl, _⟩ := List.cons.inj e
      obtain ⟨i1, i2⟩ := ih h1 ⟨_, _, rfl, ne⟩
      refine ⟨?_, by omega⟩
      rw [dg_ge (by omega), show (digitsVal (x :: t) * 10 + (c - 48)) / 10 = digitsVal (x :: t) by omega, i1, show 48 + (digitsVal (x :: t) * 10 + (c - 48)) % 10 = c by omega]
theorem dg_of {A : List Nat} (h : AllDigits A) (ne : A ≠ []) (h0 : A.head? = some 48 → A.length ≤ 1) : dg (digitsVal A) = A := by
  cases A with
  | nil => exact absurd rfl ne
  | cons c r =>
    by_cases e : c = 48
    · subst e
      have := h0 rfl
      rw [List.length_cons] at this
      obtain rfl : r = [] := List.length_eq_zero_iff.mp (by omega)
      exact dg_lt (show 0 < 10 by decide)
    · exact (dg_of1 _ h ⟨c, r, rfl, e⟩).1
theorem dg_nohead (n : Nat) : (dg n).head? = some 48 → (dg n).length ≤ 1 := by
  induction n using Nat.strongRecOn with
  | _ n ih =>
    by_cases h : n < 10
    · intro _
      rw [dg_lt h]
      exact Nat.le_refl _
    · have p := dg_pos (n / 10)
      intro e
      rw [dg_ge (by omega)] at e
      have e' : (dg (n / 10)).head? = some 48 := by
        cases q : dg (n / 10) with
        | nil => rw [q] at p; cases p
        | cons c r => rw [q] at e; exact e
      have hl := ih (n / 10) (by omega) e'
      exfalso
      have v := dg_val (n / 10)
      cases q : dg (n / 10) with
      | nil => rw [q] at p; cases p
      | cons c r =>
        rw [q] at e' hl v
        rw [List.length_cons] at hl
        obtain rfl : r = [] := List.length_eq_zero_iff.mp (by omega)
        have : c = 48 := Option.some.inj e'
        subst this
        have v' : digitsVal [48] = 0 := rfl
        omega
/-- how a text behind its sign is read: the point's place, the number, how many figures -/
def Sh (r : List Nat) (pt : Option Nat) (num fg : Nat) : Prop :=
  match pt with
  | none => AllDigits r ∧ num = digitsVal r ∧ fg = r.length
  | some a => ∃ A B, r = A ++ 46 :: B ∧ A.length = a ∧ AllDigits A ∧ AllDigits B ∧ num = digitsVal (A ++ B) ∧ fg = A.length + B.length
theorem Sh.nil : Sh [] none 0 0 := ⟨(fun c h => nomatch h), rfl, rfl⟩
theorem Sh.fig {r : List Nat} {pt : Option Nat} {num fg c : Nat} (h : Sh r pt num fg) (h1 : 48 ≤ c) (h2 : c ≤ 57) : Sh (r ++ [c]) pt (num * 10 + (c - 48)) (fg + 1) := by
  have d : AllDigits [c] := fun x hx => by rw [List.mem_singleton.mp hx]; exact ⟨h1, h2⟩
  cases pt with
  | none =>
    obtain ⟨a, b, e⟩ := h
    exact ⟨digits_app.mpr ⟨a, d⟩, by rw [digitsVal_snoc, b], by rw [List.length_append, e]; rfl⟩
  | some k =>
    obtain ⟨A, B, rfl, hl, hA, hB, rfl, rfl⟩ := h
    exact ⟨A, B ++ [c], by simp, hl, hA, digits_app.mpr ⟨hB, d⟩, by rw [← List.append_assoc, digitsVal_snoc], by rw [List.length_append]; rfl⟩
theorem Sh.pnt {r : List Nat} {num fg : Nat} (h : Sh r none num fg) : Sh (r ++ [46]) (some r.length) num fg := by
  obtain ⟨a, b, e⟩ := h
  exact ⟨r, [], rfl, rfl, a, (fun c h => nomatch h), by rw [List.append_nil]; exact b, e⟩
/-- a text behind its sign -/
def abody (n : Int) (p : Nat) : List Nat := dg (n.natAbs / 10 ^ p) ++ (if p = 0 then [] else 46 :: fig p (n.natAbs : Int))
theorem atxt_body (n : Int) (p : Nat) : atxt n p = (if n < 0 then [45] else []) ++ abody n p := rfl
theorem body_bad : ∀ {A B r s : List Nat} {c : Nat}, AllDigits A → AllDigits B → A ++ 46 :: B = r ++ c :: s → (48 ≤ c ∧ c ≤ 57) ∨ (c = 46 ∧ AllDigits r)
  | [], B, [], s, c, _, _, e => .inr ⟨(List.cons.inj e).1.symm, fun c h => by cases h⟩
  | [], B, x :: r, s, c, _, hB, e => .inl (hB c (by
      have := (List.cons.inj e).2
      rw [this]
      exact List.mem_append_right _ List.mem_cons_self))
  | a :: A, B, [], s, c, hA, _, e => .inl ((List.cons.inj e).1 ▸ hA a List.mem_cons_self)
  | a :: A, B, x :: r, s, c, hA, hB, e => by
    obtain ⟨rfl, e2⟩ := List.cons.inj (show a :: (A ++ 46 :: B) = x :: (r ++ c :: s) from e)
    rcases body_bad (fun c h => hA c (List.mem_cons_of_mem _ h)) hB e2 with h | ⟨h, g⟩
    · exact .inl h
    · exact .inr ⟨h, fun c hc => by
        rcases List.mem_cons.mp hc with rfl | hc
        · exact hA _ List.mem_cons_self
        · exact g c hc⟩
theorem abody_bad {n : Int} {p : Nat} {r s : List Nat} {c : Nat} (e : abody n p = r ++ c :: s) : (48 ≤ c ∧ c ≤ 57) ∨ (c = 46 ∧ AllDigits r) := by
  unfold abody at e
  by_cases z : p = 0
  · rw [if_pos z, List.append_nil] at e
    exact .inl (dg_digits _ c (by rw [e]; exact List.mem_append_right _ List.mem_cons_self))
  · rw [if_neg z] at e
    exact body_bad (dg_digits _) (fig_digits _ _) e
theorem split_one : ∀ {A B A' B' : List Nat}, AllDigits A → AllDigits A' → A ++ 46 :: B = A' ++ 46 :: B' → A = A' ∧ B = B'
  | [], B, [], B', _, _, e => ⟨rfl, (List.cons.inj e).2⟩
  | [], B, a :: A', B', _, h, e => by
    have := (List.cons.inj e).1
    have := h a List.mem_cons_self
    omega
  | a :: A, B, [], B', h, _, e => by
    have := (List.cons.inj e).1
    have := h a List.mem_cons_self
    omega
  | a :: A, B, a' :: A', B', h, h', e => by
    obtain ⟨rfl, e2⟩ := List.cons.inj (show a :: (A ++ 46 :: B) = a' :: (A' ++ 46 :: B') from e)
    obtain ⟨rfl, rfl⟩ := split_one (fun c h1 => h c (List.mem_cons_of_mem _ h1)) (fun c h1 => h' c (List.mem_cons_of_mem _ h1)) e2
    exact ⟨rfl, rfl⟩
/-- what the reading of a written text finds -/
theorem sh_written {n : Int} {p : Nat} {pt : Option Nat} {num fg : Nat} (h : Sh (abody n p) pt num fg) :
    num = n.natAbs ∧ fg = acnt n p ∧ (pt = none ↔ p = 0) ∧ ∀ a, pt = some a → a = (dg (n.natAbs / 10 ^ p)).length ∧ (abody n p).length = a + 1 + p := by
  have v : digitsVal (dg (n.natAbs / 10 ^ p) ++ fig p (n.natAbs : Int)) = n.natAbs := by rw [← zf_split, zf_val]
  cases pt with
  | none =>
    obtain ⟨h1, h2, h3⟩ := h
    have p0 : p = 0 := Classical.byContradiction fun z => by
      have : (46 : Nat) ∈ abody n p := by
        unfold abody
        rw [if_neg z]
        exact List.mem_append_right _ List.mem_cons_self
      have := h1 _ this
      omega
    subst p0
    unfold abody at h2 h3
    rw [if_pos rfl, List.append_nil] at h2 h3
    refine ⟨by rw [h2, dg_val]; simp, by rw [h3]; rfl, ⟨fun _ => rfl, fun _ => rfl⟩, fun a z => by cases z⟩
  | some a =>
    obtain ⟨A, B, e, hl, hA, hB, h2, h3⟩ := h
    have p0 : p ≠ 0 := fun z => by
      subst z
      unfold abody at e
      rw [if_pos rfl, List.append_nil] at e
      have := dg_digits _ 46 (by rw [e]; exact List.mem_append_right _ List.mem_cons_self)
      omega
    have e' := e
    unfold abody at e'
    rw [if_neg p0] at e'
    obtain ⟨rfl, rfl⟩ := split_one (dg_digits _) hA e'
    rw [fig_len] at h3
    refine ⟨by rw [h2, v], h3, ⟨fun z => (by cases z), fun z => absurd z p0⟩, fun a' z => ?_⟩
    cases z
    refine ⟨hl.symm, ?_⟩
    rw [e, List.length_append, List.length_cons, fig_len, hl]
    omega
/-- a text that is read without a fault is written so -/
theorem sh_reads {r A B : List Nat} {p : Nat} {below : Bool} (hA : AllDigits A) (hB : AllDigits B) (hr : r = A ++ (if p = 0 then [] else 46 :: B)) (hl : B.length = p) (ne : A ≠ []) (h0 : A.head? = some 48 → A.length ≤ 1) (hf : A.length + B.length ≤ 60)
    (hn : below = true → digitsVal (A ++ B) ≠ 0) : Written ((if below = true then [45] else []) ++ r) p (if below = true then -(digitsVal (A ++ B) : Int) else (digitsVal (A ++ B) : Int)) := by
  have d1 := dv_div A B hB
  have f1 := fig_of A B hB
  rw [hl] at d1 f1
  have d2 := dg_of hA ne h0
  have na : (if below = true then -(digitsVal (A ++ B) : Int) else (digitsVal (A ++ B) : Int)).natAbs = digitsVal (A ++ B) := by split <;> omega
  have sg : (if (if below = true then -(digitsVal (A ++ B) : Int) else (digitsVal (A ++ B) : Int)) < 0 then [45] else ([] : List Nat)) = if below = true then [45] else [] := by
    cases below with
    | true =>
      have := hn rfl
      rw [if_pos rfl, if_pos rfl, if_pos (by omega)]
    | false =>
      have h : ¬ ((if (false : Bool) = true then -(digitsVal (A ++ B) : Int) else (digitsVal (A ++ B) : Int)) < 0) := by
        rw [if_neg Bool.false_ne_true]
        omega
      rw [if_neg h]
      rfl
  refine ⟨?_, ?_⟩
  · rw [atxt_body, sg, hr]
    unfold abody
    rw [na, d1, d2, f1]
  · unfold acnt
    rw [na, d1, d2]
    omega
theorem digits_lt (cs : List Nat) : AllDigits cs → digitsVal cs < 10 ^ cs.length := by
  refine rev_ind (P := fun cs => AllDigits cs → digitsVal cs < 10 ^ cs.length) (fun _ => by decide) (fun r c ih hB => ?_) cs
  obtain ⟨h1, h2⟩ := digits_app.mp hB
  have hc := h2 c List.mem_cons_self
  have := ih h1
  rw [digitsVal_snoc, List.length_append, List.length_singleton, Nat.pow_succ]
  omega
theorem digits_bound (cs : List Nat) (h : AllDigits cs) (hl : cs.length ≤ 60) : digitsVal cs < 10 ^ 60 :=
  Nat.lt_of_lt_of_le (digits_lt cs h) (Nat.pow_le_pow_right (by decide) hl)
theorem cutC_one (cs : List Nat) : cutC cs none (some 1) = cs.take 1 := by
  unfold cutC
  rw [HT.sIx_none, show (1 : Int) = ((1 : Nat) : Int) from rfl, HT.sIx_nat, List.drop_zero, Nat.sub_zero]
  cases cs with
  | nil => rfl
  | cons c r => rw [List.length_cons, Nat.min_eq_left (by omega)]
theorem atxt_pos (n : Int) (p : Nat) : 1 ≤ (atxt n p).length := by
  have := dg_pos (n.natAbs / 10 ^ p)
  unfold atxt
  rw [List.length_append, List.length_append]
  omega
theorem ite_of {c A B : Prop} [Decidable c] (h1 : c → A) (h2 : ¬ c → B) : if c then A else B := by
  by_cases h : c
  · rw [if_pos h]; exact h1 h
  · rw [if_neg h]; exact h2 h
end L2

namespace Cal
/-- 1 in a year that has a 29 February, else 0 -/
def lp (y : Int) : Int := if y % 4 = 0 ∧ (y % 100 ≠ 0 ∨ y % 400 = 0) then 1 else 0
def dim (y m : Int) : Int := if m = 2 then 28 + lp y else if m = 4 ∨ m = 6 ∨ m = 9 ∨ m = 11 then 30 else 31
def ahead (y : Int) : Int := (y - 1) * 365 + (y - 1) / 4 - (y - 1) / 100 + (y - 1) / 400
/-- the days of a year ahead of a month's first -/
def cum (y m : Int) : Int :=
  if m ≤ 1 then 0 else if m = 2 then 31 else if m = 3 then 59 + lp y else if m = 4 then 90 + lp y else if m = 5 then 120 + lp y
  else if m = 6 then 151 + lp y else if m = 7 then 181 + lp y else if m = 8 then 212 + lp y else if m = 9 then 243 + lp y
  else if m = 10 then 273 + lp y else if m = 11 then 304 + lp y else if m = 12 then 334 + lp y else 365 + lp y
def num (y m d : Int) : Int := ahead y + cum y m + d - 1
def Valid (y m d : Int) : Prop := 1 ≤ y ∧ y ≤ 9999 ∧ 1 ≤ m ∧ m ≤ 12 ∧ 1 ≤ d ∧ d ≤ dim y m
/-- the year in which a day lies, as the program reckons it -/
def yearOf (n : Int) : Int :=
  let r := n % 146097
  let h := min (r / 36524) 3
  let r2 := r - h * 36524
  let c := r2 % 1461
  n / 146097 * 400 + h * 100 + r2 / 1461 * 4 + min (c / 365) 3 + 1
end Cal
namespace Cal
/-- the date behind -/
def nxt (y m d : Int) : Int × Int × Int := if d < dim y m then (y, m, d + 1) else if m < 12 then (y, m + 1, 1) else (y + 1, 1, 1)
end Cal
namespace Cal
/-- so many months on: the month is there; its year, its month, its day -/
def MonOk (y m k : Int) : Prop := 1 ≤ (y * 12 + m - 1 + k) / 12 ∧ (y * 12 + m - 1 + k) / 12 ≤ 9999
def monY (y m k : Int) : Int := (y * 12 + m - 1 + k) / 12
def monM (y m k : Int) : Int := (y * 12 + m - 1 + k) % 12 + 1
def monD (y m d k : Int) : Int := if dim (monY y m k) (monM y m k) < d then dim (monY y m k) (monM y m k) else d
end Cal

namespace Cal
open Classical in
/-- the day that is so many months on from a day -/
noncomputable def mon (n k : Int) : Int :=
  if h : ∃ p : Int × Int × Int, Valid p.1 p.2.1 p.2.2 ∧ num p.1 p.2.1 p.2.2 = n then
    num (monY (choose h).1 (choose h).2.1 k) (monM (choose h).1 (choose h).2.1 k) (monD (choose h).1 (choose h).2.1 (choose h).2.2 k) else 0
/-- where span k begins: dy: a cycle of days, else of months -/
noncomputable def beg (f : Int) (dy : Bool) (c k : Int) : Int := if dy = true then f + k * c else mon f (k * c)
/-- a cycle's bounds -/
def CycOk (dy : Bool) (c : Int) : Prop := 1 ≤ c ∧ c ≤ if dy = true then 400 else 12
end Cal

namespace K14
open PySem L2
seal L2.PE L2.PA L2.PS L2.PSs L2.PT L2.PW L2.PG L2.PGs L2.PI L2.PK L2.PO L2.PIf L2.PEt L2.PAt L2.PSt L2.PSst L2.PTt L2.PWt L2.PEm L2.PSm L2.PC
def top (i : Nat) : Stmt := PySem.Challenge.pw_paidspan_k14_texts_of_no_amount.main.body.getD i (.Pass ⟨0, 0, 0, 0⟩)
abbrev s_show_amount : Stmt := top 14
abbrev s_only_figures : Stmt := top 15
abbrev s_read_amount : Stmt := top 16
abbrev s_xL_spoilt : Stmt := top 18
abbrev s_xL_due : Stmt := top 19
abbrev s_xL_alone : Stmt := top 20
abbrev s_xL_right : Stmt := top 21
abbrev s_law : Stmt := top 22
theorem st_0 : Str.ofString "-" = SL [45] := by decide +kernel
theorem st_1 : Str.ofString "" = SL [] := by decide +kernel
theorem st_2 : Str.ofString "." = SL [46] := by decide +kernel
theorem st_6 : Str.ofString " !\"#$&'()*+,-./0123456789:;<=>?@ABCDEFGHIJKLMNOPQRSTUVWXYZ[\\]^_`abcdefghijklmnopqrstuvwxyz{|}~\n" = SL [32, 33, 34, 35, 36, 38, 39, 40, 41, 42, 43, 44, 45, 46, 47, 48, 49, 50, 51, 52, 53, 54, 55, 56, 57, 58, 59, 60, 61, 62, 63, 64, 65, 66, 67, 68, 69, 70, 71, 72, 73, 74, 75, 76, 77, 78, 79, 80, 81, 82, 83, 84, 85, 86, 87, 88, 89, 90, 91, 92, 93, 94, 95, 96, 97, 98, 99, 100, 101, 102, 103, 104, 105, 106, 107, 108, 109, 110, 111, 112, 113, 114, 115, 116, 117, 118, 119, 120, 121, 122, 123, 124, 125, 126, 10] := by decide +kernel
theorem st_7 : Str.ofString "-0" = SL [45, 48] := by decide +kernel
theorem st_8 : Str.ofString "-0.00" = SL [45, 48, 46, 48, 48] := by decide +kernel
theorem st_9 : Str.ofString "0." = SL [48, 46] := by decide +kernel
theorem st_10 : Str.ofString ".00" = SL [46, 48, 48] := by decide +kernel
theorem st_11 : Str.ofString "-.5" = SL [45, 46, 53] := by decide +kernel
theorem st_12 : Str.ofString "0.0" = SL [48, 46, 48] := by decide +kernel
theorem st_13 : Str.ofString "00" = SL [48, 48] := by decide +kernel
theorem st_14 : Str.ofString "0.000000" = SL [48, 46, 48, 48, 48, 48, 48, 48] := by decide +kernel
theorem st_15 : Str.ofString "-0.000000" = SL [45, 48, 46, 48, 48, 48, 48, 48, 48] := by decide +kernel
theorem st_16 : Str.ofString "0" = SL [48] := by decide +kernel
theorem st_17 : Str.ofString "0123456789.-" = SL [48, 49, 50, 51, 52, 53, 54, 55, 56, 57, 46, 45] := by decide +kernel
theorem st_18 : Str.ofString "+" = SL [43] := by decide +kernel
theorem st_19 : Str.ofString "--" = SL [45, 45] := by decide +kernel
theorem st_20 : Str.ofString " " = SL [32] := by decide +kernel
theorem st_21 : Str.ofString ".0" = SL [46, 48] := by decide +kernel
theorem st_23 : Str.ofString "123456789" = SL [49, 50, 51, 52, 53, 54, 55, 56, 57] := by decide +kernel
theorem st_24 : Str.ofString "1" = SL [49] := by decide +kernel
theorem st_25 : Str.ofString "\n" = SL [10] := by decide +kernel
theorem st_26 : Str.ofString "0123456789" = SL [48, 49, 50, 51, 52, 53, 54, 55, 56, 57] := by decide +kernel
/-- where things stand -/
structure Adr where
  a_show_amount : Addr
  d_show_amount : FuncData
  a_only_figures : Addr
  d_only_figures : FuncData
  a_read_amount : Addr
  d_read_amount : FuncData
  a_xL_spoilt : Addr
  d_xL_spoilt : FuncData
  a_xL_due : Addr
  d_xL_due : FuncData
  a_xL_alone : Addr
  d_xL_alone : FuncData
  a_xL_right : Addr
  d_xL_right : FuncData
  a_law : Addr
  d_law : FuncData
  c_SpanError : Addr
  c_NoDate : Addr
  c_NoParts : Addr
  c_NoAmount : Addr
  c_NoSpan : Addr
  c_TooLong : Addr
  c_NoAccount : Addr
  c_NoText : Addr
  c_NoRow : Addr
  c_NoEntry : Addr
/-- what stands there -/
structure Txt (K : PySem.W.Frag) (mg : Str → Option Value) (t : Adr) : Prop where
  mg_show_amount : mg "show_amount" = some (.ref t.a_show_amount)
  fn_show_amount : FunD K "show_amount" "show_amount" s_show_amount t.a_show_amount t.d_show_amount
  b_show_amount : Binds K t.d_show_amount ["amount", "places"] []
  bd_show_amount : ∃ tk, Binds K t.d_show_amount ["amount", "places"] [.int 2 tk]
  kb_show_amount : KBinds K t.d_show_amount ["amount", "places"] ["places"] kwG kwG
  mg_only_figures : mg "only_figures" = some (.ref t.a_only_figures)
  fn_only_figures : Fun K "only_figures" "only_figures" s_only_figures t.a_only_figures t.d_only_figures
  b_only_figures : Binds K t.d_only_figures ["text"] []
  mg_read_amount : mg "read_amount" = some (.ref t.a_read_amount)
  fn_read_amount : FunD K "read_amount" "read_amount" s_read_amount t.a_read_amount t.d_read_amount
  b_read_amount : Binds K t.d_read_amount ["text", "places"] []
  bd_read_amount : ∃ tk, Binds K t.d_read_amount ["text", "places"] [.int 2 tk]
  kb_read_amount : KBinds K t.d_read_amount ["text", "places"] ["places"] kwG kwG
  mg_xL_spoilt : mg "_law_spoilt" = some (.ref t.a_xL_spoilt)
  fn_xL_spoilt : Fun K "_law_spoilt" "_law_spoilt" s_xL_spoilt t.a_xL_spoilt t.d_xL_spoilt
  b_xL_spoilt : Binds K t.d_xL_spoilt ["_law_text", "_law_cell"] []
  mg_xL_due : mg "_law_due" = some (.ref t.a_xL_due)
  fn_xL_due : Fun K "_law_due" "_law_due" s_xL_due t.a_xL_due t.d_xL_due
  b_xL_due : Binds K t.d_xL_due ["_law_text", "_law_behind"] []
  mg_xL_alone : mg "_law_alone" = some (.ref t.a_xL_alone)
  fn_xL_alone : Fun K "_law_alone" "_law_alone" s_xL_alone t.a_xL_alone t.d_xL_alone
  b_xL_alone : Binds K t.d_xL_alone ["_law_error"] []
  mg_xL_right : mg "_law_right" = some (.ref t.a_xL_right)
  fn_xL_right : Fun K "_law_right" "_law_right" s_xL_right t.a_xL_right t.d_xL_right
  b_xL_right : Binds K t.d_xL_right ["_law_text", "_law_behind"] []
  mg_law : mg "law" = some (.ref t.a_law)
  fn_law : Fun K "law" "law" s_law t.a_law t.d_law
  b_law : Binds K t.d_law ["_law_script"] []
  mg_SpanError : mg "SpanError" = some (.ref t.c_SpanError)
  mg_NoDate : mg "NoDate" = some (.ref t.c_NoDate)
  mg_NoParts : mg "NoParts" = some (.ref t.c_NoParts)
  mg_NoAmount : mg "NoAmount" = some (.ref t.c_NoAmount)
  mg_NoSpan : mg "NoSpan" = some (.ref t.c_NoSpan)
  mg_TooLong : mg "TooLong" = some (.ref t.c_TooLong)
  mg_NoAccount : mg "NoAccount" = some (.ref t.c_NoAccount)
  mg_NoText : mg "NoText" = some (.ref t.c_NoText)
  mg_NoRow : mg "NoRow" = some (.ref t.c_NoRow)
  mg_NoEntry : mg "NoEntry" = some (.ref t.c_NoEntry)
  ex_NoAmount : Exc K t.c_NoAmount
  k_FIGURES : ∃ u, mg "FIGURES" = some u ∧ RelV (.str (SL [48, 49, 50, 51, 52, 53, 54, 55, 56, 57])) u
  k_MOST_FIGURES : ∃ u, mg "MOST_FIGURES" = some u ∧ RelV (.int 60) u
  no_len : mg "len" = none
  no_str : mg "str" = none
  no_abs : mg "abs" = none
  no_int : mg "int" = none
  no_range : mg "range" = none
  no_ord : mg "ord" = none
  no_isinstance : mg "isinstance" = none
  no_any : mg "any" = none
  no_ValueError : mg "ValueError" = none
  no_bool : mg "bool" = none
  cl_SpanError : ClsOk K t.c_SpanError
  cl_NoDate : ClsOk K t.c_NoDate
  cl_NoParts : ClsOk K t.c_NoParts
  cl_NoAmount : ClsOk K t.c_NoAmount
  cl_NoSpan : ClsOk K t.c_NoSpan
  cl_TooLong : ClsOk K t.c_TooLong
  cl_NoAccount : ClsOk K t.c_NoAccount
  cl_NoText : ClsOk K t.c_NoText
  cl_NoRow : ClsOk K t.c_NoRow
  cl_NoEntry : ClsOk K t.c_NoEntry
  xc_NoAmount : ExcCls K t.c_NoAmount
  m_NoAmount_SpanError : PySem.W.mroIn K t.c_NoAmount (.ref t.c_SpanError) = some true
  m_NoAmount_NoDate : PySem.W.mroIn K t.c_NoAmount (.ref t.c_NoDate) = some false
  m_NoAmount_NoParts : PySem.W.mroIn K t.c_NoAmount (.ref t.c_NoParts) = some false
  m_NoAmount_NoAmount : PySem.W.mroIn K t.c_NoAmount (.ref t.c_NoAmount) = some true
  m_NoAmount_NoSpan : PySem.W.mroIn K t.c_NoAmount (.ref t.c_NoSpan) = some false
  m_NoAmount_TooLong : PySem.W.mroIn K t.c_NoAmount (.ref t.c_TooLong) = some false
  m_NoAmount_NoAccount : PySem.W.mroIn K t.c_NoAmount (.ref t.c_NoAccount) = some false
  m_NoAmount_NoText : PySem.W.mroIn K t.c_NoAmount (.ref t.c_NoText) = some false
  m_NoAmount_NoRow : PySem.W.mroIn K t.c_NoAmount (.ref t.c_NoRow) = some false
  m_NoAmount_NoEntry : PySem.W.mroIn K t.c_NoAmount (.ref t.c_NoEntry) = some false
  m_NoAmount_ValueError : PySem.W.mroIn K t.c_NoAmount (.type "ValueError") = some true
  m_SpanError_BaseException : PySem.W.mroIn K t.c_SpanError (.type "BaseException") = some true
section
variable {P : Program} {w : World} {K : PySem.W.Frag} {mg : Str → Option Value} {base : Heap} {t : Adr}
/-- [9]: the text of an amount with places, and back -/
def spShow : Sp := fun vs H Q _ => ∃ n p : Int, vs = [.int n, .int p] ∧ 0 ≤ p ∧ p ≤ 6 ∧ -(10 ^ 60) < n ∧ n < 10 ^ 60 ∧ ∀ H', Same H H' → Q (.str (SL (atxt n p.toNat))) H'
theorem sc_show_amount : FnScope ["amount", "places", "sign", "figures", "ahead"] ["amount", "places"] (defScope s_show_amount) := ⟨rfl, rfl, rfl, by decide +kernel, rfl, by decide +kernel, by decide +kernel⟩
theorem ok_show_amount (T : Txt K mg t) : FnOk P w K mg base (CXE P w) 1 t.a_show_amount t.d_show_amount ["amount", "places"] (spShow) := by
  refine T.fn_show_amount.okX sc_show_amount (fun vs H Q E h => ?_) (fun cdv A outer s H vs Q E L hr h => ?_)
  · obtain ⟨n, p, rfl, p0, p1, n0, n1, q⟩ := h
    rfl
  obtain ⟨n, p, rfl, p0, p1, n0, n1, q⟩ := h
  have nd := sc_show_amount.nd
  refine ⟨_, (pss_cons (ps_cut (ps_set (i := 2) nd rfl (Or.inl rfl) (pe_ifExp (pt_cmpR op_lt (pv 0) pe_int (nomark _)) (pe_strL st_0) (pe_strL st_1)))) (pss_cons (ps_set (i := 3) nd rfl (Or.inl rfl) (pe_bm PySem.F.plainAttrs_str PySem.F.slot_str_zfill PySem.F.type_str_zfill mt_zfill (pe_callTy call_str_nat (by rfl) T.no_str bb_str (pa_cons (pe_callB call_abs (by rfl) T.no_abs bb_abs (pa_cons (pv 0) pa_nil)) pa_nil)) (pa_cons (pe_op op_add (pv 1) pe_int) pa_nil))) (pss_cons (ps_if (pt_cmpR op_eq (pv 1) pe_int (nomark _)) (pss_one (ps_ret (pe_op op_add_s (pv 2) (pv 3)))) pss_nil) (pss_cons (ps_set (i := 4) nd rfl (Or.inl rfl) (pe_op op_sub (pe_callB call_len_s (by rfl) T.no_len bb_len (pa_cons (pv 3) pa_nil)) (pv 1))) (pss_one (ps_ret (pe_op op_add_s (pe_op op_add_s (pe_op op_add_s (pv 2) (pe_slice sl_str (pv 3) po_none (po_some (pv 4)))) (pe_strL st_2)) (pe_slice sl_str (pv 3) (po_some (pv 4)) po_none)))))))), ?_⟩
  have nb : n.natAbs < 10 ^ 60 := by omega
  obtain ⟨k, rfl⟩ := Int.eq_ofNat_of_zero_le p0
  rw [Int.toNat_natCast] at q
  have as := atxt_small nb (show k ≤ 6 by omega)
  simp only [tStrike, tCallKX, kwG_one, tEither, tTupS, tLstS, comp_K, capσ, sub_nil, sub_none, sub_some, tYes, List.replicate, Option.join_some, Option.join_none, SL_inj, iStr, tPart, tNoPart, tSl, tLst, tTup, cx_K, slT, CDiv, Int.reduceLT, Int.reduceLE, Int.reduceToNat, Int.reduceNeg, Int.reduceAdd, Int.reduceSub, Int.reduceMul, forall_const, tSeq, tNext, tIfS, tRet, tRetN, tDrop, tAsg, gName, gCons, gNil, tVar, tC, tOp, rI, rI0, tUn, rU, tTest, tB, tAnd, tOr, tNot, tAndV, tOrV, tNotV, tIf, tCons, tNil, tCallX, tCallL, tCB, sRaise, rEq, rNe, scal_ii, scal_bb, scal_ss, scal_ni, scal_in, tChain, tAug, ipI, L2.start, List.map_cons, List.map_nil, List.length_cons, List.length_nil, List.cons_append, List.nil_append, List.append_nil, List.replicate_succ, List.replicate_zero, Nat.reduceAdd, Nat.reduceSub, List.getElem?_cons_zero, List.getElem?_cons_succ, List.set_cons_zero, List.set_cons_succ, Option.some.injEq, V.int.injEq, V.bl.injEq, V.ref.injEq, V.str.injEq, exists_eq_left', exists_eq_left, exists_eq', exists_and_left, List.cons.injEq, and_true, true_and, and_self, and_assoc, decide_eq_true_eq, if_true, if_false, Bool.true_eq_false, Bool.false_eq_true, Bool.not_eq_true', Bool.not_true, Bool.not_false, decide_eq_false_iff_not, ite_true, ite_false, reduceCtorEq, false_and, exists_false, false_or, or_false, and_false, Nat.reduceLeDiff, tBM]
  obtain ⟨R, hR⟩ : ∃ R : St → Hp → Prop, R = fun σ' H' => H' = H ∧ σ' = [some (.int n), some (.int k), some (.str (SL (if n < 0 then [45] else []))), none, none] := ⟨_, rfl⟩
  refine ⟨R, ?_, fun σ2 H2 h2 => ?_⟩
  · simp only [tStrike, tCallKX, kwG_one, tEither, tTupS, tLstS, comp_K, capσ, sub_nil, sub_none, sub_some, tYes, List.replicate, Option.join_some, Option.join_none, SL_inj, iStr, tPart, tNoPart, tSl, tLst, tTup, cx_K, slT, CDiv, Int.reduceLT, Int.reduceLE, Int.reduceToNat, Int.reduceNeg, Int.reduceAdd, Int.reduceSub, Int.reduceMul, forall_const, tSeq, tNext, tIfS, tRet, tRetN, tDrop, tAsg, gName, gCons, gNil, tVar, tC, tOp, rI, rI0, tUn, rU, tTest, tB, tAnd, tOr, tNot, tAndV, tOrV, tNotV, tIf, tCons, tNil, tCallX, tCallL, tCB, sRaise, rEq, rNe, scal_ii, scal_bb, scal_ss, scal_ni, scal_in, tChain, tAug, ipI, L2.start, List.map_cons, List.map_nil, List.length_cons, List.length_nil, List.cons_append, List.nil_append, List.append_nil, List.replicate_succ, List.replicate_zero, Nat.reduceAdd, Nat.reduceSub, List.getElem?_cons_zero, List.getElem?_cons_succ, List.set_cons_zero, List.set_cons_succ, Option.some.injEq, V.int.injEq, V.bl.injEq, V.ref.injEq, V.str.injEq, exists_eq_left', exists_eq_left, exists_eq', exists_and_left, List.cons.injEq, and_true, true_and, and_self, and_assoc, decide_eq_true_eq, if_true, if_false, Bool.true_eq_false, Bool.false_eq_true, Bool.not_eq_true', Bool.not_true, Bool.not_false, decide_eq_false_iff_not, ite_true, ite_false, reduceCtorEq, false_and, exists_false, false_or, or_false, and_false, Nat.reduceLeDiff]
    rw [hR]
    split
    · exact ⟨rfl, rfl⟩
    · exact ⟨rfl, rfl⟩
  rw [hR] at h2
  obtain ⟨rfl, rfl⟩ := h2
  clear hR
  simp only [tStrike, tCallKX, kwG_one, tEither, tTupS, tLstS, comp_K, capσ, sub_nil, sub_none, sub_some, tYes, List.replicate, Option.join_some, Option.join_none, SL_inj, iStr, tPart, tNoPart, tSl, tLst, tTup, cx_K, slT, CDiv, Int.reduceLT, Int.reduceLE, Int.reduceToNat, Int.reduceNeg, Int.reduceAdd, Int.reduceSub, Int.reduceMul, forall_const, tSeq, tNext, tIfS, tRet, tRetN, tDrop, tAsg, gName, gCons, gNil, tVar, tC, tOp, rI, rI0, tUn, rU, tTest, tB, tAnd, tOr, tNot, tAndV, tOrV, tNotV, tIf, tCons, tNil, tCallX, tCallL, tCB, sRaise, rEq, rNe, scal_ii, scal_bb, scal_ss, scal_ni, scal_in, tChain, tAug, ipI, L2.start, List.map_cons, List.map_nil, List.length_cons, List.length_nil, List.cons_append, List.nil_append, List.append_nil, List.replicate_succ, List.replicate_zero, Nat.reduceAdd, Nat.reduceSub, List.getElem?_cons_zero, List.getElem?_cons_succ, List.set_cons_zero, List.set_cons_succ, Option.some.injEq, V.int.injEq, V.bl.injEq, V.ref.injEq, V.str.injEq, exists_eq_left', exists_eq_left, exists_eq', exists_and_left, List.cons.injEq, and_true, true_and, and_self, and_assoc, decide_eq_true_eq, if_true, if_false, Bool.true_eq_false, Bool.false_eq_true, Bool.not_eq_true', Bool.not_true, Bool.not_false, decide_eq_false_iff_not, ite_true, ite_false, reduceCtorEq, false_and, exists_false, false_or, or_false, and_false, Nat.reduceLeDiff, tBM]
  have ea : (if n < 0 then -n else n) = (n.natAbs : Int) := by split <;> omega
  rw [ea]
  have tn : ((n.natAbs : Nat) : Int).toNat = n.natAbs := Int.toNat_natCast _
  have cl := acnt_le (p := k) nb (show k ≤ 6 by omega)
  have ln := zf_len n.natAbs k
  have sp := zf_split k n.natAbs
  have sl : (if n < 0 then [45] else ([] : List Nat)).length ≤ 1 := by split <;> simp
  unfold acnt at cl
  refine ⟨by omega, log2_60 (i := (n.natAbs : Int)) (by omega), rfl, k + 1, by omega, by omega, fun c r => dg_head, ?_⟩
  rw [tn]
  generalize zf (dg n.natAbs) (k + 1) = fs at ln sp ⊢
  split
  · rename_i k0
    obtain rfl : k = 0 := by omega
    have e : (if n < 0 then [45] else []) ++ fs = atxt n 0 := by
      rw [sp]
      rfl
    rw [e]
    exact ⟨le_line (by omega), q _ (Same.refl _)⟩
  · rename_i k0
    have kn : k ≠ 0 := fun z => k0 (by omega)
    have t1 : cutC fs none (some ((fs.length : Int) - k)) = dg (n.natAbs / 10 ^ k) := by
      rw [cutC_take fs (by omega) (by omega), show ((fs.length : Int) - k).toNat = (dg (n.natAbs / 10 ^ k)).length by omega, sp, List.take_left' rfl]
    have t2 : cutC fs (some ((fs.length : Int) - k)) none = fig k (n.natAbs : Int) := by
      rw [cutC_drop fs (by omega) (by omega), show ((fs.length : Int) - k).toNat = (dg (n.natAbs / 10 ^ k)).length by omega, sp, List.drop_left' rfl]
    rw [t1, t2]
    have e : (if n < 0 then [45] else []) ++ dg (n.natAbs / 10 ^ k) ++ [46] ++ fig k (n.natAbs : Int) = atxt n k := by
      unfold atxt
      rw [if_neg kn]
      simp only [List.append_assoc, List.singleton_append]
    rw [e]
    have fl := fig_len k (n.natAbs : Int)
    refine ⟨le_line (by omega), le_line (by omega), le_line (by omega), le_line ?_, le_line (by omega), le_line ?_, q _ (Same.refl _)⟩
    · rw [List.length_append]; omega
    · rw [List.length_append, List.length_append, List.length_singleton]; omega
def spOnly : Sp := fun vs H Q _ => ∃ cs : List Nat, vs = [.str (SL cs)] ∧ cs.length ≤ sizeLine ∧ ∀ b : Bool, (b = true ↔ PySem.NumText.AllDigits cs ∧ cs ≠ []) → Q (.bl b) H
theorem sc_only_figures : FnScope ["text", "sign"] ["text"] (defScope s_only_figures) := ⟨rfl, rfl, rfl, by decide +kernel, rfl, by decide +kernel, by decide +kernel⟩
theorem ok_only_figures (T : Txt K mg t) : FnOk P w K mg base (CXE P w) 1 t.a_only_figures t.d_only_figures ["text"] (spOnly) := by
  refine T.fn_only_figures.okX sc_only_figures (fun vs H Q E h => ?_) (fun cdv A outer s H vs Q E L hr h => ?_)
  · obtain ⟨cs, rfl, hl, q⟩ := h
    rfl
  obtain ⟨cs, rfl, hl, q⟩ := h
  have nd := sc_only_figures.nd
  obtain ⟨u_FIGURES, h_FIGURES, r_FIGURES⟩ := T.k_FIGURES
  refine ⟨_, (pss_cons (ps_for (by passes_own) rfl (pi_str (pv 0)) (pg_name (i := 1) nd rfl (Or.inl rfl)) (pss_one (ps_if (pt_cmpR op_notin_s (pv 1) (pe_glob (by rfl) h_FIGURES r_FIGURES) rfl) (pss_one (ps_ret pe_bl)) pss_nil))) (pss_one (ps_ret (pe_cmpR op_gt (pe_callB call_len_s (by rfl) T.no_len bb_len (pa_cons (pv 0) pa_nil)) pe_int (nomark _))))), ?_⟩
  simp only [tStrike, tCallKX, kwG_one, tEither, tTupS, tLstS, comp_K, capσ, sub_nil, sub_none, sub_some, tYes, List.replicate, Option.join_some, Option.join_none, SL_inj, iStr, tPart, tNoPart, tSl, tLst, tTup, cx_K, slT, CDiv, Int.reduceLT, Int.reduceLE, Int.reduceToNat, Int.reduceNeg, Int.reduceAdd, Int.reduceSub, Int.reduceMul, forall_const, tSeq, tNext, tIfS, tRet, tRetN, tDrop, tAsg, gName, gCons, gNil, tVar, tC, tOp, rI, rI0, tUn, rU, tTest, tB, tAnd, tOr, tNot, tAndV, tOrV, tNotV, tIf, tCons, tNil, tCallX, tCallL, tCB, sRaise, rEq, rNe, scal_ii, scal_bb, scal_ss, scal_ni, scal_in, tChain, tAug, ipI, L2.start, List.map_cons, List.map_nil, List.length_cons, List.length_nil, List.cons_append, List.nil_append, List.append_nil, List.replicate_succ, List.replicate_zero, Nat.reduceAdd, Nat.reduceSub, List.getElem?_cons_zero, List.getElem?_cons_succ, List.set_cons_zero, List.set_cons_succ, Option.some.injEq, V.int.injEq, V.bl.injEq, V.ref.injEq, V.str.injEq, exists_eq_left', exists_eq_left, exists_eq', exists_and_left, List.cons.injEq, and_true, true_and, and_self, and_assoc, decide_eq_true_eq, if_true, if_false, Bool.true_eq_false, Bool.false_eq_true, Bool.not_eq_true', Bool.not_true, Bool.not_false, decide_eq_false_iff_not, ite_true, ite_false, reduceCtorEq, false_and, exists_false, false_or, or_false, and_false, Nat.reduceLeDiff]
  refine ⟨_, rfl, _, rfl, ?_⟩
  refine for_str (cs := cs) (fun i σ1 H1 => H1 = H ∧ (∃ e, σ1 = [some (.str (SL cs)), e]) ∧ ∀ j c, j < i → cs[j]? = some c → 48 ≤ c ∧ c ≤ 57) ⟨rfl, ⟨none, rfl⟩, fun j c h => absurd h (Nat.not_lt_zero _)⟩ (fun i c σ1 H1 hc h => ?_) (fun σ1 H1 h => ?_)
  · obtain ⟨rfl, ⟨e, rfl⟩, h⟩ := h
    simp only [tStrike, tCallKX, kwG_one, tEither, tTupS, tLstS, comp_K, capσ, sub_nil, sub_none, sub_some, tYes, List.replicate, Option.join_some, Option.join_none, SL_inj, iStr, tPart, tNoPart, tSl, tLst, tTup, cx_K, slT, CDiv, Int.reduceLT, Int.reduceLE, Int.reduceToNat, Int.reduceNeg, Int.reduceAdd, Int.reduceSub, Int.reduceMul, forall_const, tSeq, tNext, tIfS, tRet, tRetN, tDrop, tAsg, gName, gCons, gNil, tVar, tC, tOp, rI, rI0, tUn, rU, tTest, tB, tAnd, tOr, tNot, tAndV, tOrV, tNotV, tIf, tCons, tNil, tCallX, tCallL, tCB, sRaise, rEq, rNe, scal_ii, scal_bb, scal_ss, scal_ni, scal_in, tChain, tAug, ipI, L2.start, List.map_cons, List.map_nil, List.length_cons, List.length_nil, List.cons_append, List.nil_append, List.append_nil, List.replicate_succ, List.replicate_zero, Nat.reduceAdd, Nat.reduceSub, List.getElem?_cons_zero, List.getElem?_cons_succ, List.set_cons_zero, List.set_cons_succ, Option.some.injEq, V.int.injEq, V.bl.injEq, V.ref.injEq, V.str.injEq, exists_eq_left', exists_eq_left, exists_eq', exists_and_left, List.cons.injEq, and_true, true_and, and_self, and_assoc, decide_eq_true_eq, if_true, if_false, Bool.true_eq_false, Bool.false_eq_true, Bool.not_eq_true', Bool.not_true, Bool.not_false, decide_eq_false_iff_not, ite_true, ite_false, reduceCtorEq, false_and, exists_false, false_or, or_false, and_false, Nat.reduceLeDiff]
    by_cases ok : 48 ≤ c ∧ c ≤ 57
    · rw [if_neg (fun z => z ((in_digits c).mpr ok))]
      intro j c' hj hc'
      by_cases z : j = i
      · subst z
        rw [hc] at hc'
        cases hc'
        exact ok
      · exact h j c' (by omega) hc'
    · rw [if_pos (fun z => ok ((in_digits c).mp z))]
      exact q false ⟨fun z => (by cases z), fun z => absurd (z.1 c (List.mem_of_getElem? hc)) ok⟩
  · obtain ⟨rfl, ⟨e, rfl⟩, h⟩ := h
    simp only [tStrike, tCallKX, kwG_one, tEither, tTupS, tLstS, comp_K, capσ, sub_nil, sub_none, sub_some, tYes, List.replicate, Option.join_some, Option.join_none, SL_inj, iStr, tPart, tNoPart, tSl, tLst, tTup, cx_K, slT, CDiv, Int.reduceLT, Int.reduceLE, Int.reduceToNat, Int.reduceNeg, Int.reduceAdd, Int.reduceSub, Int.reduceMul, forall_const, tSeq, tNext, tIfS, tRet, tRetN, tDrop, tAsg, gName, gCons, gNil, tVar, tC, tOp, rI, rI0, tUn, rU, tTest, tB, tAnd, tOr, tNot, tAndV, tOrV, tNotV, tIf, tCons, tNil, tCallX, tCallL, tCB, sRaise, rEq, rNe, scal_ii, scal_bb, scal_ss, scal_ni, scal_in, tChain, tAug, ipI, L2.start, List.map_cons, List.map_nil, List.length_cons, List.length_nil, List.cons_append, List.nil_append, List.append_nil, List.replicate_succ, List.replicate_zero, Nat.reduceAdd, Nat.reduceSub, List.getElem?_cons_zero, List.getElem?_cons_succ, List.set_cons_zero, List.set_cons_succ, Option.some.injEq, V.int.injEq, V.bl.injEq, V.ref.injEq, V.str.injEq, exists_eq_left', exists_eq_left, exists_eq', exists_and_left, List.cons.injEq, and_true, true_and, and_self, and_assoc, decide_eq_true_eq, if_true, if_false, Bool.true_eq_false, Bool.false_eq_true, Bool.not_eq_true', Bool.not_true, Bool.not_false, decide_eq_false_iff_not, ite_true, ite_false, reduceCtorEq, false_and, exists_false, false_or, or_false, and_false, Nat.reduceLeDiff]
    have ad : PySem.NumText.AllDigits cs := fun c hc => by
      obtain ⟨j, hj, e⟩ := List.getElem_of_mem hc
      exact h j c hj (by rw [List.getElem?_eq_getElem hj, e])
    refine ⟨hl, q _ ?_⟩
    rw [decide_eq_true_iff]
    constructor
    · intro z
      exact ⟨ad, fun e => by rw [e] at z; exact absurd z (by decide)⟩
    · intro z
      have := List.length_pos_iff.mpr z.2
      omega
/-- a text of an amount is read, another one refused -/
def spRead (t : Adr) : Sp := fun vs H Q E => ∃ (cs : List Nat) (p : Int), vs = [.str (SL cs), .int p] ∧ cs.length ≤ sizeLine ∧ 0 ≤ p ∧ p ≤ 6 ∧ (∀ n, Written cs p.toNat n → ∀ H', Same H H' → Q (.int n) H') ∧ ((∀ n, ¬ Written cs p.toNat n) → ∀ H', Same H H' → E (.ref t.c_NoAmount) none H')
theorem sc_read_amount : FnScope ["text", "places", "figures", "amount"] ["text", "places"] (defScope s_read_amount) := ⟨rfl, rfl, rfl, by decide +kernel, rfl, by decide +kernel, by decide +kernel⟩
theorem ok_read_amount (T : Txt K mg t) : FnOkT P w K mg base (CXE P w) 2 t.a_read_amount t.d_read_amount ["text", "places"] (spRead t) := by
  refine T.fn_read_amount.okXT sc_read_amount (fun vs H Q E h => ?_) (fun cdv A outer s H vs Q E L hr h => ?_)
  · obtain ⟨cs, p, rfl, hl, p0, p1, q1, q2⟩ := h
    rfl
  obtain ⟨cs, p, rfl, hl, p0, p1, q1, q2⟩ := h
  have nd := sc_read_amount.nd
  obtain ⟨u_MOST_FIGURES, h_MOST_FIGURES, r_MOST_FIGURES⟩ := T.k_MOST_FIGURES
  refine ⟨_, (psst_cons (pst_set (i := 2) nd rfl (Or.inl rfl) (pet_strike (c := 46) (by decide +kernel) (by decide +kernel) (pet_strike (c := 45) (by decide +kernel) (by decide +kernel) (PE.t (pv 0))))) (PSs.t (pss_cons (ps_if (pt_cmpR op_gt (pe_callB call_len_s (by rfl) T.no_len bb_len (pa_cons (pv 2) pa_nil)) (pe_glob (by rfl) h_MOST_FIGURES r_MOST_FIGURES) (nomark _)) (pss_one (ps_raise L T.ex_NoAmount (by rfl) (by rfl) T.mg_NoAmount (pa_cons pe_str pa_nil))) pss_nil) (pss_cons (ps_if (pt_not (pt_val (pe_callX L.toLv (ok_only_figures T) (hr.mono (by decide)) (by rfl) T.mg_only_figures T.fn_only_figures.kp T.b_only_figures .nil (pa_cons (pv 2) pa_nil)))) (pss_one (ps_raise L T.ex_NoAmount (by rfl) (by rfl) T.mg_NoAmount (pa_cons pe_str pa_nil))) pss_nil) (pss_cons (ps_set (i := 3) nd rfl (Or.inl rfl) (pe_callTy call_int_text (by rfl) T.no_int bb_int (pa_cons (pv 2) pa_nil))) (pss_cons (ps_cut (ps_if (pt_val (pe_bm PySem.F.plainAttrs_str PySem.F.slot_str_startswith PySem.F.type_str_startswith mt_startswith (pv 0) (pa_cons (pe_strL st_0) pa_nil))) (pss_one (ps_set (i := 3) nd rfl (Or.inl rfl) (pe_un un_neg (pv 3)))) pss_nil)) (pss_cons (ps_if (pt_cmpR op_ne (pe_callX L.toLv (ok_show_amount T) (hr.mono (by decide)) (by rfl) T.mg_show_amount T.fn_show_amount.kp T.b_show_amount .nil (pa_cons (pv 3) (pa_cons (pv 1) pa_nil star_Name) star_Name)) (pv 0) (nomark _)) (pss_one (ps_raise L T.ex_NoAmount (by rfl) (by rfl) T.mg_NoAmount (pa_cons pe_str pa_nil))) pss_nil) (pss_one (ps_ret (pv 3)))))))))), ?_⟩
  simp only [tStrike, tCallKX, kwG_one, tEither, tTupS, tLstS, comp_K, capσ, sub_nil, sub_none, sub_some, tYes, List.replicate, Option.join_some, Option.join_none, SL_inj, iStr, tPart, tNoPart, tSl, tLst, tTup, cx_K, slT, CDiv, Int.reduceLT, Int.reduceLE, Int.reduceToNat, Int.reduceNeg, Int.reduceAdd, Int.reduceSub, Int.reduceMul, forall_const, tSeq, tNext, tIfS, tRet, tRetN, tDrop, tAsg, gName, gCons, gNil, tVar, tC, tOp, rI, rI0, tUn, rU, tTest, tB, tAnd, tOr, tNot, tAndV, tOrV, tNotV, tIf, tCons, tNil, tCallX, tCallL, tCB, sRaise, rEq, rNe, scal_ii, scal_bb, scal_ss, scal_ni, scal_in, tChain, tAug, ipI, L2.start, List.map_cons, List.map_nil, List.length_cons, List.length_nil, List.cons_append, List.nil_append, List.append_nil, List.replicate_succ, List.replicate_zero, Nat.reduceAdd, Nat.reduceSub, List.getElem?_cons_zero, List.getElem?_cons_succ, List.set_cons_zero, List.set_cons_succ, Option.some.injEq, V.int.injEq, V.bl.injEq, V.ref.injEq, V.str.injEq, exists_eq_left', exists_eq_left, exists_eq', exists_and_left, List.cons.injEq, and_true, true_and, and_self, and_assoc, decide_eq_true_eq, if_true, if_false, Bool.true_eq_false, Bool.false_eq_true, Bool.not_eq_true', Bool.not_true, Bool.not_false, decide_eq_false_iff_not, ite_true, ite_false, reduceCtorEq, false_and, exists_false, false_or, or_false, and_false, Nat.reduceLeDiff]
  have l1 : (cs.filter (· != 45)).length ≤ sizeLine := Nat.le_trans (List.length_filter_le ..) hl
  have l2 : ((cs.filter (· != 45)).filter (· != 46)).length ≤ sizeLine := Nat.le_trans (List.length_filter_le ..) l1
  refine ⟨hl, l1, l2, ?_⟩
  have str : ∀ n, cs = atxt n p.toNat → (cs.filter (· != 45)).filter (· != 46) = zf (dg n.natAbs) (p.toNat + 1) := fun n e => by rw [e, atxt_strike]
  generalize (cs.filter (· != 45)).filter (· != 46) = fs at l2 str ⊢
  split
  · rename_i h
    refine q2 (fun n w => ?_) _ (Same.refl _)
    have e := str n w.1
    have c := w.2
    unfold acnt at c
    rw [e, zf_len] at h
    omega
  rename_i h60
  refine ⟨fs, rfl, l2, fun b hb => ⟨b, rfl, ?_⟩⟩
  split
  · rename_i bf
    refine q2 (fun n w => ?_) _ (Same.refl _)
    have e := str n w.1
    have z : b = true := hb.mpr ⟨e ▸ zf_digits _ _, fun z => by
      have := zf_len n.natAbs p.toNat
      rw [← e, z] at this
      have := dg_pos (n.natAbs / 10 ^ p.toNat)
      rw [List.length_nil] at *
      omega⟩
    rw [bf] at z
    cases z
  rename_i bt
  obtain ⟨ad, ne⟩ := hb.mp (by cases b with | true => rfl | false => exact absurd rfl bt)
  refine ⟨ad, ne, by omega, ?_⟩
  have vb : PySem.NumText.digitsVal fs < 10 ^ 60 := digits_bound fs ad (by omega)
  obtain ⟨R, hR⟩ : ∃ R : St → Hp → Prop, R = fun σ' H' => H' = H ∧ ∃ n : Int, n.natAbs = PySem.NumText.digitsVal fs ∧ (0 < PySem.NumText.digitsVal fs → (n < 0 ↔ cs.head? = some 45)) ∧ σ' = [some (.str (SL cs)), some (.int p), some (.str (SL fs)), some (.int n)] := ⟨_, rfl⟩
  refine ⟨R, ?_, fun σ2 H2 h2 => ?_⟩
  · simp only [tStrike, tCallKX, kwG_one, tEither, tTupS, tLstS, comp_K, capσ, sub_nil, sub_none, sub_some, tYes, List.replicate, Option.join_some, Option.join_none, SL_inj, iStr, tPart, tNoPart, tSl, tLst, tTup, cx_K, slT, CDiv, Int.reduceLT, Int.reduceLE, Int.reduceToNat, Int.reduceNeg, Int.reduceAdd, Int.reduceSub, Int.reduceMul, forall_const, tSeq, tNext, tIfS, tRet, tRetN, tDrop, tAsg, gName, gCons, gNil, tVar, tC, tOp, rI, rI0, tUn, rU, tTest, tB, tAnd, tOr, tNot, tAndV, tOrV, tNotV, tIf, tCons, tNil, tCallX, tCallL, tCB, sRaise, rEq, rNe, scal_ii, scal_bb, scal_ss, scal_ni, scal_in, tChain, tAug, ipI, L2.start, List.map_cons, List.map_nil, List.length_cons, List.length_nil, List.cons_append, List.nil_append, List.append_nil, List.replicate_succ, List.replicate_zero, Nat.reduceAdd, Nat.reduceSub, List.getElem?_cons_zero, List.getElem?_cons_succ, List.set_cons_zero, List.set_cons_succ, Option.some.injEq, V.int.injEq, V.bl.injEq, V.ref.injEq, V.str.injEq, exists_eq_left', exists_eq_left, exists_eq', exists_and_left, List.cons.injEq, and_true, true_and, and_self, and_assoc, decide_eq_true_eq, if_true, if_false, Bool.true_eq_false, Bool.false_eq_true, Bool.not_eq_true', Bool.not_true, Bool.not_false, decide_eq_false_iff_not, ite_true, ite_false, reduceCtorEq, false_and, exists_false, false_or, or_false, and_false, Nat.reduceLeDiff, tBM]
    refine ⟨rfl, ?_⟩
    rw [hR]
    split
    · rename_i h
      exact ⟨rfl, _, by omega, fun z => ⟨fun _ => h, fun _ => by omega⟩, rfl⟩
    · rename_i h
      exact ⟨rfl, _, by omega, fun z => ⟨fun y => absurd y (by omega), fun y => absurd y h⟩, rfl⟩
  rw [hR] at h2
  obtain ⟨rfl, n, nv, ns, rfl⟩ := h2
  clear hR
  simp only [tStrike, tCallKX, kwG_one, tEither, tTupS, tLstS, comp_K, capσ, sub_nil, sub_none, sub_some, tYes, List.replicate, Option.join_some, Option.join_none, SL_inj, iStr, tPart, tNoPart, tSl, tLst, tTup, cx_K, slT, CDiv, Int.reduceLT, Int.reduceLE, Int.reduceToNat, Int.reduceNeg, Int.reduceAdd, Int.reduceSub, Int.reduceMul, forall_const, tSeq, tNext, tIfS, tRet, tRetN, tDrop, tAsg, gName, gCons, gNil, tVar, tC, tOp, rI, rI0, tUn, rU, tTest, tB, tAnd, tOr, tNot, tAndV, tOrV, tNotV, tIf, tCons, tNil, tCallX, tCallL, tCB, sRaise, rEq, rNe, scal_ii, scal_bb, scal_ss, scal_ni, scal_in, tChain, tAug, ipI, L2.start, List.map_cons, List.map_nil, List.length_cons, List.length_nil, List.cons_append, List.nil_append, List.append_nil, List.replicate_succ, List.replicate_zero, Nat.reduceAdd, Nat.reduceSub, List.getElem?_cons_zero, List.getElem?_cons_succ, List.set_cons_zero, List.set_cons_succ, Option.some.injEq, V.int.injEq, V.bl.injEq, V.ref.injEq, V.str.injEq, exists_eq_left', exists_eq_left, exists_eq', exists_and_left, List.cons.injEq, and_true, true_and, and_self, and_assoc, decide_eq_true_eq, if_true, if_false, Bool.true_eq_false, Bool.false_eq_true, Bool.not_eq_true', Bool.not_true, Bool.not_false, decide_eq_false_iff_not, ite_true, ite_false, reduceCtorEq, false_and, exists_false, false_or, or_false, and_false, Nat.reduceLeDiff]
  refine ⟨n, p, rfl, p0, p1, by omega, by omega, fun H3 s3 => ?_⟩
  try simp only [tStrike, tCallKX, kwG_one, tEither, tTupS, tLstS, comp_K, capσ, sub_nil, sub_none, sub_some, tYes, List.replicate, Option.join_some, Option.join_none, SL_inj, iStr, tPart, tNoPart, tSl, tLst, tTup, cx_K, slT, CDiv, Int.reduceLT, Int.reduceLE, Int.reduceToNat, Int.reduceNeg, Int.reduceAdd, Int.reduceSub, Int.reduceMul, forall_const, tSeq, tNext, tIfS, tRet, tRetN, tDrop, tAsg, gName, gCons, gNil, tVar, tC, tOp, rI, rI0, tUn, rU, tTest, tB, tAnd, tOr, tNot, tAndV, tOrV, tNotV, tIf, tCons, tNil, tCallX, tCallL, tCB, sRaise, rEq, rNe, scal_ii, scal_bb, scal_ss, scal_ni, scal_in, tChain, tAug, ipI, L2.start, List.map_cons, List.map_nil, List.length_cons, List.length_nil, List.cons_append, List.nil_append, List.append_nil, List.replicate_succ, List.replicate_zero, Nat.reduceAdd, Nat.reduceSub, List.getElem?_cons_zero, List.getElem?_cons_succ, List.set_cons_zero, List.set_cons_succ, Option.some.injEq, V.int.injEq, V.bl.injEq, V.ref.injEq, V.str.injEq, exists_eq_left', exists_eq_left, exists_eq', exists_and_left, List.cons.injEq, and_true, true_and, and_self, and_assoc, decide_eq_true_eq, if_true, if_false, Bool.true_eq_false, Bool.false_eq_true, Bool.not_eq_true', Bool.not_true, Bool.not_false, decide_eq_false_iff_not, ite_true, ite_false, reduceCtorEq, false_and, exists_false, false_or, or_false, and_false, Nat.reduceLeDiff]
  have key : ∀ n', cs = atxt n' p.toNat → n' = n := fun n' e => by
    have e1 := str n' e
    rw [e1, zf_val] at nv ns
    have e2 := atxt_head n' p.toNat
    rw [← e] at e2
    by_cases z : 0 < n'.natAbs
    · have t1 := ns z
      by_cases y : n' < 0
      · have := t1.mpr (e2.mpr y)
        omega
      · have : ¬ n < 0 := fun x => y (e2.mp (t1.mp x))
        omega
    · omega
  split
  · rename_i h
    exact q2 (fun n' w => h (by rw [← key n' w.1]; exact w.1.symm)) _ s3
  · rename_i h
    have e : atxt n p.toNat = cs := Classical.byContradiction h
    refine q1 n ⟨e.symm, ?_⟩ _ s3
    have e1 := str n e.symm
    unfold acnt
    rw [← zf_len, ← e1]
    omega
/-- an error of just this class (NoAmount), and of none of the eight others, which the law names in this order -/
def spAlone (t : Adr) : Sp := fun vs H Q _ => ∃ a : Addr, vs = [.ref a] ∧ H a = some (excAt a (.ref t.c_NoAmount)) ∧ ∀ H', Same H H' → Q (.bl true) H'
theorem meta_ValueError : PySem.W.kitMeta "ValueError" = true := by decide +kernel
theorem sc_xL_alone : FnScope ["_law_error", "_law_some"] ["_law_error"] (defScope s_xL_alone) := ⟨rfl, rfl, rfl, by decide +kernel, rfl, by decide +kernel, by decide +kernel⟩
theorem ok_xL_alone (T : Txt K mg t) : FnOk P w K mg base (CXE P w) 1 t.a_xL_alone t.d_xL_alone ["_law_error"] (spAlone t) := by
  refine T.fn_xL_alone.okX sc_xL_alone (fun vs H Q E h => ?_) (fun cdv A outer s H vs Q E L hr h => ?_)
  · obtain ⟨a, rfl, he, q⟩ := h
    rfl
  obtain ⟨a, rfl, he, q⟩ := h
  have nd := sc_xL_alone.nd
  refine ⟨_, (pss_cons (ps_if (pw_or (pt_not (pt_val (pe_callB call_isinst (by rfl) T.no_isinstance bb_isinstance (pa_cons (pv 0) (pa_cons (pe_ref (by rfl) T.mg_NoAmount) pa_nil star_Name) star_Name)))) (pw_or (pt_not (pt_val (pe_callB call_isinst (by rfl) T.no_isinstance bb_isinstance (pa_cons (pv 0) (pa_cons (pe_ref (by rfl) T.mg_SpanError) pa_nil star_Name) star_Name)))) (pw_or1 (pt_not (pt_val (pe_callB call_isinst (by rfl) T.no_isinstance bb_isinstance (pa_cons (pv 0) (pa_cons (pe_ty (by rfl) T.no_ValueError bb_ValueError) pa_nil star_Name) star_Name))))))).pt (pss_one (ps_ret pe_bl)) pss_nil) (pss_cons (ps_set (i := 1) nd rfl (Or.inl rfl) (pe_lstS (pa_cons (pe_callB call_isinst (by rfl) T.no_isinstance bb_isinstance (pa_cons (pv 0) (pa_cons (pe_ref (by rfl) T.mg_NoDate) pa_nil star_Name) star_Name)) (pa_cons (pe_callB call_isinst (by rfl) T.no_isinstance bb_isinstance (pa_cons (pv 0) (pa_cons (pe_ref (by rfl) T.mg_NoParts) pa_nil star_Name) star_Name)) (pa_cons (pe_callB call_isinst (by rfl) T.no_isinstance bb_isinstance (pa_cons (pv 0) (pa_cons (pe_ref (by rfl) T.mg_NoSpan) pa_nil star_Name) star_Name)) pa_nil star_Call) star_Call) star_Call))) (pss_cons (ps_set (i := 1) nd rfl (Or.inl rfl) (pe_op op_catS (pv 1) (pe_lstS (pa_cons (pe_callB call_isinst (by rfl) T.no_isinstance bb_isinstance (pa_cons (pv 0) (pa_cons (pe_ref (by rfl) T.mg_TooLong) pa_nil star_Name) star_Name)) (pa_cons (pe_callB call_isinst (by rfl) T.no_isinstance bb_isinstance (pa_cons (pv 0) (pa_cons (pe_ref (by rfl) T.mg_NoAccount) pa_nil star_Name) star_Name)) (pa_cons (pe_callB call_isinst (by rfl) T.no_isinstance bb_isinstance (pa_cons (pv 0) (pa_cons (pe_ref (by rfl) T.mg_NoEntry) pa_nil star_Name) star_Name)) pa_nil star_Call) star_Call) star_Call)))) (pss_one (ps_ret (pe_not (pe_callB (call_any (by rfl)) (by rfl) T.no_any bb_any (pa_cons (pe_op op_catS (pv 1) (pe_lstS (pa_cons (pe_callB call_isinst (by rfl) T.no_isinstance bb_isinstance (pa_cons (pv 0) (pa_cons (pe_ref (by rfl) T.mg_NoText) pa_nil star_Name) star_Name)) (pa_cons (pe_callB call_isinst (by rfl) T.no_isinstance bb_isinstance (pa_cons (pv 0) (pa_cons (pe_ref (by rfl) T.mg_NoRow) pa_nil star_Name) star_Name)) pa_nil star_Call) star_Call))) pa_nil)))))))), ?_⟩
  simp only [tStrike, tCallKX, kwG_one, tEither, tTupS, tLstS, comp_K, capσ, sub_nil, sub_none, sub_some, tYes, List.replicate, Option.join_some, Option.join_none, SL_inj, iStr, tPart, tNoPart, tSl, tLst, tTup, cx_K, slT, CDiv, Int.reduceLT, Int.reduceLE, Int.reduceToNat, Int.reduceNeg, Int.reduceAdd, Int.reduceSub, Int.reduceMul, forall_const, tSeq, tNext, tIfS, tRet, tRetN, tDrop, tAsg, gName, gCons, gNil, tVar, tC, tOp, rI, rI0, tUn, rU, tTest, tB, tAnd, tOr, tNot, tAndV, tOrV, tNotV, tIf, tCons, tNil, tCallX, tCallL, tCB, sRaise, rEq, rNe, scal_ii, scal_bb, scal_ss, scal_ni, scal_in, tChain, tAug, ipI, L2.start, List.map_cons, List.map_nil, List.length_cons, List.length_nil, List.cons_append, List.nil_append, List.append_nil, List.replicate_succ, List.replicate_zero, Nat.reduceAdd, Nat.reduceSub, List.getElem?_cons_zero, List.getElem?_cons_succ, List.set_cons_zero, List.set_cons_succ, Option.some.injEq, V.int.injEq, V.bl.injEq, V.ref.injEq, V.str.injEq, exists_eq_left', exists_eq_left, exists_eq', exists_and_left, List.cons.injEq, and_true, true_and, and_self, and_assoc, decide_eq_true_eq, if_true, if_false, Bool.true_eq_false, Bool.false_eq_true, Bool.not_eq_true', Bool.not_true, Bool.not_false, decide_eq_false_iff_not, ite_true, ite_false, reduceCtorEq, false_and, exists_false, false_or, or_false, and_false, Nat.reduceLeDiff]
  refine ⟨_, .exc he T.xc_NoAmount, _, rfl, _, kit_ref T.cl_NoAmount T.m_NoAmount_NoAmount, ?_⟩
  rw [if_neg (by decide)]
  refine ⟨_, .exc he T.xc_NoAmount, _, rfl, _, kit_ref T.cl_SpanError T.m_NoAmount_SpanError, ?_⟩
  rw [if_neg (by decide)]
  refine ⟨_, .exc he T.xc_NoAmount, _, rfl, _, kit_own_ty meta_ValueError T.m_NoAmount_ValueError, ?_⟩
  rw [if_neg (by decide)]
  refine ⟨_, .exc he T.xc_NoAmount, _, rfl, _, kit_ref T.cl_NoDate T.m_NoAmount_NoDate, ?_⟩
  refine ⟨_, .exc he T.xc_NoAmount, _, rfl, _, kit_ref T.cl_NoParts T.m_NoAmount_NoParts, ?_⟩
  refine ⟨_, .exc he T.xc_NoAmount, _, rfl, _, kit_ref T.cl_NoSpan T.m_NoAmount_NoSpan, fun p H1 _ s1 e1 => ?_⟩
  have he1 := s1 _ _ he
  refine ⟨_, .exc he1 T.xc_NoAmount, _, rfl, _, kit_ref T.cl_TooLong T.m_NoAmount_TooLong, ?_⟩
  refine ⟨_, .exc he1 T.xc_NoAmount, _, rfl, _, kit_ref T.cl_NoAccount T.m_NoAmount_NoAccount, ?_⟩
  refine ⟨_, .exc he1 T.xc_NoAmount, _, rfl, _, kit_ref T.cl_NoEntry T.m_NoAmount_NoEntry, fun p2 H2 _ s2 e2 => ?_⟩
  refine ⟨p, p2, _, _, rfl, rfl, s2 _ _ e1, e2, by decide, fun p3 H3 _ s3 e3 => ?_⟩
  have he3 := s3 _ _ (s2 _ _ he1)
  refine ⟨_, .exc he3 T.xc_NoAmount, _, rfl, _, kit_ref T.cl_NoText T.m_NoAmount_NoText, ?_⟩
  refine ⟨_, .exc he3 T.xc_NoAmount, _, rfl, _, kit_ref T.cl_NoRow T.m_NoAmount_NoRow, fun p4 H4 _ s4 e4 => ?_⟩
  refine ⟨p3, p4, _, _, rfl, rfl, s4 _ _ e3, e4, by decide, fun p5 H5 _ s5 e5 => ?_⟩
  refine ⟨p5, rfl, [false, false, false, false, false, false, false, false], SqL.of e5, ?_⟩
  exact q _ ((((s1.trans s2).trans s3).trans s4).trans s5)
def spSpoilt : Sp := fun vs H Q _ => ∃ (cs : List Nat) (c : Int), vs = [.str (SL cs), .int c] ∧ 1 ≤ cs.length ∧ cs.length ≤ 100 ∧ ∀ cs' H', Same H H' → cs'.length ≤ sizeLine → Q (.str (SL cs')) H'
theorem sc_xL_spoilt : FnScope ["_law_text", "_law_cell", "_law_signs", "_law_way", "_law_at", "_law_sign"] ["_law_text", "_law_cell"] (defScope s_xL_spoilt) := ⟨rfl, rfl, rfl, by decide +kernel, rfl, by decide +kernel, by decide +kernel⟩
theorem ok_xL_spoilt (T : Txt K mg t) : FnOkT P w K mg base (CXE P w) 1 t.a_xL_spoilt t.d_xL_spoilt ["_law_text", "_law_cell"] (spSpoilt) := by
  refine T.fn_xL_spoilt.okXT sc_xL_spoilt (fun vs H Q E h => ?_) (fun cdv A outer s H vs Q E L hr h => ?_)
  · obtain ⟨cs, c, rfl, l0, l1, q⟩ := h
    rfl
  obtain ⟨cs, c, rfl, l0, l1, q⟩ := h
  have nd := sc_xL_spoilt.nd
  refine ⟨_, (psst_cons (PS.t (ps_set (i := 2) nd rfl (Or.inl rfl) (pe_strL st_6))) (psst_cons (PS.t (ps_set (i := 3) nd rfl (Or.inl rfl) (pe_op op_mod (pv 1) pe_int))) (psst_cons (PS.t (ps_set (i := 4) nd rfl (Or.inl rfl) (pe_op op_mod (pe_op op_fdiv (pv 1) pe_int) (pe_callB call_len_s (by rfl) T.no_len bb_len (pa_cons (pv 0) pa_nil))))) (psst_cons (PS.t (ps_set (i := 5) nd rfl (Or.inl rfl) (pe_ix ix_s (pv 2) (pe_op op_mod (pe_op op_fdiv (pv 1) pe_int) (pe_callB call_len_s (by rfl) T.no_len bb_len (pa_cons (pv 2) pa_nil))) (fun _ _ => rfl)))) (psst_cons (PS.t (ps_if (pt_cmpR op_eq (pv 3) pe_int (nomark _)) (pss_one (ps_ret (pe_op op_add_s (pe_op op_add_s (pe_slice sl_str (pv 0) po_none (po_some (pv 4))) (pv 5)) (pe_slice sl_str (pv 0) (po_some (pv 4)) po_none)))) pss_nil)) (psst_cons (PS.t (ps_if (pt_cmpR op_eq (pv 3) pe_int (nomark _)) (pss_one (ps_ret (pe_op op_add_s (pe_slice sl_str (pv 0) po_none (po_some (pv 4))) (pe_slice sl_str (pv 0) (po_some (pe_op op_add (pv 4) pe_int)) po_none)))) pss_nil)) (psst_cons (PS.t (ps_if (pt_cmpR op_eq (pv 3) pe_int (nomark _)) (pss_one (ps_ret (pe_op op_add_s (pe_op op_add_s (pe_slice sl_str (pv 0) po_none (po_some (pv 4))) (pv 5)) (pe_slice sl_str (pv 0) (po_some (pe_op op_add (pv 4) pe_int)) po_none)))) pss_nil)) (psst_cons (PS.t (ps_if (pt_cmpR op_eq (pv 3) pe_int (nomark _)) (pss_one (ps_ret (pe_op op_add_s (pe_op op_add_s (pe_slice sl_str (pv 0) po_none (po_some (pv 4))) (pe_ix ix_s (pe_strL st_17) (pe_op op_mod (pe_op op_fdiv (pv 1) pe_int) pe_int) (fun _ _ => rfl))) (pe_slice sl_str (pv 0) (po_some (pv 4)) po_none)))) pss_nil)) (psst_cons (PS.t (ps_if (pt_cmpR op_eq (pv 3) pe_int (nomark _)) (pss_one (ps_ret (pe_op op_add_s (pe_ix ix_list (pe_lstS (pa_cons (pe_strL st_16) (pa_cons (pe_strL st_13) (pa_cons (pe_strL st_18) (pa_cons (pe_strL st_0) (pa_cons (pe_strL st_19) (pa_cons (pe_strL st_20) pa_nil star_Constant) star_Constant) star_Constant) star_Constant) star_Constant) star_Constant)) (pe_op op_mod (pe_op op_fdiv (pv 1) pe_int) pe_int) (fun _ _ => rfl)) (pv 0)))) pss_nil)) (psst_cons (PS.t (ps_if (pt_cmpR op_eq (pv 3) pe_int (nomark _)) (pss_one (ps_ret (pe_ix ix_list (pe_lstS (pa_cons (pe_strL st_7) (pa_cons (pe_strL st_8) (pa_cons (pe_strL st_9) (pa_cons (pe_strL st_10) (pa_cons (pe_strL st_0) (pa_cons (pe_strL st_2) (pa_cons (pe_strL st_1) (pa_cons (pe_strL st_11) (pa_cons (pe_strL st_12) (pa_cons (pe_strL st_13) (pa_cons (pe_strL st_14) (pa_cons (pe_strL st_15) pa_nil star_Constant) star_Constant) star_Constant) star_Constant) star_Constant) star_Constant) star_Constant) star_Constant) star_Constant) star_Constant) star_Constant) star_Constant)) (pe_op op_mod (pe_op op_fdiv (pv 1) pe_int) pe_int) (fun _ _ => rfl)))) pss_nil)) (psst_cons (pst_if (PT.t (pt_cmpR op_eq (pv 3) pe_int (nomark _))) (psst_one (pst_ret (pet_ix ix_list (pet_lstS (patT_cons (petT_replace (by decide +kernel) (by decide +kernel) (PE.t (pv 0))) (patT_cons (PE.t (pe_op op_add_s (pv 0) (pe_strL st_2))) (patT_cons (PE.t (pe_op op_add_s (pv 0) (pe_strL st_21))) (patT_cons (petT_replace (by decide +kernel) (by decide +kernel) (PE.t (pv 0))) (PA.t pa_nil)))))) (pe_op op_mod (pe_op op_fdiv (pv 1) pe_int) pe_int) (fun _ _ => rfl)))) (PSs.t pss_nil)) (PSs.t (pss_cons (ps_if (pt_cmpR op_eq (pv 3) pe_int (nomark _)) (pss_one (ps_ret (pe_op op_add_s (pv 0) (pe_op op_mul_s (pe_strL st_16) (pe_op op_mod (pe_op op_fdiv (pv 1) pe_int) pe_int))))) pss_nil) (pss_cons (ps_if (pt_cmpR op_eq (pv 3) pe_int (nomark _)) (pss_one (ps_ret (pe_op op_add_s (pe_op op_add_s (pe_op op_mul_s (pe_strL st_23) (pe_op op_add pe_int (pe_op op_mod (pe_op op_fdiv (pv 1) pe_int) pe_int))) (pe_op op_mul_s (pe_strL st_24) (pe_op op_mod (pe_op op_fdiv (pv 1) pe_int) pe_int))) (pe_slice sl_str (pv 0) (po_some (pe_un un_neg pe_int)) po_none)))) pss_nil) (pss_cons (ps_if (pt_cmpR op_eq (pv 3) pe_int (nomark _)) (pss_one (ps_ret (pe_ix ix_list (pe_lstS (pa_cons (pe_op op_add_s (pv 0) (pe_strL st_20)) (pa_cons (pe_op op_add_s (pe_strL st_20) (pv 0)) (pa_cons (pe_op op_add_s (pv 0) (pe_strL st_25)) (pa_cons (pe_slice sl_str (pv 0) (po_some pe_int) po_none) (pa_cons (pe_slice sl_str (pv 0) po_none (po_some (pe_un un_neg pe_int))) pa_nil star_Subscript) star_Subscript) star_BinOp) star_BinOp) star_BinOp)) (pe_op op_mod (pe_op op_fdiv (pv 1) pe_int) pe_int) (fun _ _ => rfl)))) pss_nil) (pss_one (ps_ret (pv 0)))))))))))))))))), ?_⟩
  simp only [tStrike, tCallKX, kwG_one, tEither, tTupS, tLstS, comp_K, capσ, sub_nil, sub_none, sub_some, tYes, List.replicate, Option.join_some, Option.join_none, SL_inj, iStr, tPart, tNoPart, tSl, tLst, tTup, cx_K, slT, CDiv, Int.reduceLT, Int.reduceLE, Int.reduceToNat, Int.reduceNeg, Int.reduceAdd, Int.reduceSub, Int.reduceMul, forall_const, tSeq, tNext, tIfS, tRet, tRetN, tDrop, tAsg, gName, gCons, gNil, tVar, tC, tOp, rI, rI0, tUn, rU, tTest, tB, tAnd, tOr, tNot, tAndV, tOrV, tNotV, tIf, tCons, tNil, tCallX, tCallL, tCB, sRaise, rEq, rNe, scal_ii, scal_bb, scal_ss, scal_ni, scal_in, tChain, tAug, ipI, L2.start, List.map_cons, List.map_nil, List.length_cons, List.length_nil, List.cons_append, List.nil_append, List.append_nil, List.replicate_succ, List.replicate_zero, Nat.reduceAdd, Nat.reduceSub, List.getElem?_cons_zero, List.getElem?_cons_succ, List.set_cons_zero, List.set_cons_succ, Option.some.injEq, V.int.injEq, V.bl.injEq, V.ref.injEq, V.str.injEq, exists_eq_left', exists_eq_left, exists_eq', exists_and_left, List.cons.injEq, and_true, true_and, and_self, and_assoc, decide_eq_true_eq, if_true, if_false, Bool.true_eq_false, Bool.false_eq_true, Bool.not_eq_true', Bool.not_true, Bool.not_false, decide_eq_false_iff_not, ite_true, ite_false, reduceCtorEq, false_and, exists_false, false_or, or_false, and_false, Nat.reduceLeDiff, tRepl]
  have sm : ∀ {k : Nat}, k ≤ 3000 → k ≤ sizeLine := fun h => Nat.le_trans h (by decide)
  have cl : ∀ lo hi, (cutC cs lo hi).length ≤ cs.length := fun lo hi => cutC_len cs lo hi
  have rf : ∀ (k : Nat) (ds : List Nat), (List.replicate k ds).flatten.length = k * ds.length := fun k ds => by simp
  have a1 := cl none (some (c / 14 % ((cs.length : Nat) : Int)))
  have a2 := cl (some (c / 14 % ((cs.length : Nat) : Int))) none
  have a3 := cl (some (c / 14 % ((cs.length : Nat) : Int) + 1)) none
  have a4 := cl (some (-4)) none
  have a5 := cl (some 1) none
  have a6 := cl none (some (-1))
  have pick : ∀ (ys : List (List Nat)) (i : Int) (H0 : Hp) (K0 : VK), 0 ≤ i → i < ys.length → (∀ y ∈ ys, ∀ p H', Same H0 H' → K0 (.str (SL y)) H') → New H0 (.lst (ys.map fun y => V.str (SL y))) fun x H1 => rIxL K x (.int i) H1 K0 := fun ys i H0 K0 i0 i1 h p H' _ s' e => by
    obtain ⟨y, hy, ea⟩ := at_strs i0 i1
    exact ixL (SqL.of e) ea (h y hy p H' s')
  refine ⟨sm (by omega), by omega, by decide, ex_at (by omega) (by simp only [List.length_cons, List.length_nil]; omega) (fun x _ => ?_)⟩
  refine ite_of (fun _ => ?_) (fun _ => ?_)
  · refine ⟨sm (by omega), sm ?_, sm (by omega), sm ?_, q _ _ (Same.refl _) (sm ?_)⟩ <;> (first | omega | (simp only [List.length_append, List.length_cons, List.length_nil]; omega))
  refine ite_of (fun _ => ?_) (fun _ => ?_)
  · refine ⟨sm (by omega), sm (by omega), sm ?_, q _ _ (Same.refl _) (sm ?_)⟩ <;> (first | omega | (simp only [List.length_append, List.length_cons, List.length_nil]; omega))
  refine ite_of (fun _ => ?_) (fun _ => ?_)
  · refine ⟨sm (by omega), sm ?_, sm (by omega), sm ?_, q _ _ (Same.refl _) (sm ?_)⟩ <;> (first | omega | (simp only [List.length_append, List.length_cons, List.length_nil]; omega))
  refine ite_of (fun _ => ?_) (fun _ => ?_)
  · refine ⟨sm (by omega), ex_at (by omega) (by simp only [List.length_cons, List.length_nil]; omega) (fun x _ => ?_)⟩
    refine ⟨sm ?_, sm (by omega), sm ?_, q _ _ (Same.refl _) (sm ?_)⟩ <;> (first | omega | (simp only [List.length_append, List.length_cons, List.length_nil]; omega))
  refine ite_of (fun _ => ?_) (fun _ => ?_)
  · refine pick [[48], [48, 48], [43], [45], [45, 45], [32]] _ _ _ (by omega) (by simp only [List.length_cons, List.length_nil]; omega) (fun y hy p H' s' => ?_)
    have yl : y.length ≤ 2 := (by decide : ∀ y ∈ [[48], [48, 48], [43], [45], [45, 45], [32]], y.length ≤ 2) y hy
    exact ⟨y, rfl, sm (by omega), q _ _ s' (sm (by rw [List.length_append]; omega))⟩
  refine ite_of (fun _ => ?_) (fun _ => ?_)
  · refine pick [[45, 48], [45, 48, 46, 48, 48], [48, 46], [46, 48, 48], [45], [46], [], [45, 46, 53], [48, 46, 48], [48, 48], [48, 46, 48, 48, 48, 48, 48, 48], [45, 48, 46, 48, 48, 48, 48, 48, 48]] _ _ _ (by omega) (by simp only [List.length_cons, List.length_nil]; omega) (fun y hy p H' s' => q _ _ s' (sm ?_))
    have := (by decide : ∀ y ∈ [[45, 48], [45, 48, 46, 48, 48], [48, 46], [46, 48, 48], [45], [46], [], [45, 46, 53], [48, 46, 48], [48, 48], [48, 46, 48, 48, 48, 48, 48, 48], [45, 48, 46, 48, 48, 48, 48, 48, 48]], y.length ≤ 9) y hy
    omega
  refine ite_of (fun _ => ?_) (fun _ => ?_)
  · refine ⟨by omega, fun c1 l1' => ⟨sm (by omega), sm (by omega), by omega, fun c2 l2' => ?_⟩⟩
    refine pick [c1, cs ++ [46], cs ++ [46, 48], c2] _ _ _ (by omega) (by simp only [List.length_cons, List.length_nil]; omega) (fun y hy p H' s' => q _ _ s' ?_)
    simp only [List.mem_cons, List.not_mem_nil, or_false] at hy
    rcases hy with rfl | rfl | rfl | rfl
    · exact l1'
    · exact sm (by simp only [List.length_append, List.length_cons, List.length_nil]; omega)
    · exact sm (by simp only [List.length_append, List.length_cons, List.length_nil]; omega)
    · exact l2'
  refine ite_of (fun _ => ?_) (fun _ => ?_)
  · refine ⟨(c / 14 % 3).toNat, by omega, by omega, ?_⟩
    have e := rf (c / 14 % 3).toNat [48]
    simp only [List.length_cons, List.length_nil] at e
    exact ⟨sm (by omega), q _ _ (Same.refl _) (sm (by rw [List.length_append]; omega))⟩
  refine ite_of (fun _ => ?_) (fun _ => ?_)
  · refine ⟨(6 + c / 14 % 2).toNat, by omega, by omega, (c / 28 % 9).toNat, by omega, by omega, ?_⟩
    have e1 := rf (6 + c / 14 % 2).toNat [49, 50, 51, 52, 53, 54, 55, 56, 57]
    have e2 := rf (c / 28 % 9).toNat [49]
    simp only [List.length_cons, List.length_nil] at e1 e2
    refine ⟨sm (by omega), sm (by omega), sm (by rw [List.length_append]; omega), q _ _ (Same.refl _) (sm (by rw [List.length_append, List.length_append]; omega))⟩
  refine ite_of (fun _ => ?_) (fun _ => ?_)
  · refine ⟨sm (by omega), sm (by omega), sm (by omega), sm (by omega), sm (by omega), ?_⟩
    refine pick [cs ++ [32], 32 :: cs, cs ++ [10], cutC cs (some 1) none, cutC cs none (some (-1))] _ _ _ (by omega) (by simp only [List.length_cons, List.length_nil]; omega) (fun y hy p H' s' => q _ _ s' (sm ?_))
    simp only [List.mem_cons, List.not_mem_nil, or_false] at hy
    rcases hy with rfl | rfl | rfl | rfl | rfl <;> (first | omega | (simp only [List.length_append, List.length_cons, List.length_nil]; omega))
  · exact q _ _ (Same.refl _) (sm (by omega))
def spDue : Sp := fun vs H Q _ => ∃ (cs : List Nat) (p : Int), vs = [.str (SL cs), .int p] ∧ cs.length ≤ sizeLine ∧ 0 ≤ p ∧ p ≤ 6 ∧ (∀ n, Written cs p.toNat n → ∀ H', Same H H' → Q (.int n) H') ∧ ((∀ n, ¬ Written cs p.toNat n) → ∀ H', Same H H' → Q .non H')
theorem sc_xL_due : FnScope ["_law_text", "_law_behind", "_law_below", "_law_number", "_law_point", "_law_figures", "_law_start", "_law_k", "_law_end"] ["_law_text", "_law_behind"] (defScope s_xL_due) := ⟨rfl, rfl, rfl, by decide +kernel, rfl, by decide +kernel, by decide +kernel⟩
theorem ok_xL_due (T : Txt K mg t) : FnOk P w K mg base (CXE P w) 1 t.a_xL_due t.d_xL_due ["_law_text", "_law_behind"] (spDue) := by
  refine T.fn_xL_due.okX sc_xL_due (fun vs H Q E h => ?_) (fun cdv A outer s H vs Q E L hr h => ?_)
  · obtain ⟨cs, p, rfl, hl, p0, p1, q1, q2⟩ := h
    rfl
  obtain ⟨cs, p, rfl, hl, p0, p1, q1, q2⟩ := h
  have nd := sc_xL_due.nd
  refine ⟨_, (pss_cons (ps_set (i := 2) nd rfl (Or.inl rfl) (pe_cmpR op_eq (pe_slice sl_str (pv 0) po_none (po_some pe_int)) (pe_strL st_0) (nomark _))) (pss_cons (ps_set (i := 3) nd rfl (Or.inl rfl) pe_int) (pss_cons (ps_set (i := 4) nd rfl (Or.inl rfl) (pe_un un_neg pe_int)) (pss_cons (ps_set (i := 5) nd rfl (Or.inl rfl) pe_int) (pss_cons (ps_set (i := 6) nd rfl (Or.inl rfl) (pe_callTy call_int1 (by rfl) T.no_int bb_int (pa_cons (pv 2) pa_nil))) (pss_cons (ps_for (by passes_own) rfl (pi_range2 (by rfl) T.no_range (pa_cons (pv 6) (pa_cons (pe_callB call_len_s (by rfl) T.no_len bb_len (pa_cons (pv 0) pa_nil)) pa_nil star_Call) star_Name)) (pg_name (i := 7) nd rfl (Or.inl rfl)) (pss_one (ps_if (pw_and (pt_cmpR op_eq (pe_ix ix_s (pv 0) (pv 7) (fun _ _ => rfl)) (pe_strL st_2) (nomark _)) (pw_and1 (pt_cmpR op_lt (pv 4) pe_int (nomark _)))).pt (pss_one (ps_set (i := 4) nd rfl (Or.inl rfl) (pv 7))) (pss_one (ps_if (pt_cmpR op_in_s (pe_ix ix_s (pv 0) (pv 7) (fun _ _ => rfl)) (pe_strL st_26) rfl) (pss_cons (ps_set (i := 3) nd rfl (Or.inl rfl) (pe_op op_sub (pe_op op_add (pe_op op_mul (pv 3) pe_int) (pe_callB call_ord_s (by rfl) T.no_ord bb_ord (pa_cons (pe_ix ix_s (pv 0) (pv 7) (fun _ _ => rfl)) pa_nil))) pe_int)) (pss_one (ps_set (i := 5) nd rfl (Or.inl rfl) (pe_op op_add (pv 5) pe_int)))) (pss_one (ps_ret pe_non))))))) (pss_cons (ps_set (i := 8) nd rfl (Or.inl rfl) (pe_ix ix_list (pe_lstS (pa_cons (pv 4) (pa_cons (pe_callB call_len_s (by rfl) T.no_len bb_len (pa_cons (pv 0) pa_nil)) pa_nil star_Call) star_Name)) (pe_callTy call_int1 (by rfl) T.no_int bb_int (pa_cons (pe_cmpR op_lt (pv 4) pe_int (nomark _)) pa_nil)) (fun _ _ => rfl))) (pss_cons (ps_if (pw_or (pt_cmpR op_eq (pv 8) (pv 6) (nomark _)) (pw_or (pt_cmpR op_ne (pe_cmpR op_lt (pv 4) pe_int (nomark _)) (pe_cmpR op_eq (pv 1) pe_int (nomark _)) (nomark _)) (pw_or1 (pw_and (pt_cmpR op_ge (pv 4) pe_int (nomark _)) (pw_and1 (pt_cmpR op_ne (pe_op op_sub (pe_op op_sub (pe_callB call_len_s (by rfl) T.no_len bb_len (pa_cons (pv 0) pa_nil)) pe_int) (pv 4)) (pv 1) (nomark _)))).pt))).pt (pss_one (ps_ret pe_non)) pss_nil) (pss_cons (ps_if (pw_or (pw_and (pt_cmpR op_eq (pe_ix ix_s (pv 0) (pv 6) (fun _ _ => rfl)) (pe_strL st_16) (nomark _)) (pw_and1 (pt_cmpR op_gt (pe_op op_sub (pv 8) (pv 6)) pe_int (nomark _)))).pt (pw_or (pt_cmpR op_gt (pv 5) pe_int (nomark _)) (pw_or1 (pw_and (pt_val (pv 2)) (pw_and1 (pt_cmpR op_eq (pv 3) pe_int (nomark _)))).pt))).pt (pss_one (ps_ret pe_non)) pss_nil) (pss_one (ps_ret (pe_ix ix_list (pe_lstS (pa_cons (pv 3) (pa_cons (pe_op op_sub pe_int (pv 3)) pa_nil star_BinOp) star_Name)) (pe_callTy call_int1 (by rfl) T.no_int bb_int (pa_cons (pv 2) pa_nil)) (fun _ _ => rfl))))))))))))), ?_⟩
  simp only [tStrike, tCallKX, kwG_one, tEither, tTupS, tLstS, comp_K, capσ, sub_nil, sub_none, sub_some, tYes, List.replicate, Option.join_some, Option.join_none, SL_inj, iStr, tPart, tNoPart, tSl, tLst, tTup, cx_K, slT, CDiv, Int.reduceLT, Int.reduceLE, Int.reduceToNat, Int.reduceNeg, Int.reduceAdd, Int.reduceSub, Int.reduceMul, forall_const, tSeq, tNext, tIfS, tRet, tRetN, tDrop, tAsg, gName, gCons, gNil, tVar, tC, tOp, rI, rI0, tUn, rU, tTest, tB, tAnd, tOr, tNot, tAndV, tOrV, tNotV, tIf, tCons, tNil, tCallX, tCallL, tCB, sRaise, rEq, rNe, scal_ii, scal_bb, scal_ss, scal_ni, scal_in, tChain, tAug, ipI, L2.start, List.map_cons, List.map_nil, List.length_cons, List.length_nil, List.cons_append, List.nil_append, List.append_nil, List.replicate_succ, List.replicate_zero, Nat.reduceAdd, Nat.reduceSub, List.getElem?_cons_zero, List.getElem?_cons_succ, List.set_cons_zero, List.set_cons_succ, Option.some.injEq, V.int.injEq, V.bl.injEq, V.ref.injEq, V.str.injEq, exists_eq_left', exists_eq_left, exists_eq', exists_and_left, List.cons.injEq, and_true, true_and, and_self, and_assoc, decide_eq_true_eq, if_true, if_false, Bool.true_eq_false, Bool.false_eq_true, Bool.not_eq_true', Bool.not_true, Bool.not_false, decide_eq_false_iff_not, ite_true, ite_false, reduceCtorEq, false_and, exists_false, false_or, or_false, and_false, Nat.reduceLeDiff]
  refine ⟨hl, ?_⟩
  have hd : cutC cs none (some 1) = [45] ↔ cs.head? = some 45 := by
    rw [cutC_one]
    cases cs with
    | nil => simp
    | cons c r => simp
  obtain ⟨below, hb⟩ : ∃ below : Bool, below = decide (cutC cs none (some 1) = [45]) := ⟨_, rfl⟩
  obtain ⟨st, hst⟩ : ∃ st : Nat, st = if below = true then 1 else 0 := ⟨_, rfl⟩
  have est : (if cutC cs none (some 1) = [45] then (1 : Int) else 0) = (st : Int) := by
    rw [hst, hb]
    by_cases z : cutC cs none (some 1) = [45]
    · rw [if_pos z, decide_eq_true z]; rfl
    · rw [if_neg z, decide_eq_false z]; rfl
  rw [← hb, est]
  have bl : below = true ↔ cs.head? = some 45 := by rw [hb, decide_eq_true_iff]; exact hd
  obtain ⟨r, hr'⟩ : ∃ r, r = cs.drop st := ⟨_, rfl⟩
  have ecs : cs = (if below = true then [45] else []) ++ r := by
    rw [hr', hst]
    cases hbb : below with
    | true =>
      have := bl.mp hbb
      cases cs with
      | nil => cases this
      | cons c t =>
        have : c = 45 := Option.some.inj this
        subst this
        rfl
    | false => rfl
  have wr : ∀ n, Written cs p.toNat n → (n < 0 ↔ below = true) ∧ r = abody n p.toNat ∧ acnt n p.toNat ≤ 60 := fun n w => by
    have h1 := atxt_head n p.toNat
    rw [← w.1, ← bl] at h1
    refine ⟨h1.symm, ?_, w.2⟩
    have e := w.1
    rw [atxt_body, ecs] at e
    by_cases z : n < 0
    · rw [if_pos z, if_pos (h1.mpr z)] at e
      exact List.append_cancel_left e
    · rw [if_neg z, if_neg (fun y => z (h1.mp y))] at e
      exact e
  have rl : r.length + st = cs.length := by
    have := congrArg List.length ecs
    rw [List.length_append] at this
    rw [hst]
    cases below with
    | true => rw [if_pos rfl] at this ⊢; simp at this; omega
    | false => rw [if_neg (by decide)] at this ⊢; simp at this; omega
  have rg : ∀ i, cs[st + i]? = r[i]? := fun i => by rw [hr', List.getElem?_drop]
  ((try dsimp only); refine for_by fun R hR => ?_; simp only [tStrike, tCallKX, kwG_one, tEither, tTupS, tLstS, comp_K, capσ, sub_nil, sub_none, sub_some, tYes, List.replicate, Option.join_some, Option.join_none, SL_inj, iStr, tPart, tNoPart, tSl, tLst, tTup, cx_K, slT, CDiv, Int.reduceLT, Int.reduceLE, Int.reduceToNat, Int.reduceNeg, Int.reduceAdd, Int.reduceSub, Int.reduceMul, forall_const, tSeq, tNext, tIfS, tRet, tRetN, tDrop, tAsg, gName, gCons, gNil, tVar, tC, tOp, rI, rI0, tUn, rU, tTest, tB, tAnd, tOr, tNot, tAndV, tOrV, tNotV, tIf, tCons, tNil, tCallX, tCallL, tCB, sRaise, rEq, rNe, scal_ii, scal_bb, scal_ss, scal_ni, scal_in, tChain, tAug, ipI, L2.start, List.map_cons, List.map_nil, List.length_cons, List.length_nil, List.cons_append, List.nil_append, List.append_nil, List.replicate_succ, List.replicate_zero, Nat.reduceAdd, Nat.reduceSub, List.getElem?_cons_zero, List.getElem?_cons_succ, List.set_cons_zero, List.set_cons_succ, Option.some.injEq, V.int.injEq, V.bl.injEq, V.ref.injEq, V.str.injEq, exists_eq_left', exists_eq_left, exists_eq', exists_and_left, List.cons.injEq, and_true, true_and, and_self, and_assoc, decide_eq_true_eq, if_true, if_false, Bool.true_eq_false, Bool.false_eq_true, Bool.not_eq_true', Bool.not_true, Bool.not_false, decide_eq_false_iff_not, ite_true, ite_false, reduceCtorEq, false_and, exists_false, false_or, or_false, and_false, iList, iTup, iZip, iRng1, iRng2, Nat.reduceLeDiff])
  have l24 : cs.length ≤ 16777216 := by rw [sizeLine_eq] at hl; exact hl
  have s1' : st ≤ 1 := by rw [hst]; split <;> omega
  refine ⟨hl, by omega, by omega, by omega, by omega, hR _ _ ?_⟩
  clear hR
  have nl : ((cs.length : Int) - (st : Int)).toNat = r.length := by omega
  rw [nl]
  obtain ⟨pv, hpv⟩ : ∃ pv : Option Nat → Int, pv = fun pt => match pt with | none => -1 | some a => ((st + a : Nat) : Int) := ⟨_, rfl⟩
  have pvn : pv none = -1 := by rw [hpv]
  have pvs : ∀ a, pv (some a) = ((st + a : Nat) : Int) := fun a => by rw [hpv]
  refine for_range (fun i σ1 H1 => H1 = H ∧ ∃ pt num fg x7, Sh (r.take i) pt num fg ∧ σ1 = [some (.str (SL cs)), some (.int p), some (.bl below), some (.int ((num : Nat) : Int)), some (.int (pv pt)), some (.int ((fg : Nat) : Int)), some (.int (st : Int)), x7, none]) ⟨rfl, none, 0, 0, _, Sh.nil, by rw [pvn]; rfl⟩ (fun i σ1 H1 hi h => ?_) (fun σ1 H1 h => ?_)
  · obtain ⟨rfl, pt, num, fg, x7, sh, rfl⟩ := h
    obtain ⟨c, hc⟩ : ∃ c, r[i]? = some c := ⟨r[i], List.getElem?_eq_getElem hi⟩
    have et : r.take (i + 1) = r.take i ++ [c] := by rw [List.take_add_one, hc]; rfl
    have hat : atI cs ((st : Int) + (i : Int)) = some c := by
      rw [← Int.natCast_add]
      exact atI_nat (by rw [rg]; exact hc)
    have er : r = r.take i ++ c :: r.drop (i + 1) := by
      obtain ⟨h1, h2⟩ := List.getElem?_eq_some_iff.mp hc
      rw [← h2, ← List.drop_eq_getElem_cons h1, List.take_append_drop]
    simp only [tStrike, tCallKX, kwG_one, tEither, tTupS, tLstS, comp_K, capσ, sub_nil, sub_none, sub_some, tYes, List.replicate, Option.join_some, Option.join_none, SL_inj, iStr, tPart, tNoPart, tSl, tLst, tTup, cx_K, slT, CDiv, Int.reduceLT, Int.reduceLE, Int.reduceToNat, Int.reduceNeg, Int.reduceAdd, Int.reduceSub, Int.reduceMul, forall_const, tSeq, tNext, tIfS, tRet, tRetN, tDrop, tAsg, gName, gCons, gNil, tVar, tC, tOp, rI, rI0, tUn, rU, tTest, tB, tAnd, tOr, tNot, tAndV, tOrV, tNotV, tIf, tCons, tNil, tCallX, tCallL, tCB, sRaise, rEq, rNe, scal_ii, scal_bb, scal_ss, scal_ni, scal_in, tChain, tAug, ipI, L2.start, List.map_cons, List.map_nil, List.length_cons, List.length_nil, List.cons_append, List.nil_append, List.append_nil, List.replicate_succ, List.replicate_zero, Nat.reduceAdd, Nat.reduceSub, List.getElem?_cons_zero, List.getElem?_cons_succ, List.set_cons_zero, List.set_cons_succ, Option.some.injEq, V.int.injEq, V.bl.injEq, V.ref.injEq, V.str.injEq, exists_eq_left', exists_eq_left, exists_eq', exists_and_left, List.cons.injEq, and_true, true_and, and_self, and_assoc, decide_eq_true_eq, if_true, if_false, Bool.true_eq_false, Bool.false_eq_true, Bool.not_eq_true', Bool.not_true, Bool.not_false, decide_eq_false_iff_not, ite_true, ite_false, reduceCtorEq, false_and, exists_false, false_or, or_false, and_false, Nat.reduceLeDiff]
    refine ⟨hl, c, hat, ?_⟩
    have ptlt : pv pt < 0 ↔ pt = none := by
      cases pt with
      | none => rw [pvn]; exact ⟨fun _ => rfl, fun _ => by decide⟩
      | some a => rw [pvs]; exact ⟨fun z => absurd z (by omega), fun z => nomatch z⟩
    have bad : ¬ (48 ≤ c ∧ c ≤ 57) → ¬ (c = 46 ∧ pt = none) → Q .non H1 := fun h1 h2 => q2 (fun n w => by
      obtain ⟨_, e, _⟩ := wr n w
      rcases abody_bad (e.symm.trans er) with z | ⟨z, ad⟩
      · exact h1 z
      · refine h2 ⟨z, ?_⟩
        cases pt with
        | none => rfl
        | some a =>
          obtain ⟨A, B, e', _⟩ := sh
          have := ad 46 (by rw [e']; exact List.mem_append_right _ List.mem_cons_self)
          omega) _ (Same.refl _)
    by_cases c46 : c = 46
    · rw [if_pos c46]
      split
      · rename_i z
        obtain rfl := ptlt.mp z
        refine ⟨some (r.take i).length, num, fg, ?_, rfl, ?_, rfl⟩
        · rw [et, c46]
          exact sh.pnt
        · rw [pvs, List.length_take]
          omega
      · rename_i z
        refine ⟨hl, c, hat, ?_⟩
        rw [if_neg (fun y => by have := (in_digits c).mp y; omega)]
        exact bad (by omega) (fun y => z (ptlt.mpr y.2))
    · rw [if_neg c46]
      refine ⟨hl, c, hat, ?_⟩
      by_cases ok : 48 ≤ c ∧ c ≤ 57
      · rw [if_pos ((in_digits c).mpr ok)]
        refine ⟨.inr ⟨by decide, by decide⟩, hl, c, hat, pt, num * 10 + (c - 48), fg + 1, ?_, by omega, rfl, by omega⟩
        rw [et]
        exact sh.fig ok.1 ok.2
      · rw [if_neg (fun y => ok ((in_digits c).mp y))]
        exact bad ok (fun y => c46 y.1)
  · obtain ⟨rfl, pt, num, fg, x7, sh, rfl⟩ := h
    rw [List.take_length] at sh
    simp only [tStrike, tCallKX, kwG_one, tEither, tTupS, tLstS, comp_K, capσ, sub_nil, sub_none, sub_some, tYes, List.replicate, Option.join_some, Option.join_none, SL_inj, iStr, tPart, tNoPart, tSl, tLst, tTup, cx_K, slT, CDiv, Int.reduceLT, Int.reduceLE, Int.reduceToNat, Int.reduceNeg, Int.reduceAdd, Int.reduceSub, Int.reduceMul, forall_const, tSeq, tNext, tIfS, tRet, tRetN, tDrop, tAsg, gName, gCons, gNil, tVar, tC, tOp, rI, rI0, tUn, rU, tTest, tB, tAnd, tOr, tNot, tAndV, tOrV, tNotV, tIf, tCons, tNil, tCallX, tCallL, tCB, sRaise, rEq, rNe, scal_ii, scal_bb, scal_ss, scal_ni, scal_in, tChain, tAug, ipI, L2.start, List.map_cons, List.map_nil, List.length_cons, List.length_nil, List.cons_append, List.nil_append, List.append_nil, List.replicate_succ, List.replicate_zero, Nat.reduceAdd, Nat.reduceSub, List.getElem?_cons_zero, List.getElem?_cons_succ, List.set_cons_zero, List.set_cons_succ, Option.some.injEq, V.int.injEq, V.bl.injEq, V.ref.injEq, V.str.injEq, exists_eq_left', exists_eq_left, exists_eq', exists_and_left, List.cons.injEq, and_true, true_and, and_self, and_assoc, decide_eq_true_eq, if_true, if_false, Bool.true_eq_false, Bool.false_eq_true, Bool.not_eq_true', Bool.not_true, Bool.not_false, decide_eq_false_iff_not, ite_true, ite_false, reduceCtorEq, false_and, exists_false, false_or, or_false, and_false, Nat.reduceLeDiff]
    refine ⟨hl, fun p2 H2 _ s2 e2 => ?_⟩
    have sw : ∀ n, Written cs p.toNat n → (n < 0 ↔ below = true) ∧ acnt n p.toNat ≤ 60 ∧ r = abody n p.toNat ∧ num = n.natAbs ∧ fg = acnt n p.toNat ∧ (pt = none ↔ p.toNat = 0) ∧ ∀ a, pt = some a → a = (dg (n.natAbs / 10 ^ p.toNat)).length ∧ r.length = a + 1 + p.toNat := fun n w => by
      obtain ⟨h1, h2, h3⟩ := wr n w
      have sh' := sh
      rw [h2] at sh'
      obtain ⟨g1, g2, g3, g4⟩ := sh_written sh'
      exact ⟨h1, h3, h2, g1, g2, g3, fun a z => by rw [h2]; exact g4 a z⟩
    have no : (∀ n, ¬ Written cs p.toNat n) → Q .non H2 := fun z => q2 z _ s2
    have tail : (fg ≤ 60 → (below = true → num ≠ 0) → Written cs p.toNat (if below = true then -(num : Int) else (num : Int))) →
        (if (60 : Int) < (fg : Int) then Q .non H2 else if below = true then if (num : Int) = 0 then Q .non H2 else New H2 (.lst [.int (num : Int), .int (0 - (num : Int))]) (fun x H1 => rIxL K x (.int (if below = true then 1 else 0)) H1 Q)
          else New H2 (.lst [.int (num : Int), .int (0 - (num : Int))]) (fun x H1 => rIxL K x (.int (if below = true then 1 else 0)) H1 Q)) := fun W => by
      split
      · rename_i z
        exact no fun n w => by have := sw n w; omega
      rename_i z
      cases hbb : below with
      | true =>
        rw [if_pos rfl]
        split
        · rename_i y
          exact no fun n w => by
            obtain ⟨h1, _, _, h2, _⟩ := sw n w
            have := h1.mpr hbb
            omega
        · rename_i y
          intro p3 H3 _ s3 e3
          have w := W (by omega) (fun _ => by omega)
          rw [hbb, if_pos rfl] at w
          have q := q1 _ w H3 (s2.trans s3)
          rw [show -(num : Int) = 0 - (num : Int) by omega] at q
          exact ixL (SqL.of e3) (v := .int (0 - (num : Int))) rfl q
      | false =>
        rw [if_neg (by decide)]
        intro p3 H3 _ s3 e3
        have w := W (by omega) (fun y => by rw [hbb] at y; cases y)
        rw [hbb, if_neg (by decide)] at w
        exact ixL (SqL.of e3) (v := .int (num : Int)) rfl (q1 _ w H3 (s2.trans s3))
    have h0 : ∀ c0, r[0]? = some c0 → atI cs (st : Int) = some c0 := fun c0 h => atI_nat (by have := rg 0; rw [Nat.add_zero] at this; rw [this]; exact h)
    cases pt with
    | none =>
      rw [pvn] at e2 ⊢
      obtain ⟨ad, nv, fv⟩ := sh
      refine ixL (SqL.of e2) (v := .int (cs.length : Int)) rfl ⟨rfl, ?_⟩
      split
      · rename_i z
        have z' : (cs.length : Int) = (st : Int) := V.int.inj z
        exact no fun n w => by
          obtain ⟨_, _, h2, _⟩ := sw n w
          have := congrArg List.length h2
          unfold abody at this
          rw [List.length_append] at this
          have := dg_pos (n.natAbs / 10 ^ p.toNat)
          omega
      rename_i z
      have rn : r ≠ [] := fun y => z (by rw [y, List.length_nil] at rl; rw [show (cs.length : Int) = (st : Int) by omega])
      split
      · rename_i y
        exact no fun n w => by
          have h := (sw n w).2.2.2.2.2.1.mp rfl
          exact y (by rw [decide_eq_true (show p = 0 by omega)]; rfl)
      rename_i y
      have pz : p = 0 := by
        have y' : decide ((-1 : Int) < 0) = decide (p = 0) := Classical.byContradiction y
        rw [show decide ((-1 : Int) < 0) = true from rfl] at y'
        exact of_decide_eq_true y'.symm
      rw [if_neg (by decide)]
      obtain ⟨c0, rest, rfl⟩ : ∃ c0 rest, r = c0 :: rest := by
        cases r with
        | nil => exact absurd rfl rn
        | cons c0 rest => exact ⟨c0, rest, rfl⟩
      have W : ((c0 :: rest).head? = some 48 → (c0 :: rest).length ≤ 1) → fg ≤ 60 → (below = true → num ≠ 0) → Written cs p.toNat (if below = true then -(num : Int) else (num : Int)) := fun a1 a2 a3 => by
        have := sh_reads (r := c0 :: rest) (A := c0 :: rest) (B := []) (p := p.toNat) (below := below) ad (fun c h => nomatch h) (by rw [if_pos (by omega), List.append_nil]) (by rw [pz]; rfl) rn a1 (by rw [List.length_nil, ← fv]; omega) (by rw [List.append_nil, ← nv]; exact a3)
        rw [List.append_nil, ← nv, ← ecs] at this
        exact this
      refine ⟨hl, c0, h0 c0 rfl, ?_⟩
      split
      · rename_i c48
        refine ⟨_, rfl, ?_⟩
        split
        · rename_i l1
          exact no fun n w => by
            obtain ⟨_, _, h2, _⟩ := sw n w
            unfold abody at h2
            rw [if_pos (show p.toNat = 0 by omega), List.append_nil] at h2
            have := dg_nohead (n.natAbs / 10 ^ p.toNat)
            rw [← h2, c48] at this
            have := this rfl
            rw [List.length_cons] at *
            omega
        · rename_i l1
          exact tail (W fun _ => by omega)
      · rename_i c48
        exact tail (W fun y => absurd (Option.some.inj y) c48)
    | some a =>
      rw [pvs] at e2 ⊢
      obtain ⟨A, B, er, hA, dA, dB, nv, fv⟩ := sh
      refine ixL (SqL.of e2) (v := .int ((st + a : Nat) : Int)) (by rw [if_neg (by omega)]; rfl) ⟨rfl, ?_⟩
      split
      · rename_i z
        have z' : ((st + a : Nat) : Int) = (st : Int) := V.int.inj z
        exact no fun n w => by
          have h := (sw n w).2.2.2.2.2.2 a rfl
          have := dg_pos (n.natAbs / 10 ^ p.toNat)
          omega
      rename_i z
      have an : A ≠ [] := fun y => z (by rw [y, List.length_nil] at hA; rw [← hA]; rfl)
      split
      · rename_i y
        exact no fun n w => by
          have h := (sw n w).2.2.2.2.2.1
          have : p ≠ 0 := fun x => by have := h.mpr (by omega); cases this
          exact y (by rw [decide_eq_false (show ¬ ((st + a : Nat) : Int) < 0 by omega), decide_eq_false this])
      rename_i y
      have pn : p ≠ 0 := fun x => by
        have y' := Classical.byContradiction y
        rw [decide_eq_false (show ¬ ((st + a : Nat) : Int) < 0 by omega), decide_eq_true x] at y'
        cases y'
      rw [if_pos (by omega)]
      refine ⟨hl, ?_⟩
      have rl2 : r.length = A.length + 1 + B.length := by rw [er, List.length_append, List.length_cons]; omega
      split
      · rename_i x
        exact no fun n w => x (by
          have h := (sw n w).2.2.2.2.2.2 a rfl
          omega)
      rename_i x
      have bp : B.length = p.toNat := by omega
      obtain ⟨c0, rest, eA⟩ : ∃ c0 rest, A = c0 :: rest := by
        cases A with
        | nil => exact absurd rfl an
        | cons c0 rest => exact ⟨c0, rest, rfl⟩
      have W : (A.head? = some 48 → A.length ≤ 1) → fg ≤ 60 → (below = true → num ≠ 0) → Written cs p.toNat (if below = true then -(num : Int) else (num : Int)) := fun a1 a2 a3 => by
        have := sh_reads (r := r) (A := A) (B := B) (p := p.toNat) (below := below) dA dB (by rw [if_neg (by omega)]; exact er) bp an a1 (by omega) (by rw [← nv]; exact a3)
        rw [← nv, ← ecs] at this
        exact this
      refine ⟨hl, c0, h0 c0 (by rw [er, eA]; rfl), ?_⟩
      split
      · rename_i c48
        refine ⟨_, rfl, ?_⟩
        split
        · rename_i l1
          exact no fun n w => by
            obtain ⟨_, _, h2, _⟩ := sw n w
            unfold abody at h2
            rw [if_neg (show ¬ p.toNat = 0 by omega), er] at h2
            obtain ⟨e1, _⟩ := split_one dA (dg_digits _) h2
            have := dg_nohead (n.natAbs / 10 ^ p.toNat)
            rw [← e1, eA, c48] at this
            have := this rfl
            rw [← c48, ← eA] at this
            omega
        · rename_i l1
          exact tail (W fun _ => by omega)
      · rename_i c48
        exact tail (W fun y => absurd (by rw [eA] at y; exact Option.some.inj y) c48)
def spRight : Sp := fun vs H Q _ => ∃ (cs : List Nat) (p : Int), vs = [.str (SL cs), .int p] ∧ cs.length ≤ sizeLine ∧ 0 ≤ p ∧ p ≤ 6 ∧ ∀ H', Same H H' → Q (.bl true) H'
theorem sc_xL_right : FnScope ["_law_text", "_law_behind", "_law_fault", "_law_found", "e", "_law_due_here"] ["_law_text", "_law_behind"] (defScope s_xL_right) := ⟨rfl, rfl, rfl, by decide +kernel, rfl, by decide +kernel, by decide +kernel⟩
theorem ok_xL_right (T : Txt K mg t) : FnOkT P w K mg base (CXE P w) 3 t.a_xL_right t.d_xL_right ["_law_text", "_law_behind"] (spRight) := by
  refine T.fn_xL_right.okXT sc_xL_right (fun vs H Q E h => ?_) (fun cdv A outer s H vs Q E L hr h => ?_)
  · obtain ⟨cs, p, rfl, hl, p0, p1, q⟩ := h
    rfl
  obtain ⟨cs, p, rfl, hl, p0, p1, q⟩ := h
  have nd := sc_xL_right.nd
  refine ⟨_, (psst_cons (PS.t (ps_set (i := 2) nd rfl (Or.inl rfl) pe_non)) (psst_cons (PS.t (ps_set (i := 3) nd rfl (Or.inl rfl) pe_non)) (psst_cons (pst_cut (pst_try ⟨rfl, rfl, rfl⟩ (fun Ek pn xe L => (psst_one (pst_set (i := 3) nd rfl (Or.inl rfl) (pet_callX L (ok_read_amount T) (hr.mono (by decide)) (by rfl) T.mg_read_amount T.fn_read_amount.kp T.b_read_amount .nil (PA.t (pa_cons (pv 0) (pa_cons (pv 1) pa_nil star_Name) star_Name)))))) (fun ea => (pss_one (ps_set (i := 2) nd rfl (Or.inl rfl) (pv 4)))) (by rfl) T.mg_SpanError nd (i := 4) (by rfl) (by rfl))) (PSs.t (pss_cons (ps_set (i := 5) nd rfl (Or.inl rfl) (pe_callX L.toLv (ok_xL_due T) (hr.mono (by decide)) (by rfl) T.mg_xL_due T.fn_xL_due.kp T.b_xL_due .nil (pa_cons (pv 0) (pa_cons (pv 1) pa_nil star_Name) star_Name))) (pss_cons (ps_if (pt_cmpR op_isN (pv 5) pe_non (nomark _)) (pss_one (ps_ret (pe_and (pe_cmpR op_isN (pv 3) pe_non (nomark _)) (pe_one (pe_callX L.toLv (ok_xL_alone T) (hr.mono (by decide)) (by rfl) T.mg_xL_alone T.fn_xL_alone.kp T.b_xL_alone .nil (pa_cons (pv 2) pa_nil)))))) pss_nil) (pss_one (ps_ret (pe_and (pe_callB call_isinst (by rfl) T.no_isinstance bb_isinstance (pa_cons (pv 3) (pa_cons (pe_ty (by rfl) T.no_int bb_int) pa_nil star_Name) star_Name)) (pe_and (pe_not (pe_callB call_isinst (by rfl) T.no_isinstance bb_isinstance (pa_cons (pv 3) (pa_cons (pe_ty (by rfl) T.no_bool bb_bool) pa_nil star_Name) star_Name))) (pe_one (pe_cmpR op_eq (pv 3) (pv 5) (nomark _))))))))))))), ?_⟩
  by_cases wr : ∃ n, Written cs p.toNat n
  · obtain ⟨n, wn⟩ := wr
    simp only [tStrike, tCallKX, kwG_one, tEither, tTupS, tLstS, comp_K, capσ, sub_nil, sub_none, sub_some, tYes, List.replicate, Option.join_some, Option.join_none, SL_inj, iStr, tPart, tNoPart, tSl, tLst, tTup, cx_K, slT, CDiv, Int.reduceLT, Int.reduceLE, Int.reduceToNat, Int.reduceNeg, Int.reduceAdd, Int.reduceSub, Int.reduceMul, forall_const, tSeq, tNext, tIfS, tRet, tRetN, tDrop, tAsg, gName, gCons, gNil, tVar, tC, tOp, rI, rI0, tUn, rU, tTest, tB, tAnd, tOr, tNot, tAndV, tOrV, tNotV, tIf, tCons, tNil, tCallX, tCallL, tCB, sRaise, rEq, rNe, scal_ii, scal_bb, scal_ss, scal_ni, scal_in, tChain, tAug, ipI, L2.start, List.map_cons, List.map_nil, List.length_cons, List.length_nil, List.cons_append, List.nil_append, List.append_nil, List.replicate_succ, List.replicate_zero, Nat.reduceAdd, Nat.reduceSub, List.getElem?_cons_zero, List.getElem?_cons_succ, List.set_cons_zero, List.set_cons_succ, Option.some.injEq, V.int.injEq, V.bl.injEq, V.ref.injEq, V.str.injEq, exists_eq_left', exists_eq_left, exists_eq', exists_and_left, List.cons.injEq, and_true, true_and, and_self, and_assoc, decide_eq_true_eq, if_true, if_false, Bool.true_eq_false, Bool.false_eq_true, Bool.not_eq_true', Bool.not_true, Bool.not_false, decide_eq_false_iff_not, ite_true, ite_false, reduceCtorEq, false_and, exists_false, false_or, or_false, and_false, Nat.reduceLeDiff]
    obtain ⟨R, hR⟩ : ∃ R : St → Hp → Prop, R = fun σ' H' => Same H H' ∧ ∃ x4, σ' = [some (.str (SL cs)), some (.int p), some .non, some (.int n), x4, none] := ⟨_, rfl⟩
    refine ⟨R, ?_, fun σ2 H2 h2 => ?_⟩
    · simp only [tStrike, tCallKX, kwG_one, tEither, tTupS, tLstS, comp_K, capσ, sub_nil, sub_none, sub_some, tYes, List.replicate, Option.join_some, Option.join_none, SL_inj, iStr, tPart, tNoPart, tSl, tLst, tTup, cx_K, slT, CDiv, Int.reduceLT, Int.reduceLE, Int.reduceToNat, Int.reduceNeg, Int.reduceAdd, Int.reduceSub, Int.reduceMul, forall_const, tSeq, tNext, tIfS, tRet, tRetN, tDrop, tAsg, gName, gCons, gNil, tVar, tC, tOp, rI, rI0, tUn, rU, tTest, tB, tAnd, tOr, tNot, tAndV, tOrV, tNotV, tIf, tCons, tNil, tCallX, tCallL, tCB, sRaise, rEq, rNe, scal_ii, scal_bb, scal_ss, scal_ni, scal_in, tChain, tAug, ipI, L2.start, List.map_cons, List.map_nil, List.length_cons, List.length_nil, List.cons_append, List.nil_append, List.append_nil, List.replicate_succ, List.replicate_zero, Nat.reduceAdd, Nat.reduceSub, List.getElem?_cons_zero, List.getElem?_cons_succ, List.set_cons_zero, List.set_cons_succ, Option.some.injEq, V.int.injEq, V.bl.injEq, V.ref.injEq, V.str.injEq, exists_eq_left', exists_eq_left, exists_eq', exists_and_left, List.cons.injEq, and_true, true_and, and_self, and_assoc, decide_eq_true_eq, if_true, if_false, Bool.true_eq_false, Bool.false_eq_true, Bool.not_eq_true', Bool.not_true, Bool.not_false, decide_eq_false_iff_not, ite_true, ite_false, reduceCtorEq, false_and, exists_false, false_or, or_false, and_false, Nat.reduceLeDiff, sTry]
      refine ⟨cs, p, rfl, hl, p0, p1, fun n' w' H1 s1 => ?_, fun no => absurd wn (no n)⟩
      rw [hR, w'.one wn]
      exact ⟨s1, _, rfl⟩
    rw [hR] at h2
    obtain ⟨s2, x4, rfl⟩ := h2
    clear hR
    simp only [tStrike, tCallKX, kwG_one, tEither, tTupS, tLstS, comp_K, capσ, sub_nil, sub_none, sub_some, tYes, List.replicate, Option.join_some, Option.join_none, SL_inj, iStr, tPart, tNoPart, tSl, tLst, tTup, cx_K, slT, CDiv, Int.reduceLT, Int.reduceLE, Int.reduceToNat, Int.reduceNeg, Int.reduceAdd, Int.reduceSub, Int.reduceMul, forall_const, tSeq, tNext, tIfS, tRet, tRetN, tDrop, tAsg, gName, gCons, gNil, tVar, tC, tOp, rI, rI0, tUn, rU, tTest, tB, tAnd, tOr, tNot, tAndV, tOrV, tNotV, tIf, tCons, tNil, tCallX, tCallL, tCB, sRaise, rEq, rNe, scal_ii, scal_bb, scal_ss, scal_ni, scal_in, tChain, tAug, ipI, L2.start, List.map_cons, List.map_nil, List.length_cons, List.length_nil, List.cons_append, List.nil_append, List.append_nil, List.replicate_succ, List.replicate_zero, Nat.reduceAdd, Nat.reduceSub, List.getElem?_cons_zero, List.getElem?_cons_succ, List.set_cons_zero, List.set_cons_succ, Option.some.injEq, V.int.injEq, V.bl.injEq, V.ref.injEq, V.str.injEq, exists_eq_left', exists_eq_left, exists_eq', exists_and_left, List.cons.injEq, and_true, true_and, and_self, and_assoc, decide_eq_true_eq, if_true, if_false, Bool.true_eq_false, Bool.false_eq_true, Bool.not_eq_true', Bool.not_true, Bool.not_false, decide_eq_false_iff_not, ite_true, ite_false, reduceCtorEq, false_and, exists_false, false_or, or_false, and_false, Nat.reduceLeDiff]
    refine ⟨cs, p, rfl, hl, p0, p1, fun n' w' H3 s3 => ?_, fun no => absurd wn (no n)⟩
    obtain rfl := w'.one wn
    rw [if_neg (fun z => by cases z)]
    refine ⟨_, .old (.int _), _, rfl, _, kit_int_int, ?_⟩
    rw [if_pos rfl]
    refine ⟨_, .old (.int _), _, rfl, _, kit_int_bool, ?_⟩
    rw [if_pos rfl]
    refine ⟨rfl, ?_⟩
    rw [decide_eq_true rfl]
    exact q _ (s2.trans s3)
  · have no : ∀ n, ¬ Written cs p.toNat n := fun n z => wr ⟨n, z⟩
    simp only [tStrike, tCallKX, kwG_one, tEither, tTupS, tLstS, comp_K, capσ, sub_nil, sub_none, sub_some, tYes, List.replicate, Option.join_some, Option.join_none, SL_inj, iStr, tPart, tNoPart, tSl, tLst, tTup, cx_K, slT, CDiv, Int.reduceLT, Int.reduceLE, Int.reduceToNat, Int.reduceNeg, Int.reduceAdd, Int.reduceSub, Int.reduceMul, forall_const, tSeq, tNext, tIfS, tRet, tRetN, tDrop, tAsg, gName, gCons, gNil, tVar, tC, tOp, rI, rI0, tUn, rU, tTest, tB, tAnd, tOr, tNot, tAndV, tOrV, tNotV, tIf, tCons, tNil, tCallX, tCallL, tCB, sRaise, rEq, rNe, scal_ii, scal_bb, scal_ss, scal_ni, scal_in, tChain, tAug, ipI, L2.start, List.map_cons, List.map_nil, List.length_cons, List.length_nil, List.cons_append, List.nil_append, List.append_nil, List.replicate_succ, List.replicate_zero, Nat.reduceAdd, Nat.reduceSub, List.getElem?_cons_zero, List.getElem?_cons_succ, List.set_cons_zero, List.set_cons_succ, Option.some.injEq, V.int.injEq, V.bl.injEq, V.ref.injEq, V.str.injEq, exists_eq_left', exists_eq_left, exists_eq', exists_and_left, List.cons.injEq, and_true, true_and, and_self, and_assoc, decide_eq_true_eq, if_true, if_false, Bool.true_eq_false, Bool.false_eq_true, Bool.not_eq_true', Bool.not_true, Bool.not_false, decide_eq_false_iff_not, ite_true, ite_false, reduceCtorEq, false_and, exists_false, false_or, or_false, and_false, Nat.reduceLeDiff]
    obtain ⟨R, hR⟩ : ∃ R : St → Hp → Prop, R = fun σ' H' => Same H H' ∧ ∃ ea x4, H' ea = some (excAt ea (.ref t.c_NoAmount)) ∧ σ' = [some (.str (SL cs)), some (.int p), some (.ref ea), some .non, x4, none] := ⟨_, rfl⟩
    refine ⟨R, ?_, fun σ2 H2 h2 => ?_⟩
    · simp only [tStrike, tCallKX, kwG_one, tEither, tTupS, tLstS, comp_K, capσ, sub_nil, sub_none, sub_some, tYes, List.replicate, Option.join_some, Option.join_none, SL_inj, iStr, tPart, tNoPart, tSl, tLst, tTup, cx_K, slT, CDiv, Int.reduceLT, Int.reduceLE, Int.reduceToNat, Int.reduceNeg, Int.reduceAdd, Int.reduceSub, Int.reduceMul, forall_const, tSeq, tNext, tIfS, tRet, tRetN, tDrop, tAsg, gName, gCons, gNil, tVar, tC, tOp, rI, rI0, tUn, rU, tTest, tB, tAnd, tOr, tNot, tAndV, tOrV, tNotV, tIf, tCons, tNil, tCallX, tCallL, tCB, sRaise, rEq, rNe, scal_ii, scal_bb, scal_ss, scal_ni, scal_in, tChain, tAug, ipI, L2.start, List.map_cons, List.map_nil, List.length_cons, List.length_nil, List.cons_append, List.nil_append, List.append_nil, List.replicate_succ, List.replicate_zero, Nat.reduceAdd, Nat.reduceSub, List.getElem?_cons_zero, List.getElem?_cons_succ, List.set_cons_zero, List.set_cons_succ, Option.some.injEq, V.int.injEq, V.bl.injEq, V.ref.injEq, V.str.injEq, exists_eq_left', exists_eq_left, exists_eq', exists_and_left, List.cons.injEq, and_true, true_and, and_self, and_assoc, decide_eq_true_eq, if_true, if_false, Bool.true_eq_false, Bool.false_eq_true, Bool.not_eq_true', Bool.not_true, Bool.not_false, decide_eq_false_iff_not, ite_true, ite_false, reduceCtorEq, false_and, exists_false, false_or, or_false, and_false, Nat.reduceLeDiff, sTry]
      refine ⟨cs, p, rfl, hl, p0, p1, fun n' w' => absurd w' (no n'), fun _ H1 s1 => ⟨exm_ref T.cl_SpanError T.m_SpanError_BaseException T.m_NoAmount_SpanError, fun ea hea => ?_⟩⟩
      rw [hR]
      exact ⟨s1.trans (same_new hea _), ea, _, upd_same, rfl⟩
    rw [hR] at h2
    obtain ⟨s2, ea, x4, hea, rfl⟩ := h2
    clear hR
    simp only [tStrike, tCallKX, kwG_one, tEither, tTupS, tLstS, comp_K, capσ, sub_nil, sub_none, sub_some, tYes, List.replicate, Option.join_some, Option.join_none, SL_inj, iStr, tPart, tNoPart, tSl, tLst, tTup, cx_K, slT, CDiv, Int.reduceLT, Int.reduceLE, Int.reduceToNat, Int.reduceNeg, Int.reduceAdd, Int.reduceSub, Int.reduceMul, forall_const, tSeq, tNext, tIfS, tRet, tRetN, tDrop, tAsg, gName, gCons, gNil, tVar, tC, tOp, rI, rI0, tUn, rU, tTest, tB, tAnd, tOr, tNot, tAndV, tOrV, tNotV, tIf, tCons, tNil, tCallX, tCallL, tCB, sRaise, rEq, rNe, scal_ii, scal_bb, scal_ss, scal_ni, scal_in, tChain, tAug, ipI, L2.start, List.map_cons, List.map_nil, List.length_cons, List.length_nil, List.cons_append, List.nil_append, List.append_nil, List.replicate_succ, List.replicate_zero, Nat.reduceAdd, Nat.reduceSub, List.getElem?_cons_zero, List.getElem?_cons_succ, List.set_cons_zero, List.set_cons_succ, Option.some.injEq, V.int.injEq, V.bl.injEq, V.ref.injEq, V.str.injEq, exists_eq_left', exists_eq_left, exists_eq', exists_and_left, List.cons.injEq, and_true, true_and, and_self, and_assoc, decide_eq_true_eq, if_true, if_false, Bool.true_eq_false, Bool.false_eq_true, Bool.not_eq_true', Bool.not_true, Bool.not_false, decide_eq_false_iff_not, ite_true, ite_false, reduceCtorEq, false_and, exists_false, false_or, or_false, and_false, Nat.reduceLeDiff]
    refine ⟨cs, p, rfl, hl, p0, p1, fun n' w' => absurd w' (no n'), fun _ H3 s3 => ?_⟩
    show if V.non = V.non then _ else _
    rw [if_pos rfl]
    exact ⟨ea, rfl, s3 _ _ hea, fun H4 s4 => q _ ((s2.trans s3).trans s4)⟩
def spLaw (K : PySem.W.Frag) : Sp := fun vs H Q _ => ∃ (a : Addr) (ns : List Int), vs = [.ref a] ∧ SqL K H a (ns.map V.int) ∧ ns.length ≤ 63 ∧ ∀ H', Q (.bl true) H'
theorem sc_law : FnScope ["_law_script", "_law_cell", "_law_more", "_law_behind", "_law_amount", "_law_text"] ["_law_script"] (defScope s_law) := ⟨rfl, rfl, rfl, by decide +kernel, rfl, by decide +kernel, by decide +kernel⟩
theorem ok_law (T : Txt K mg t) : FnOk P w K mg base (CXE P w) 4 t.a_law t.d_law ["_law_script"] (spLaw K) := by
  refine T.fn_law.okX sc_law (fun vs H Q E h => ?_) (fun cdv A outer s H vs Q E L hr h => ?_)
  · obtain ⟨a, ns, rfl, hS, h63, q⟩ := h
    rfl
  obtain ⟨a, ns, rfl, hS, h63, q⟩ := h
  have nd := sc_law.nd
  refine ⟨_, (pss_cons (ps_for (by passes_own) rfl (pi_list (pe_op op_catS (pe_slice sl_listS (pv 0) po_none (po_some pe_int)) (pe_lstS (pa_cons pe_int pa_nil)))) (pg_name (i := 1) nd rfl (Or.inl rfl)) (pss_consm (psm_set (i := 2) nd rfl (Or.inl rfl) (pem_op op_mod (pe_op op_mul (pv 1) pe_int))) (psst_cons (PS.t (ps_set (i := 3) nd rfl (Or.inl rfl) (pe_ix ix_list (pe_lstS (pa_cons pe_int (pa_cons (pe_op op_mod (pv 2) pe_int) pa_nil star_BinOp) star_Constant)) (pe_op op_mod (pe_op op_fdiv (pv 2) pe_int) pe_int) (fun _ _ => rfl)))) (psst_cons (PS.t (ps_set (i := 4) nd rfl (Or.inl rfl) (pe_ix ix_list (pe_lstS (pa_cons (pe_op op_mod (pe_op op_fdiv (pv 1) pe_int) (pe_op op_pow pe_int pe_int)) (pa_cons (pe_op op_mod (pe_op op_fdiv (pv 1) pe_int) pe_int) (pa_cons (pe_op op_mod (pv 2) pe_int) pa_nil star_BinOp) star_BinOp) star_BinOp)) (pe_op op_mod (pe_op op_fdiv (pv 2) pe_int) pe_int) (fun _ _ => rfl)))) (psst_cons (PS.t (ps_set (i := 5) nd rfl (Or.inl rfl) (pe_callKX L.toLv (ok_show_amount T) (hr.mono (by decide)) (by rfl) T.mg_show_amount T.fn_show_amount.kp T.kb_show_amount (pa_cons (pe_ix ix_list (pe_lstS (pa_cons (pv 4) (pa_cons (pe_op op_sub pe_int (pv 4)) pa_nil star_BinOp) star_Name)) (pe_op op_mod (pe_op op_fdiv (pv 2) pe_int) pe_int) (fun _ _ => rfl)) pa_nil) (pk_cons (pv 3) pk_nil)))) (psst_one (pst_if (pwt_or (ptt_not (ptt_val (pet_callX L.toLv (ok_xL_right T) (hr.mono (by decide)) (by rfl) T.mg_xL_right T.fn_xL_right.kp T.b_xL_right .nil (patT_cons (pet_callX L.toLv (ok_xL_spoilt T) (hr.mono (by decide)) (by rfl) T.mg_xL_spoilt T.fn_xL_spoilt.kp T.b_xL_spoilt .nil (PA.t (pa_cons (pv 5) (pa_cons (pv 1) pa_nil star_Name) star_Name))) (PA.t (pa_cons (pv 3) pa_nil)))))) (pwt_or1 (ptt_not (ptt_val (pet_callX L.toLv (ok_xL_right T) (hr.mono (by decide)) (by rfl) T.mg_xL_right T.fn_xL_right.kp T.b_xL_right .nil (PA.t (pa_cons (pv 5) (pa_cons (pe_op op_sub pe_int (pv 3)) pa_nil star_BinOp) star_Name))))))).pt (PSs.t (pss_one (ps_ret pe_bl))) (PSs.t pss_nil)))))))) (pss_one (ps_ret pe_bl))), ?_⟩
  simp only [tStrike, tCallKX, kwG_one, tEither, tTupS, tLstS, comp_K, capσ, sub_nil, sub_none, sub_some, tYes, List.replicate, Option.join_some, Option.join_none, SL_inj, iStr, tPart, tNoPart, tSl, tLst, tTup, cx_K, slT, CDiv, Int.reduceLT, Int.reduceLE, Int.reduceToNat, Int.reduceNeg, Int.reduceAdd, Int.reduceSub, Int.reduceMul, forall_const, tSeq, tNext, tIfS, tRet, tRetN, tDrop, tAsg, gName, gCons, gNil, tVar, tC, tOp, rI, rI0, tUn, rU, tTest, tB, tAnd, tOr, tNot, tAndV, tOrV, tNotV, tIf, tCons, tNil, tCallX, tCallL, tCB, sRaise, rEq, rNe, scal_ii, scal_bb, scal_ss, scal_ni, scal_in, tChain, tAug, ipI, L2.start, List.map_cons, List.map_nil, List.length_cons, List.length_nil, List.cons_append, List.nil_append, List.append_nil, List.replicate_succ, List.replicate_zero, Nat.reduceAdd, Nat.reduceSub, List.getElem?_cons_zero, List.getElem?_cons_succ, List.set_cons_zero, List.set_cons_succ, Option.some.injEq, V.int.injEq, V.bl.injEq, V.ref.injEq, V.str.injEq, exists_eq_left', exists_eq_left, exists_eq', exists_and_left, List.cons.injEq, and_true, true_and, and_self, and_assoc, decide_eq_true_eq, if_true, if_false, Bool.true_eq_false, Bool.false_eq_true, Bool.not_eq_true', Bool.not_true, Bool.not_false, decide_eq_false_iff_not, ite_true, ite_false, reduceCtorEq, false_and, exists_false, false_or, or_false, and_false, Nat.reduceLeDiff]
  refine for_scriptS (fun σ1 H1 => Same H H1 ∧ ∃ x1 x2 x3 x4 x5, σ1 = [some (.ref a), x1, x2, x3, x4, x5]) rfl hS h63 (fun H' s => ⟨s, _, _, _, _, _, rfl⟩) (fun c σ1 H1 l xs h hl => ?_) (fun σ1 H1 h => ?_)
  · obtain ⟨s1, x1, x2, x3, x4, x5, rfl⟩ := h
    simp only [tStrike, tCallKX, kwG_one, tEither, tTupS, tLstS, comp_K, capσ, sub_nil, sub_none, sub_some, tYes, List.replicate, Option.join_some, Option.join_none, SL_inj, iStr, tPart, tNoPart, tSl, tLst, tTup, cx_K, slT, CDiv, Int.reduceLT, Int.reduceLE, Int.reduceToNat, Int.reduceNeg, Int.reduceAdd, Int.reduceSub, Int.reduceMul, forall_const, tSeq, tNext, tIfS, tRet, tRetN, tDrop, tAsg, gName, gCons, gNil, tVar, tC, tOp, rI, rI0, tUn, rU, tTest, tB, tAnd, tOr, tNot, tAndV, tOrV, tNotV, tIf, tCons, tNil, tCallX, tCallL, tCB, sRaise, rEq, rNe, scal_ii, scal_bb, scal_ss, scal_ni, scal_in, tChain, tAug, ipI, L2.start, List.map_cons, List.map_nil, List.length_cons, List.length_nil, List.cons_append, List.nil_append, List.append_nil, List.replicate_succ, List.replicate_zero, Nat.reduceAdd, Nat.reduceSub, List.getElem?_cons_zero, List.getElem?_cons_succ, List.set_cons_zero, List.set_cons_succ, Option.some.injEq, V.int.injEq, V.bl.injEq, V.ref.injEq, V.str.injEq, exists_eq_left', exists_eq_left, exists_eq', exists_and_left, List.cons.injEq, and_true, true_and, and_self, and_assoc, decide_eq_true_eq, if_true, if_false, Bool.true_eq_false, Bool.false_eq_true, Bool.not_eq_true', Bool.not_true, Bool.not_false, decide_eq_false_iff_not, ite_true, ite_false, reduceCtorEq, false_and, exists_false, false_or, or_false, and_false, Nat.reduceLeDiff]
    refine ⟨.inr ⟨by decide, by decide⟩, ?_⟩
    generalize hm : c * 48271 % 2147483647 = m
    have m0 : 0 ≤ m ∧ m < 2147483647 := by omega
    try simp only [tStrike, tCallKX, kwG_one, tEither, tTupS, tLstS, comp_K, capσ, sub_nil, sub_none, sub_some, tYes, List.replicate, Option.join_some, Option.join_none, SL_inj, iStr, tPart, tNoPart, tSl, tLst, tTup, cx_K, slT, CDiv, Int.reduceLT, Int.reduceLE, Int.reduceToNat, Int.reduceNeg, Int.reduceAdd, Int.reduceSub, Int.reduceMul, forall_const, tSeq, tNext, tIfS, tRet, tRetN, tDrop, tAsg, gName, gCons, gNil, tVar, tC, tOp, rI, rI0, tUn, rU, tTest, tB, tAnd, tOr, tNot, tAndV, tOrV, tNotV, tIf, tCons, tNil, tCallX, tCallL, tCB, sRaise, rEq, rNe, scal_ii, scal_bb, scal_ss, scal_ni, scal_in, tChain, tAug, ipI, L2.start, List.map_cons, List.map_nil, List.length_cons, List.length_nil, List.cons_append, List.nil_append, List.append_nil, List.replicate_succ, List.replicate_zero, Nat.reduceAdd, Nat.reduceSub, List.getElem?_cons_zero, List.getElem?_cons_succ, List.set_cons_zero, List.set_cons_succ, Option.some.injEq, V.int.injEq, V.bl.injEq, V.ref.injEq, V.str.injEq, exists_eq_left', exists_eq_left, exists_eq', exists_and_left, List.cons.injEq, and_true, true_and, and_self, and_assoc, decide_eq_true_eq, if_true, if_false, Bool.true_eq_false, Bool.false_eq_true, Bool.not_eq_true', Bool.not_true, Bool.not_false, decide_eq_false_iff_not, ite_true, ite_false, reduceCtorEq, false_and, exists_false, false_or, or_false, and_false, Nat.reduceLeDiff]
    intro p1 H2 _ s2 e2
    have e2' : H2 p1 = some (.lst (([2, m % 7] : List Int).map V.int)) := e2
    have m2 : 0 ≤ m / 7 % 2 ∧ m / 7 % 2 < 2 := by omega
    have b2 := getD_in (xs := [2, m % 7]) (lo := 0) (hi := 6) (fun x hx => by
      simp only [List.mem_cons, List.not_mem_nil, or_false] at hx
      rcases hx with rfl | rfl <;> omega) m2.1 m2.2
    refine ixL (SqL.of e2') (at_ints m2.1 m2.2) ?_
    clear e2 e2'
    generalize ([2, m % 7] : List Int).getD (m / 7 % 2).toNat 0 = bh at b2 ⊢
    refine ⟨⟨by decide, by decide, by decide⟩, by decide, fun p2 H3 _ s3 e3 => ?_⟩
    have e3' : H3 p2 = some (.lst (([c / 3 % 10 ^ 58, c / 3 % 1000, m % 3] : List Int).map V.int)) := e3
    have m3 : 0 ≤ m / 14 % 3 ∧ m / 14 % 3 < 3 := by omega
    have b3 := getD_in (xs := [c / 3 % 10 ^ 58, c / 3 % 1000, m % 3]) (lo := 0) (hi := 10 ^ 58) (fun x hx => by
      simp only [List.mem_cons, List.not_mem_nil, or_false] at hx
      rcases hx with rfl | rfl | rfl <;> omega) m3.1 m3.2
    refine ixL (SqL.of e3') (at_ints m3.1 m3.2) ⟨_, rfl, ?_⟩
    clear e3 e3'
    generalize ([c / 3 % 10 ^ 58, c / 3 % 1000, m % 3] : List Int).getD (m / 14 % 3).toNat 0 = am at b3 ⊢
    intro p3 H4 _ s4 e4
    have e4' : H4 p3 = some (.lst (([am, 0 - am] : List Int).map V.int)) := e4
    have m4 : 0 ≤ m / 42 % 2 ∧ m / 42 % 2 < 2 := by omega
    have b4 := getD_in (xs := [am, 0 - am]) (lo := -(10 ^ 58)) (hi := 10 ^ 58) (fun x hx => by
      simp only [List.mem_cons, List.not_mem_nil, or_false] at hx
      rcases hx with rfl | rfl <;> omega) m4.1 m4.2
    refine ixL (SqL.of e4') (at_ints m4.1 m4.2) ?_
    clear e4 e4'
    generalize ([am, 0 - am] : List Int).getD (m / 42 % 2).toNat 0 = n at b4 ⊢
    have nb : n.natAbs < 10 ^ 60 := by omega
    have as := atxt_small nb (show bh.toNat ≤ 6 by omega)
    have al := atxt_pos n bh.toNat
    have s14 := ((s1.trans s2).trans s3).trans s4
    have hl4 := s4 _ _ (s3 _ _ (s2 _ _ hl))
    refine ⟨n, bh, rfl, b2.1, b2.2, by omega, by omega, fun H5 s5 => ?_⟩
    refine ⟨_, c, rfl, al, by omega, fun cs' H6 s6 lc => ?_⟩
    refine ⟨cs', bh, rfl, lc, b2.1, b2.2, fun H7 s7 => ⟨true, rfl, ?_⟩⟩
    rw [if_neg (by decide)]
    refine ⟨bh, rfl, _, _, rfl, le_line (by omega), by omega, by omega, fun H8 s8 => ⟨true, rfl, ?_⟩⟩
    rw [if_neg (by decide)]
    exact ⟨(((s14.trans s5).trans s6).trans s7).trans s8, s8 _ _ (s7 _ _ (s6 _ _ (s5 _ _ hl4)))⟩
  · obtain ⟨s1, x1, x2, x3, x4, x5, rfl⟩ := h
    exact q _
end
theorem txt_mk {K : PySem.W.Frag} {h : Heap} {mg : Str → Option Value} (X : K.In h) (G : h.Ns mainGlobals mg)
    {f0 : Addr} {od0 an0 : Option Addr} {sl0 : Array (Option Value)} {oc0 kV0 dc0 pm0 cd0 ct0 : Value}
    {T0 : Addr} {dd0 : Option Addr} {dk0 dn0 : Nat} {ds0 : Array (Option Value)}
    {f1 : Addr} {od1 an1 : Option Addr} {sl1 : Array (Option Value)} {oc1 kV1 dc1 pm1 cd1 ct1 : Value}
    {f2 : Addr} {od2 an2 : Option Addr} {sl2 : Array (Option Value)} {oc2 kV2 dc2 pm2 cd2 ct2 : Value}
    {T2 : Addr} {dd2 : Option Addr} {dk2 dn2 : Nat} {ds2 : Array (Option Value)}
    {f3 : Addr} {od3 an3 : Option Addr} {sl3 : Array (Option Value)} {oc3 kV3 dc3 pm3 cd3 ct3 : Value}
    {f4 : Addr} {od4 an4 : Option Addr} {sl4 : Array (Option Value)} {oc4 kV4 dc4 pm4 cd4 ct4 : Value}
    {f5 : Addr} {od5 an5 : Option Addr} {sl5 : Array (Option Value)} {oc5 kV5 dc5 pm5 cd5 ct5 : Value}
    {f6 : Addr} {od6 an6 : Option Addr} {sl6 : Array (Option Value)} {oc6 kV6 dc6 pm6 cd6 ct6 : Value}
    {f7 : Addr} {od7 an7 : Option Addr} {sl7 : Array (Option Value)} {oc7 kV7 dc7 pm7 cd7 ct7 : Value}
    {C_SpanError : Addr} {cd_SpanError : ClassData}
    {C_NoDate : Addr} {cd_NoDate : ClassData}
    {C_NoParts : Addr} {cd_NoParts : ClassData}
    {C_NoAmount : Addr} {cd_NoAmount : ClassData}
    {C_NoSpan : Addr} {cd_NoSpan : ClassData}
    {C_TooLong : Addr} {cd_TooLong : ClassData}
    {C_NoAccount : Addr} {cd_NoAccount : ClassData}
    {C_NoText : Addr} {cd_NoText : ClassData}
    {C_NoRow : Addr} {cd_NoRow : ClassData}
    {C_NoEntry : Addr} {cd_NoEntry : ClassData}
    {tk_FIGURES : Tok}
    {tk_MOST_FIGURES : Tok}
    (ha0 : PySem.W.nsIn K mainGlobals "show_amount" = some (some (.ref f0)))
    (hl0 : K.lookup f0 = some ⟨oc0, od0, .func (PySem.W.fnOf "show_amount" "show_amount" (defArgs s_show_amount) (defBody s_show_amount) (defScope s_show_amount) (.ref T0) kV0 dc0 pm0 an0 cd0 ct0), sl0⟩)
    (hc0 : PySem.W.codeIn K cd0 "show_amount" = true)
    (hk0 : PySem.W.keepIn K (.ref f0) = true)
    (ht0 : K.lookup T0 = some ⟨.type "tuple", dd0, .seq #[.int 2 dk0] dn0, ds0⟩)
    (ha1 : PySem.W.nsIn K mainGlobals "only_figures" = some (some (.ref f1)))
    (hl1 : K.lookup f1 = some ⟨oc1, od1, .func (PySem.W.fnOf "only_figures" "only_figures" (defArgs s_only_figures) (defBody s_only_figures) (defScope s_only_figures) .none kV1 dc1 pm1 an1 cd1 ct1), sl1⟩)
    (hc1 : PySem.W.codeIn K cd1 "only_figures" = true)
    (hk1 : PySem.W.keepIn K (.ref f1) = true)
    (ha2 : PySem.W.nsIn K mainGlobals "read_amount" = some (some (.ref f2)))
    (hl2 : K.lookup f2 = some ⟨oc2, od2, .func (PySem.W.fnOf "read_amount" "read_amount" (defArgs s_read_amount) (defBody s_read_amount) (defScope s_read_amount) (.ref T2) kV2 dc2 pm2 an2 cd2 ct2), sl2⟩)
    (hc2 : PySem.W.codeIn K cd2 "read_amount" = true)
    (hk2 : PySem.W.keepIn K (.ref f2) = true)
    (ht2 : K.lookup T2 = some ⟨.type "tuple", dd2, .seq #[.int 2 dk2] dn2, ds2⟩)
    (ha3 : PySem.W.nsIn K mainGlobals "_law_spoilt" = some (some (.ref f3)))
    (hl3 : K.lookup f3 = some ⟨oc3, od3, .func (PySem.W.fnOf "_law_spoilt" "_law_spoilt" (defArgs s_xL_spoilt) (defBody s_xL_spoilt) (defScope s_xL_spoilt) .none kV3 dc3 pm3 an3 cd3 ct3), sl3⟩)
    (hc3 : PySem.W.codeIn K cd3 "_law_spoilt" = true)
    (hk3 : PySem.W.keepIn K (.ref f3) = true)
    (ha4 : PySem.W.nsIn K mainGlobals "_law_due" = some (some (.ref f4)))
    (hl4 : K.lookup f4 = some ⟨oc4, od4, .func (PySem.W.fnOf "_law_due" "_law_due" (defArgs s_xL_due) (defBody s_xL_due) (defScope s_xL_due) .none kV4 dc4 pm4 an4 cd4 ct4), sl4⟩)
    (hc4 : PySem.W.codeIn K cd4 "_law_due" = true)
    (hk4 : PySem.W.keepIn K (.ref f4) = true)
    (ha5 : PySem.W.nsIn K mainGlobals "_law_alone" = some (some (.ref f5)))
    (hl5 : K.lookup f5 = some ⟨oc5, od5, .func (PySem.W.fnOf "_law_alone" "_law_alone" (defArgs s_xL_alone) (defBody s_xL_alone) (defScope s_xL_alone) .none kV5 dc5 pm5 an5 cd5 ct5), sl5⟩)
    (hc5 : PySem.W.codeIn K cd5 "_law_alone" = true)
    (hk5 : PySem.W.keepIn K (.ref f5) = true)
    (ha6 : PySem.W.nsIn K mainGlobals "_law_right" = some (some (.ref f6)))
    (hl6 : K.lookup f6 = some ⟨oc6, od6, .func (PySem.W.fnOf "_law_right" "_law_right" (defArgs s_xL_right) (defBody s_xL_right) (defScope s_xL_right) .none kV6 dc6 pm6 an6 cd6 ct6), sl6⟩)
    (hc6 : PySem.W.codeIn K cd6 "_law_right" = true)
    (hk6 : PySem.W.keepIn K (.ref f6) = true)
    (ha7 : PySem.W.nsIn K mainGlobals "law" = some (some (.ref f7)))
    (hl7 : K.lookup f7 = some ⟨oc7, od7, .func (PySem.W.fnOf "law" "law" (defArgs s_law) (defBody s_law) (defScope s_law) .none kV7 dc7 pm7 an7 cd7 ct7), sl7⟩)
    (hc7 : PySem.W.codeIn K cd7 "law" = true)
    (hk7 : PySem.W.keepIn K (.ref f7) = true)
    (g_SpanError : PySem.W.nsIn K mainGlobals "SpanError" = some (some (.ref C_SpanError)))
    (gc_SpanError : PySem.W.clsIn K C_SpanError = some cd_SpanError)
    (gt_SpanError : PySem.W.typeIn K (.ref C_SpanError) = some (.type "type"))
    (gm_SpanError : PySem.W.mroIn K C_SpanError (.ref C_SpanError) = some true)
    (g_NoDate : PySem.W.nsIn K mainGlobals "NoDate" = some (some (.ref C_NoDate)))
    (gc_NoDate : PySem.W.clsIn K C_NoDate = some cd_NoDate)
    (gt_NoDate : PySem.W.typeIn K (.ref C_NoDate) = some (.type "type"))
    (gm_NoDate : PySem.W.mroIn K C_NoDate (.ref C_NoDate) = some true)
    (g_NoParts : PySem.W.nsIn K mainGlobals "NoParts" = some (some (.ref C_NoParts)))
    (gc_NoParts : PySem.W.clsIn K C_NoParts = some cd_NoParts)
    (gt_NoParts : PySem.W.typeIn K (.ref C_NoParts) = some (.type "type"))
    (gm_NoParts : PySem.W.mroIn K C_NoParts (.ref C_NoParts) = some true)
    (g_NoAmount : PySem.W.nsIn K mainGlobals "NoAmount" = some (some (.ref C_NoAmount)))
    (gc_NoAmount : PySem.W.clsIn K C_NoAmount = some cd_NoAmount)
    (gt_NoAmount : PySem.W.typeIn K (.ref C_NoAmount) = some (.type "type"))
    (gm_NoAmount : PySem.W.mroIn K C_NoAmount (.ref C_NoAmount) = some true)
    (g_NoSpan : PySem.W.nsIn K mainGlobals "NoSpan" = some (some (.ref C_NoSpan)))
    (gc_NoSpan : PySem.W.clsIn K C_NoSpan = some cd_NoSpan)
    (gt_NoSpan : PySem.W.typeIn K (.ref C_NoSpan) = some (.type "type"))
    (gm_NoSpan : PySem.W.mroIn K C_NoSpan (.ref C_NoSpan) = some true)
    (g_TooLong : PySem.W.nsIn K mainGlobals "TooLong" = some (some (.ref C_TooLong)))
    (gc_TooLong : PySem.W.clsIn K C_TooLong = some cd_TooLong)
    (gt_TooLong : PySem.W.typeIn K (.ref C_TooLong) = some (.type "type"))
    (gm_TooLong : PySem.W.mroIn K C_TooLong (.ref C_TooLong) = some true)
    (g_NoAccount : PySem.W.nsIn K mainGlobals "NoAccount" = some (some (.ref C_NoAccount)))
    (gc_NoAccount : PySem.W.clsIn K C_NoAccount = some cd_NoAccount)
    (gt_NoAccount : PySem.W.typeIn K (.ref C_NoAccount) = some (.type "type"))
    (gm_NoAccount : PySem.W.mroIn K C_NoAccount (.ref C_NoAccount) = some true)
    (g_NoText : PySem.W.nsIn K mainGlobals "NoText" = some (some (.ref C_NoText)))
    (gc_NoText : PySem.W.clsIn K C_NoText = some cd_NoText)
    (gt_NoText : PySem.W.typeIn K (.ref C_NoText) = some (.type "type"))
    (gm_NoText : PySem.W.mroIn K C_NoText (.ref C_NoText) = some true)
    (g_NoRow : PySem.W.nsIn K mainGlobals "NoRow" = some (some (.ref C_NoRow)))
    (gc_NoRow : PySem.W.clsIn K C_NoRow = some cd_NoRow)
    (gt_NoRow : PySem.W.typeIn K (.ref C_NoRow) = some (.type "type"))
    (gm_NoRow : PySem.W.mroIn K C_NoRow (.ref C_NoRow) = some true)
    (g_NoEntry : PySem.W.nsIn K mainGlobals "NoEntry" = some (some (.ref C_NoEntry)))
    (gc_NoEntry : PySem.W.clsIn K C_NoEntry = some cd_NoEntry)
    (gt_NoEntry : PySem.W.typeIn K (.ref C_NoEntry) = some (.type "type"))
    (gm_NoEntry : PySem.W.mroIn K C_NoEntry (.ref C_NoEntry) = some true)
    (gx_NoAmount : PySem.W.excIn K C_NoAmount [.type "ValueError", .type "Exception", .type "BaseException", .type "object"] "ValueError.__new__" = true)
    (k_FIGURES : PySem.W.nsIn K mainGlobals "FIGURES" = some (some (.str "0123456789" tk_FIGURES)))
    (k_MOST_FIGURES : PySem.W.nsIn K mainGlobals "MOST_FIGURES" = some (some (.int 60 tk_MOST_FIGURES)))
    (z_len : PySem.W.nsIn K mainGlobals "len" = some none)
    (z_str : PySem.W.nsIn K mainGlobals "str" = some none)
    (z_abs : PySem.W.nsIn K mainGlobals "abs" = some none)
    (z_int : PySem.W.nsIn K mainGlobals "int" = some none)
    (z_range : PySem.W.nsIn K mainGlobals "range" = some none)
    (z_ord : PySem.W.nsIn K mainGlobals "ord" = some none)
    (z_isinstance : PySem.W.nsIn K mainGlobals "isinstance" = some none)
    (z_any : PySem.W.nsIn K mainGlobals "any" = some none)
    (z_ValueError : PySem.W.nsIn K mainGlobals "ValueError" = some none)
    (z_bool : PySem.W.nsIn K mainGlobals "bool" = some none)
    (xga_NoAmount : PySem.W.findIn K (.ref C_NoAmount) "__getattribute__" = some (some (.builtin "BaseException.__getattribute__")))
    (xgt_NoAmount : PySem.W.findIn K (.ref C_NoAmount) "__getattr__" = some none)
    (xcl_NoAmount : PySem.W.findIn K (.ref C_NoAmount) "__class__" = some (some (.builtin "object.__class__")))
    (xmo_NoAmount : PySem.W.mroIn K C_NoAmount (.type "object") = some true)
    (xmb_NoAmount : PySem.W.mroIn K C_NoAmount (.type "BaseException") = some true)
    (m_NoAmount_SpanError : PySem.W.mroIn K C_NoAmount (.ref C_SpanError) = some true)
    (m_NoAmount_NoDate : PySem.W.mroIn K C_NoAmount (.ref C_NoDate) = some false)
    (m_NoAmount_NoParts : PySem.W.mroIn K C_NoAmount (.ref C_NoParts) = some false)
    (m_NoAmount_NoAmount : PySem.W.mroIn K C_NoAmount (.ref C_NoAmount) = some true)
    (m_NoAmount_NoSpan : PySem.W.mroIn K C_NoAmount (.ref C_NoSpan) = some false)
    (m_NoAmount_TooLong : PySem.W.mroIn K C_NoAmount (.ref C_TooLong) = some false)
    (m_NoAmount_NoAccount : PySem.W.mroIn K C_NoAmount (.ref C_NoAccount) = some false)
    (m_NoAmount_NoText : PySem.W.mroIn K C_NoAmount (.ref C_NoText) = some false)
    (m_NoAmount_NoRow : PySem.W.mroIn K C_NoAmount (.ref C_NoRow) = some false)
    (m_NoAmount_NoEntry : PySem.W.mroIn K C_NoAmount (.ref C_NoEntry) = some false)
    (m_NoAmount_ValueError : PySem.W.mroIn K C_NoAmount (.type "ValueError") = some true)
    (m_SpanError_BaseException : PySem.W.mroIn K C_SpanError (.type "BaseException") = some true)
    : ∃ t, Txt K mg t :=
  ⟨{ a_show_amount := f0, d_show_amount := PySem.W.fnOf "show_amount" "show_amount" (defArgs s_show_amount) (defBody s_show_amount) (defScope s_show_amount) (.ref T0) kV0 dc0 pm0 an0 cd0 ct0,
     a_only_figures := f1, d_only_figures := PySem.W.fnOf "only_figures" "only_figures" (defArgs s_only_figures) (defBody s_only_figures) (defScope s_only_figures) .none kV1 dc1 pm1 an1 cd1 ct1,
     a_read_amount := f2, d_read_amount := PySem.W.fnOf "read_amount" "read_amount" (defArgs s_read_amount) (defBody s_read_amount) (defScope s_read_amount) (.ref T2) kV2 dc2 pm2 an2 cd2 ct2,
     a_xL_spoilt := f3, d_xL_spoilt := PySem.W.fnOf "_law_spoilt" "_law_spoilt" (defArgs s_xL_spoilt) (defBody s_xL_spoilt) (defScope s_xL_spoilt) .none kV3 dc3 pm3 an3 cd3 ct3,
     a_xL_due := f4, d_xL_due := PySem.W.fnOf "_law_due" "_law_due" (defArgs s_xL_due) (defBody s_xL_due) (defScope s_xL_due) .none kV4 dc4 pm4 an4 cd4 ct4,
     a_xL_alone := f5, d_xL_alone := PySem.W.fnOf "_law_alone" "_law_alone" (defArgs s_xL_alone) (defBody s_xL_alone) (defScope s_xL_alone) .none kV5 dc5 pm5 an5 cd5 ct5,
     a_xL_right := f6, d_xL_right := PySem.W.fnOf "_law_right" "_law_right" (defArgs s_xL_right) (defBody s_xL_right) (defScope s_xL_right) .none kV6 dc6 pm6 an6 cd6 ct6,
     a_law := f7, d_law := PySem.W.fnOf "law" "law" (defArgs s_law) (defBody s_law) (defScope s_law) .none kV7 dc7 pm7 an7 cd7 ct7,
     c_SpanError := C_SpanError,
     c_NoDate := C_NoDate,
     c_NoParts := C_NoParts,
     c_NoAmount := C_NoAmount,
     c_NoSpan := C_NoSpan,
     c_TooLong := C_TooLong,
     c_NoAccount := C_NoAccount,
     c_NoText := C_NoText,
     c_NoRow := C_NoRow,
     c_NoEntry := C_NoEntry },
   { mg_show_amount := PySem.W.mg_of X G ha0,
     fn_show_amount := funD_mk (st := s_show_amount) hl0 hc0 hk0,
     b_show_amount := binds_two fun s u v hk => .of_defaults rfl (hk _ _ ht0) rfl rfl rfl,
     bd_show_amount := ⟨_, binds_dflt fun s u hk => .of_defaults rfl (hk _ _ ht0) rfl rfl rfl⟩,
     kb_show_amount := kbinds_one fun s u v hk => .of_defaults rfl (hk _ _ ht0) rfl rfl rfl,
     mg_only_figures := PySem.W.mg_of X G ha1,
     fn_only_figures := fun_mk (st := s_only_figures) hl1 hc1 hk1,
     b_only_figures := (fun_mk (st := s_only_figures) hl1 hc1 hk1).binds (ps := ["text"]) fun _ _ _ _ _ _ us hl => match us, hl with | [_], _ => rfl,
     mg_read_amount := PySem.W.mg_of X G ha2,
     fn_read_amount := funD_mk (st := s_read_amount) hl2 hc2 hk2,
     b_read_amount := binds_two fun s u v hk => .of_defaults rfl (hk _ _ ht2) rfl rfl rfl,
     bd_read_amount := ⟨_, binds_dflt fun s u hk => .of_defaults rfl (hk _ _ ht2) rfl rfl rfl⟩,
     kb_read_amount := kbinds_one fun s u v hk => .of_defaults rfl (hk _ _ ht2) rfl rfl rfl,
     mg_xL_spoilt := PySem.W.mg_of X G ha3,
     fn_xL_spoilt := fun_mk (st := s_xL_spoilt) hl3 hc3 hk3,
     b_xL_spoilt := (fun_mk (st := s_xL_spoilt) hl3 hc3 hk3).binds (ps := ["_law_text", "_law_cell"]) fun _ _ _ _ _ _ us hl => match us, hl with | [_, _], _ => rfl,
     mg_xL_due := PySem.W.mg_of X G ha4,
     fn_xL_due := fun_mk (st := s_xL_due) hl4 hc4 hk4,
     b_xL_due := (fun_mk (st := s_xL_due) hl4 hc4 hk4).binds (ps := ["_law_text", "_law_behind"]) fun _ _ _ _ _ _ us hl => match us, hl with | [_, _], _ => rfl,
     mg_xL_alone := PySem.W.mg_of X G ha5,
     fn_xL_alone := fun_mk (st := s_xL_alone) hl5 hc5 hk5,
     b_xL_alone := (fun_mk (st := s_xL_alone) hl5 hc5 hk5).binds (ps := ["_law_error"]) fun _ _ _ _ _ _ us hl => match us, hl with | [_], _ => rfl,
     mg_xL_right := PySem.W.mg_of X G ha6,
     fn_xL_right := fun_mk (st := s_xL_right) hl6 hc6 hk6,
     b_xL_right := (fun_mk (st := s_xL_right) hl6 hc6 hk6).binds (ps := ["_law_text", "_law_behind"]) fun _ _ _ _ _ _ us hl => match us, hl with | [_, _], _ => rfl,
     mg_law := PySem.W.mg_of X G ha7,
     fn_law := fun_mk (st := s_law) hl7 hc7 hk7,
     b_law := (fun_mk (st := s_law) hl7 hc7 hk7).binds (ps := ["_law_script"]) fun _ _ _ _ _ _ us hl => match us, hl with | [_], _ => rfl,
     mg_SpanError := PySem.W.mg_of X G g_SpanError,
     cl_SpanError := ⟨by rw [gc_SpanError]; rfl, gt_SpanError, gm_SpanError⟩,
     mg_NoDate := PySem.W.mg_of X G g_NoDate,
     cl_NoDate := ⟨by rw [gc_NoDate]; rfl, gt_NoDate, gm_NoDate⟩,
     mg_NoParts := PySem.W.mg_of X G g_NoParts,
     cl_NoParts := ⟨by rw [gc_NoParts]; rfl, gt_NoParts, gm_NoParts⟩,
     mg_NoAmount := PySem.W.mg_of X G g_NoAmount,
     cl_NoAmount := ⟨by rw [gc_NoAmount]; rfl, gt_NoAmount, gm_NoAmount⟩,
     mg_NoSpan := PySem.W.mg_of X G g_NoSpan,
     cl_NoSpan := ⟨by rw [gc_NoSpan]; rfl, gt_NoSpan, gm_NoSpan⟩,
     mg_TooLong := PySem.W.mg_of X G g_TooLong,
     cl_TooLong := ⟨by rw [gc_TooLong]; rfl, gt_TooLong, gm_TooLong⟩,
     mg_NoAccount := PySem.W.mg_of X G g_NoAccount,
     cl_NoAccount := ⟨by rw [gc_NoAccount]; rfl, gt_NoAccount, gm_NoAccount⟩,
     mg_NoText := PySem.W.mg_of X G g_NoText,
     cl_NoText := ⟨by rw [gc_NoText]; rfl, gt_NoText, gm_NoText⟩,
     mg_NoRow := PySem.W.mg_of X G g_NoRow,
     cl_NoRow := ⟨by rw [gc_NoRow]; rfl, gt_NoRow, gm_NoRow⟩,
     mg_NoEntry := PySem.W.mg_of X G g_NoEntry,
     cl_NoEntry := ⟨by rw [gc_NoEntry]; rfl, gt_NoEntry, gm_NoEntry⟩,
     ex_NoAmount := ⟨_, _, _, PySem.F.excBase_ValueError, gx_NoAmount⟩,
     k_FIGURES := ⟨_, PySem.W.mg_of X G k_FIGURES, ⟨tk_FIGURES, congrArg (Value.str · tk_FIGURES) (by decide +kernel)⟩⟩,
     k_MOST_FIGURES := ⟨_, PySem.W.mg_of X G k_MOST_FIGURES, ⟨_, rfl⟩⟩,
     no_len := PySem.W.mg_none_of X G z_len,
     no_str := PySem.W.mg_none_of X G z_str,
     no_abs := PySem.W.mg_none_of X G z_abs,
     no_int := PySem.W.mg_none_of X G z_int,
     no_range := PySem.W.mg_none_of X G z_range,
     no_ord := PySem.W.mg_none_of X G z_ord,
     no_isinstance := PySem.W.mg_none_of X G z_isinstance,
     no_any := PySem.W.mg_none_of X G z_any,
     no_ValueError := PySem.W.mg_none_of X G z_ValueError,
     no_bool := PySem.W.mg_none_of X G z_bool,
     xc_NoAmount := ⟨by rw [gc_NoAmount]; rfl, xga_NoAmount, xgt_NoAmount, xcl_NoAmount, xmo_NoAmount, xmb_NoAmount⟩,
     m_NoAmount_SpanError := m_NoAmount_SpanError,
     m_NoAmount_NoDate := m_NoAmount_NoDate,
     m_NoAmount_NoParts := m_NoAmount_NoParts,
     m_NoAmount_NoAmount := m_NoAmount_NoAmount,
     m_NoAmount_NoSpan := m_NoAmount_NoSpan,
     m_NoAmount_TooLong := m_NoAmount_TooLong,
     m_NoAmount_NoAccount := m_NoAmount_NoAccount,
     m_NoAmount_NoText := m_NoAmount_NoText,
     m_NoAmount_NoRow := m_NoAmount_NoRow,
     m_NoAmount_NoEntry := m_NoAmount_NoEntry,
     m_NoAmount_ValueError := m_NoAmount_ValueError,
     m_SpanError_BaseException := m_SpanError_BaseException }⟩
theorem bind_law {K : PySem.W.Frag} {mg : Str → Option Value} {t : Adr} (T : Txt K mg t) : ∀ (s : Shared) (u : Value), BindsTo s t.d_law ⟨[u], []⟩ [("_law_script", u)] := by
  obtain ⟨oc, od, kV, doc, pm, an, cdv, ct, osl, e, lk, hcd⟩ := T.fn_law.ex
  intro s u
  rw [e]
  exact .of_eq rfl
theorem walk {l : PySem.W.OpenLaw} {q : Program} {loose : List Str} {XP : (Str → Option Value) → Heap → Prop} {YP : World → Heap → Prop} {d : DefRec} {K : Params → PySem.W.Frag} (hn : l.most = some 63) (hdf : d.params.defaults = [])
    (hY : ∀ (w : World) (h : Heap), YP w h → (K w.params).In h)
    (F : ∀ (w : World) (mg : Str → Option Value) (fa : Addr) (h : Heap), (K w.params).In h → h.Ns mainGlobals mg → mg d.name = some (.ref fa) →
      ∃ fd : FuncData, (∀ (s : Shared) (u : Value), BindsTo s fd ⟨[u], []⟩ [("_law_script", u)]) ∧ ∀ base : Heap, (K w.params).In base → base.Ns mainGlobals mg → FnOk l.prog w (K w.params) mg base (CXE l.prog w) 9 fa fd ["_law_script"] (spLaw (K w.params))) :
    PySem.W.WalkO q loose XP YP l.row.toRowW d [] (fun f vs => PySem.call f vs) :=
  L2.walk_of (n := 63) (k := 9) (x := "_law_script") (CX := fun w => CXE l.prog w) (sp := fun w => spLaw (K w.params)) hn (by decide) hdf ⟨rfl, by decide, by decide⟩ hY F (fun _ _ a ns hl _ hS => ⟨a, ns, rfl, hS, hl, fun _ => rfl⟩) fun _ _ _ _ _ ⟨_, _, _, _, _, z⟩ => z
end K14
open PySem PySem.W PyProof.Rows
set_option maxRecDepth 100000 in
set_option maxHeartbeats 0 in
theorem PySem.Challenge.cw_paidspan_k14_texts_of_no_amount_holds : PySem.Challenge.rw_paidspan_k14_texts_of_no_amount.Holds := by
  w_on; o_law; k_head; (case hw => w_witness2)
  k_fill
  refine K14.walk (l := PySem.Challenge.rw_paidspan_k14_texts_of_no_amount) rfl rfl (fun w h Y => PySem.W.kIn_of Y) ?F
  case F =>
    intro w mg fa h KX G hmg
    have T : ∃ t, K14.Txt (L2.KOf KX) mg t := by
      dsimp only [L2.KOf]
      refine' K14.txt_mk KX G ?ha0 ?hl0 ?hc0 ?hk0 ?ht0 ?ha1 ?hl1 ?hc1 ?hk1 ?ha2 ?hl2 ?hc2 ?hk2 ?ht2 ?ha3 ?hl3 ?hc3 ?hk3 ?ha4 ?hl4 ?hc4 ?hk4 ?ha5 ?hl5 ?hc5 ?hk5 ?ha6 ?hl6 ?hc6 ?hk6 ?ha7 ?hl7 ?hc7 ?hk7 ?g_SpanError ?gc_SpanError ?gt_SpanError ?gm_SpanError ?g_NoDate ?gc_NoDate ?gt_NoDate ?gm_NoDate ?g_NoParts ?gc_NoParts ?gt_NoParts ?gm_NoParts ?g_NoAmount ?gc_NoAmount ?gt_NoAmount ?gm_NoAmount ?g_NoSpan ?gc_NoSpan ?gt_NoSpan ?gm_NoSpan ?g_TooLong ?gc_TooLong ?gt_TooLong ?gm_TooLong ?g_NoAccount ?gc_NoAccount ?gt_NoAccount ?gm_NoAccount ?g_NoText ?gc_NoText ?gt_NoText ?gm_NoText ?g_NoRow ?gc_NoRow ?gt_NoRow ?gm_NoRow ?g_NoEntry ?gc_NoEntry ?gt_NoEntry ?gm_NoEntry ?gx_NoAmount ?k_FIGURES ?k_MOST_FIGURES ?z_len ?z_str ?z_abs ?z_int ?z_range ?z_ord ?z_isinstance ?z_any ?z_ValueError ?z_bool ?xga_NoAmount ?xgt_NoAmount ?xcl_NoAmount ?xmo_NoAmount ?xmb_NoAmount ?m_NoAmount_SpanError ?m_NoAmount_NoDate ?m_NoAmount_NoParts ?m_NoAmount_NoAmount ?m_NoAmount_NoSpan ?m_NoAmount_TooLong ?m_NoAmount_NoAccount ?m_NoAmount_NoText ?m_NoAmount_NoRow ?m_NoAmount_NoEntry ?m_NoAmount_ValueError ?m_SpanError_BaseException
      (case ha0 => k_is)
      (case hl0 => k_is)
      (case hc0 => k_is)
      (case hk0 => k_is)
      (case ht0 => k_is)
      (case ha1 => k_is)
      (case hl1 => k_is)
      (case hc1 => k_is)
      (case hk1 => k_is)
      (case ha2 => k_is)
      (case hl2 => k_is)
      (case hc2 => k_is)
      (case hk2 => k_is)
      (case ht2 => k_is)
      (case ha3 => k_is)
      (case hl3 => k_is)
      (case hc3 => k_is)
      (case hk3 => k_is)
      (case ha4 => k_is)
      (case hl4 => k_is)
      (case hc4 => k_is)
      (case hk4 => k_is)
      (case ha5 => k_is)
      (case hl5 => k_is)
      (case hc5 => k_is)
      (case hk5 => k_is)
      (case ha6 => k_is)
      (case hl6 => k_is)
      (case hc6 => k_is)
      (case hk6 => k_is)
      (case ha7 => k_is)
      (case hl7 => k_is)
      (case hc7 => k_is)
      (case hk7 => k_is)
      (case g_SpanError => k_is)
      (case gc_SpanError => k_is)
      (case gt_SpanError => k_is)
      (case gm_SpanError => k_is)
      (case g_NoDate => k_is)
      (case gc_NoDate => k_is)
      (case gt_NoDate => k_is)
      (case gm_NoDate => k_is)
      (case g_NoParts => k_is)
      (case gc_NoParts => k_is)
      (case gt_NoParts => k_is)
      (case gm_NoParts => k_is)
      (case g_NoAmount => k_is)
      (case gc_NoAmount => k_is)
      (case gt_NoAmount => k_is)
      (case gm_NoAmount => k_is)
      (case g_NoSpan => k_is)
      (case gc_NoSpan => k_is)
      (case gt_NoSpan => k_is)
      (case gm_NoSpan => k_is)
      (case g_TooLong => k_is)
      (case gc_TooLong => k_is)
      (case gt_TooLong => k_is)
      (case gm_TooLong => k_is)
      (case g_NoAccount => k_is)
      (case gc_NoAccount => k_is)
      (case gt_NoAccount => k_is)
      (case gm_NoAccount => k_is)
      (case g_NoText => k_is)
      (case gc_NoText => k_is)
      (case gt_NoText => k_is)
      (case gm_NoText => k_is)
      (case g_NoRow => k_is)
      (case gc_NoRow => k_is)
      (case gt_NoRow => k_is)
      (case gm_NoRow => k_is)
      (case g_NoEntry => k_is)
      (case gc_NoEntry => k_is)
      (case gt_NoEntry => k_is)
      (case gm_NoEntry => k_is)
      (case gx_NoAmount => k_exc)
      (case k_FIGURES => k_is)
      (case k_MOST_FIGURES => k_is)
      (case z_len => k_is)
      (case z_str => k_is)
      (case z_abs => k_is)
      (case z_int => k_is)
      (case z_range => k_is)
      (case z_ord => k_is)
      (case z_isinstance => k_is)
      (case z_any => k_is)
      (case z_ValueError => k_is)
      (case z_bool => k_is)
      (case xga_NoAmount => k_is)
      (case xgt_NoAmount => k_is)
      (case xcl_NoAmount => k_is)
      (case xmo_NoAmount => k_is)
      (case xmb_NoAmount => k_is)
      (case m_NoAmount_SpanError => k_is)
      (case m_NoAmount_NoDate => k_is)
      (case m_NoAmount_NoParts => k_is)
      (case m_NoAmount_NoAmount => k_is)
      (case m_NoAmount_NoSpan => k_is)
      (case m_NoAmount_TooLong => k_is)
      (case m_NoAmount_NoAccount => k_is)
      (case m_NoAmount_NoText => k_is)
      (case m_NoAmount_NoRow => k_is)
      (case m_NoAmount_NoEntry => k_is)
      (case m_NoAmount_ValueError => k_is)
      (case m_SpanError_BaseException => k_is)
    obtain ⟨t, T⟩ := T
    have e0 := hmg.symm.trans T.mg_law
    cases e0
    refine ⟨_, ?b, fun base _ _ => (K14.ok_law T).mono (by decide)⟩
    exact K14.bind_law T

