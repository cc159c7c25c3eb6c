import PyProof.Rows.All
import Wide.All
import OpenK.AllK
import Wide.FinOn
import Lean
import PyProof.EqAt
import PyProof.EqKinds
import PyProof.TupleCall
import PySem.Challenge.RW_onecurve_k27_steps_that_come
set_option Elab.async false
set_option linter.all false
set_option maxRecDepth 100000
/-! THE HAND LAYER, for ints, bools, texts, own classes, LISTS and tuples (index, slices, in, append, pop ..), calls, loops. Paste it whole ahead of your own text; what your proof does not reach may be deleted. -/
namespace L2
open PySem PySem.Spec PyProof.Rows

/-- a key: an int or a str -/
abbrev Key := Sum Int Str
def keyIs : Key → Value → Bool
  | .inl k, v => Value.isInt k v
  | .inr x, v => Value.isStrOf x v
def keyH (w : World) : Key → Int
  | .inl k => hashInt k
  | .inr x => hashStr w x
theorem keyIs_shape : ∀ {k : Key} {v : Value}, keyIs k v = true → (∃ i t, k = Sum.inl i ∧ v = Value.int i t) ∨ (∃ x t, k = Sum.inr x ∧ v = Value.str x t)
  | .inl i, v, h => by
    obtain ⟨t, e⟩ := Value.isInt_shape (k := i) (v := v) h
    exact .inl ⟨i, t, rfl, e⟩
  | .inr x, v, h => by
    obtain ⟨t, e⟩ := Value.isStrOf_shape (x := x) (v := v) h
    exact .inr ⟨x, t, rfl, e⟩
theorem keyIs_int (i : Int) (t : Tok) : keyIs (.inl i) (.int i t) = true := by simp [keyIs, Value.isInt]
theorem keyIs_str (x : Str) (t : Tok) : keyIs (.inr x) (.str x t) = true := by simp [keyIs, Value.isStrOf]
theorem key_ll (a b : Int) : decide ((Sum.inl a : Key) = Sum.inl b) = (a == b) := by
  by_cases e : a = b
  · subst e; simp
  · have h : ¬ (Sum.inl a : Key) = Sum.inl b := fun q => e (Sum.inl.inj q)
    rw [decide_eq_false h]
    exact (beq_eq_false_iff_ne.mpr e).symm
theorem key_rr (a b : Str) : decide ((Sum.inr a : Key) = Sum.inr b) = decide (a = b) := by
  by_cases e : a = b
  · subst e; simp
  · have h : ¬ (Sum.inr a : Key) = Sum.inr b := fun q => e (Sum.inr.inj q)
    rw [decide_eq_false h, decide_eq_false e]
theorem key_lr (a : Int) (b : Str) : decide ((Sum.inl a : Key) = Sum.inr b) = false := decide_eq_false (fun q => nomatch q)
theorem key_rl (a : Str) (b : Int) : decide ((Sum.inr a : Key) = Sum.inl b) = false := decide_eq_false (fun q => nomatch q)

def mixKind (prog : Program) (w : World) : PySem.KeyKind prog w Key where
  is := keyIs
  hash := keyH w
  inj := fun v a b ha hb => by
    rcases keyIs_shape ha with ⟨i, t, rfl, rfl⟩ | ⟨x, t, rfl, rfl⟩
    · rcases keyIs_shape hb with ⟨j, u, rfl, e⟩ | ⟨y, u, rfl, e⟩
      · injection e with e1 _; rw [e1]
      · exact nomatch e
    · rcases keyIs_shape hb with ⟨j, u, rfl, e⟩ | ⟨y, u, rfl, e⟩
      · exact nomatch e
      · injection e with e1 _; rw [e1]
  byValue := fun k v h => by
    rcases keyIs_shape h with ⟨i, t, rfl, rfl⟩ | ⟨x, t, rfl, rfl⟩ <;> rfl
  pyHash := fun hv h => by
    rcases keyIs_shape hv with ⟨i, t, rfl, rfl⟩ | ⟨x, t, rfl, rfl⟩
    · exact wpAny_pyHash_int h
    · exact wpAny_pyHash_str h
  eqBool := fun hu hv h => by
    rcases keyIs_shape hu with ⟨i, t, rfl, rfl⟩ | ⟨x, t, rfl, rfl⟩
    · rcases keyIs_shape hv with ⟨j, u, rfl, rfl⟩ | ⟨y, u, rfl, rfl⟩
      · rw [key_ll] at h; exact wpAny_eqBool_int h
      · rw [key_lr] at h; exact SeqAt.EqAt.int_str i t y u _ _ _ _ h
    · rcases keyIs_shape hv with ⟨j, u, rfl, rfl⟩ | ⟨y, u, rfl, rfl⟩
      · rw [key_rl] at h; exact SeqAt.EqAt.str_int x t j u _ _ _ _ h
      · rw [key_rr] at h; exact wpAny_eqBool_str h
  «strs» := fun k x t v h => by
    rcases keyIs_shape h with ⟨i, u, rfl, e⟩ | ⟨y, u, rfl, e⟩
    · exact nomatch e
    · injection e with e1 _
      subst e1
      cases v <;> rfl

theorem mixKind_int (prog : Program) (w : World) (i : Int) (t : Tok) : (mixKind prog w).is (.inl i) (.int i t) = true := keyIs_int i t
theorem mixKind_str (prog : Program) (w : World) (x : Str) (t : Tok) : (mixKind prog w).is (.inr x) (.str x t) = true := keyIs_str x t
end L2

namespace L2
open PySem PySem.Spec PyProof.Rows

/-- a value, without the heap -/
inductive V where
  | non | bl (b : Bool) | int (i : Int) | str (x : Str) | byt (b : Array UInt8) | flt (b : UInt64) | ref (a : Addr) | ty (n : String)
  deriving DecidableEq

def RelV : V → Value → Prop
  | .non, u => u = Value.none
  | .bl b, u => u = Value.bool b
  | .int i, u => ∃ t, u = Value.int i t
  | .str x, u => ∃ t, u = Value.str x t
  | .byt b, u => ∃ t, u = Value.bytes b t
  | .flt b, u => ∃ t, u = Value.float b t
  | .ref a, u => u = Value.ref a
  | .ty n, u => u = Value.type n

abbrev Vals : List V → List Value → Prop := Paired RelV
theorem Vals.length {xs : List V} {us : List Value} (r : Vals xs us) : xs.length = us.length := Paired.length r
theorem Vals.get : ∀ {xs : List V} {us : List Value} {i : Nat} {x : V}, Vals xs us → xs[i]? = some x → ∃ u, us[i]? = some u ∧ RelV x u
  | _, _, _, _, .nil, e => by simp at e
  | _, _, 0, _, .cons r _, e => by simp at e; subst e; exact ⟨_, rfl, r⟩
  | _, _, i + 1, x, .cons _ t, e => by
    obtain ⟨u, h1, h2⟩ := Vals.get (i := i) (x := x) t (by simpa using e)
    exact ⟨u, by simpa using h1, h2⟩
theorem Vals.set {x : V} {u : Value} (r : RelV x u) : ∀ {xs : List V} {us : List Value} (i : Nat), Vals xs us → Vals (xs.set i x) (us.set i u)
  | _, _, _, .nil => .nil
  | _, _, 0, .cons _ t => .cons r t
  | _, _, i + 1, .cons q t => .cons q (Vals.set r i t)
theorem Vals.append {xs ys : List V} {us ws : List Value} (a : Vals xs us) (b : Vals ys ws) : Vals (xs ++ ys) (us ++ ws) := by
  induction a with
  | nil => exact b
  | cons r t ih => exact .cons r ih
theorem Vals.take : ∀ {xs : List V} {us : List Value} (n : Nat), Vals xs us → Vals (xs.take n) (us.take n)
  | _, _, 0, _ => .nil
  | _, _, _ + 1, .nil => .nil
  | _, _, n + 1, .cons r t => .cons r (Vals.take n t)
theorem Vals.drop : ∀ {xs : List V} {us : List Value} (n : Nat), Vals xs us → Vals (xs.drop n) (us.drop n)
  | _, _, 0, r => r
  | _, _, _ + 1, .nil => .nil
  | _, _, n + 1, .cons _ t => Vals.drop n t
def RelO : Option V → Option Value → Prop
  | some v, some u => RelV v u
  | none, none => True
  | _, _ => False
def KV {κ : Type} : List (κ × V) → List (κ × Value) → Prop := Paired fun (p : κ × V) (q : κ × Value) => p.1 = q.1 ∧ RelV p.2 q.2

/-- a key of a dict (00_mix): an int or a text -/
def kV : Key → V
  | .inl i => .int i
  | .inr x => .str x

/-- what stands at a tracked address -/
inductive HO where
  /-- a list -/
  | lst (xs : List V)
  /-- a tuple (never changes) -/
  | tup (xs : List V)
  /-- a dict whose keys are ints and texts; one whose keys are tuples of ints and texts (the empty one is both) -/
  | dK (kvs : List (Key × V)) | dT (kvs : List (List Key × V))
  /-- a set of ints: its members, its size -/
  | set (S : Int → Bool) (n : Nat)
  /-- an instance of the class at C, its dict at dx, its attributes -/
  | ins (C dx : Addr) (fs : List (Str × V))
  /-- the dict of the instance at x -/
  | own (x : Addr)
  /-- the dict of an exception -/
  | xd (fs : List (Str × V))
  /-- a bound method, f of x -/
  | met (f x : Addr)
  /-- a range object lo, lo + 1, .. below hi -/
  | rng (lo hi : Int)
  /-- a thing that is known to the object (the script; a dict while a loop walks it): read, never written while it is so -/
  | frz (o : Obj) (u : HO)
  /-- a code object's table -/
  | tbl (ps : Array Value)
  /-- any other thing, by what is true of its one object (a def of one's own: SetO a S n := HO.ext fun h => ..) -/
  | ext (φ : Heap → Prop)

abbrev Hp := Addr → Option HO
def upd (H : Hp) (a : Addr) (o : HO) : Hp := fun b => if b = a then some o else H b
theorem upd_same {H : Hp} {a : Addr} {o : HO} : upd H a o a = some o := by unfold upd; rw [if_pos rfl]
theorem upd_ne {H : Hp} {a b : Addr} {o : HO} (h : b ≠ a) : upd H a o b = H b := by unfold upd; rw [if_neg h]
theorem upd_upd {H : Hp} {a : Addr} {o u : HO} : upd (upd H a o) a u = upd H a u := by
  funext b; unfold upd; split <;> rfl
/-- two objects of different content stand apart -/
theorem ne_of {H : Hp} {a b : Addr} {o u : HO} (h : H a = some o) (h' : H b = some u) (d : o ≠ u) : a ≠ b := by
  intro e; subst e; rw [h] at h'; exact d (Option.some.inj h')
theorem ne_of_none {H : Hp} {a b : Addr} {o : HO} (h : H a = some o) (h' : H b = none) : a ≠ b := by
  intro e; subst e; rw [h] at h'; cases h'

section
variable (P : Program) (w : World)
def ObjOk (H : Hp) (h : Heap) (a : Addr) : HO → Prop
  | .lst xs => xs.length ≤ sizeLine ∧ ∃ (its : List Value) (n : Nat), Vals xs its ∧ h.get? a = some { cls := .type "list", data := .seq its.toArray n }
  | .tup xs => xs.length ≤ sizeLine ∧ ∃ its : List Value, Vals xs its ∧ IsTup h a its.toArray
  | .dK kvs => kvs.length ≤ sizeLine ∧ (a == sysModules) = false ∧ ∃ vs, KV kvs vs ∧ h.DictOf (mixKind P w) a vs
  | .dT kvs => kvs.length ≤ sizeLine ∧ (a == sysModules) = false ∧ ∃ xs : List (List Key × Addr × Value),
      Paired (fun (p : List Key × V) (q : List Key × Addr × Value) => p.1 = q.1 ∧ H q.2.1 = some (.tup (p.1.map kV)) ∧ RelV p.2 q.2.2) kvs xs ∧
      ∃ o es ep, h.get? a = some o ∧ o.ExactDict ∧ o.data = .dict es ep ∧ es.toList = xs.map (entryOfKey (tupleKind (mixKind P w))) ∧ (xs.map (·.1)).Nodup
  | .set S n => h.SetOf (intKind P w) a S n
  | .ins C dx fs => H dx = some (.own a) ∧ fs.length ≤ 1000 ∧ dx ≠ a ∧ h.get? a = some (PySem.W.instObj C dx) ∧
      ∃ mA, h.Ns1 dx mA ∧ (∀ f, RelO (fs.lookup f) (mA f)) ∧ PySem.Within mA (fs.map (·.1))
  | .own _ => ∃ o, h.get? a = some o
  | .xd fs => ∃ mA, h.Ns1 a mA ∧ ∀ f, RelO (fs.lookup f) (mA f)
  | .rng lo hi => ∃ t u v, h.get? a = some { cls := .type "range", data := .fields #[.int lo t, .int hi u, .int 1 v] }
  | .frz o u => h.get? a = some o ∧ ObjOk H h a u
  | .tbl ps => h.get? a = some { cls := .none, data := .fields ps }
  | .met f x => h.get? a = some (PySem.W.methodObj (.ref f) (.ref x))
  | .ext φ => φ h ∧ (∃ o, h.get? a = some o) ∧ ∀ h1 h2 : Heap, φ h1 → (∀ o, h1.get? a = some o → h2.get? a = some o) → φ h2
/-- the abstract heap is held -/
def HOk (H : Hp) (h : Heap) : Prop := ∀ a o, H a = some o → ObjOk P w H h a o
end

section
variable {P : Program} {w : World} {H H' : Hp} {h h' : Heap} {a : Addr} {o : HO}
theorem ObjOk.lt (x : ObjOk P w H h a o) : a < h.objs.size := by
  cases o with
  | lst xs => obtain ⟨_, _, _, _, e⟩ := x; exact Heap.lt_size e
  | tup xs => obtain ⟨_, _, _, p⟩ := x; exact p.lt
  | dK kvs => obtain ⟨_, _, _, _, o, _, _, e, _⟩ := x; exact Heap.lt_size e
  | dT kvs => obtain ⟨_, _, _, _, o, _, _, e, _⟩ := x; exact Heap.lt_size e
  | set S n => obtain ⟨o, _, _, _, e, _⟩ := x; exact Heap.lt_size e
  | ins C dx fs => obtain ⟨_, _, _, e, _⟩ := x; exact Heap.lt_size e
  | own y => obtain ⟨_, e⟩ := x; exact Heap.lt_size e
  | xd fs => obtain ⟨_, ⟨_, _, _, e, _⟩, _⟩ := x; exact Heap.lt_size e
  | rng lo hi => obtain ⟨_, _, _, e⟩ := x; exact Heap.lt_size e
  | frz ob u => obtain ⟨e, _⟩ := x; exact Heap.lt_size e
  | tbl ps => exact Heap.lt_size (show h.get? a = some _ from x)
  | met f y => exact Heap.lt_size (show h.get? a = some _ from x)
  | ext φ => obtain ⟨_, ⟨_, e⟩, _⟩ := x; exact Heap.lt_size e
theorem Paired.mapP {α β : Type} {F G : α → β → Prop} {l₁ : List α} {l₂ : List β} (h : Paired F l₁ l₂) (f : ∀ a b, F a b → G a b) : Paired G l₁ l₂ := by
  induction h with
  | nil => exact .nil
  | cons r t ih => exact .cons (f _ _ r) ih
/-- what an object's description leans on: its own object, its own dict, the tuples -/
theorem ObjOk.stay (x : ObjOk P w H h a o) (k : ∀ b u, (b = a ∨ H b = some (.own a)) → h.get? b = some u → h'.get? b = some u)
    (ho : ∀ b, H b = some (.own a) → H' b = some (.own a)) (ht : ∀ b xs, H b = some (.tup xs) → H' b = some (.tup xs)) : ObjOk P w H' h' a o := by
  induction o with
  | lst xs => obtain ⟨z, its, n, r, e⟩ := x; exact ⟨z, its, n, r, k _ _ (.inl rfl) e⟩
  | tup xs => obtain ⟨z, its, r, ob, e, c⟩ := x; exact ⟨z, its, r, ob, k _ _ (.inl rfl) e, c⟩
  | dK kvs => obtain ⟨z, y, vs, r, ob, es, ep, e, c⟩ := x; exact ⟨z, y, vs, r, ob, es, ep, k _ _ (.inl rfl) e, c⟩
  | dT kvs =>
    obtain ⟨z, y, xs, r, ob, es, ep, e, c⟩ := x
    exact ⟨z, y, xs, Paired.mapP r fun p q z => ⟨z.1, ht _ _ z.2.1, z.2.2⟩, ob, es, ep, k _ _ (.inl rfl) e, c⟩
  | set S n => obtain ⟨ob, es, ep, t, e, c⟩ := x; exact ⟨ob, es, ep, t, k _ _ (.inl rfl) e, c⟩
  | ins C dx fs =>
    obtain ⟨d, z, ne, e, mA, ⟨od, es, ep, e2, c⟩, r⟩ := x
    exact ⟨ho _ d, z, ne, k _ _ (.inl rfl) e, mA, ⟨od, es, ep, k _ _ (.inr d) e2, c⟩, r⟩
  | own y => obtain ⟨ob, e⟩ := x; exact ⟨ob, k _ _ (.inl rfl) e⟩
  | xd fs => obtain ⟨mA, ⟨od, es, ep, e, c⟩, r⟩ := x; exact ⟨mA, ⟨od, es, ep, k _ _ (.inl rfl) e, c⟩, r⟩
  | rng lo hi => obtain ⟨t, u, v, e⟩ := x; exact ⟨t, u, v, k _ _ (.inl rfl) e⟩
  | frz ob u ih => obtain ⟨e, q⟩ := x; exact ⟨k _ _ (.inl rfl) e, ih q⟩
  | tbl ps =>
    have e : h.get? a = some { cls := .none, data := .fields ps } := x
    show h'.get? a = some { cls := .none, data := .fields ps }
    exact k a _ (.inl rfl) e
  | met f y =>
    have e : h.get? a = some (PySem.W.methodObj (.ref f) (.ref y)) := x
    show h'.get? a = some (PySem.W.methodObj (.ref f) (.ref y))
    exact k a _ (.inl rfl) e
  | ext φ => obtain ⟨p, ⟨o, e⟩, st⟩ := x; exact ⟨st _ _ p fun o q => k _ _ (.inl rfl) q, ⟨o, k _ _ (.inl rfl) e⟩, st⟩
theorem HOk.lt (x : HOk P w H h) (e : H a = some o) : a < h.objs.size := (x a o e).lt
theorem HOk.fresh (x : HOk P w H h) (e : h.objs.size ≤ a) : H a = none := by
  cases q : H a with
  | none => rfl
  | some u => exact absurd (Nat.lt_of_lt_of_le (x.lt q) e) (Nat.lt_irrefl _)
/-- every object of the heap is kept -/
theorem HOk.kept (x : HOk P w H h) (k : ∀ b u, h.get? b = some u → h'.get? b = some u) : HOk P w H h' := fun a o e =>
  (x a o e).stay (fun b u _ q => k b u q) (fun _ q => q) fun _ _ q => q
/-- a new object is laid and tracked -/
theorem HOk.laid (x : HOk P w H h) (k : ∀ b u, h.get? b = some u → h'.get? b = some u) (hp : h.objs.size ≤ a) (new : ObjOk P w (upd H a o) h' a o) : HOk P w (upd H a o) h' := fun b u e => by
  have hn := x.fresh hp
  by_cases hb : b = a
  · subst hb; rw [upd_same] at e; cases e; exact new
  · rw [upd_ne hb] at e
    exact (x b u e).stay (fun c v _ q => k c v q) (fun c q => by rw [upd_ne (ne_of_none q hn)]; exact q) fun c xs q => by rw [upd_ne (ne_of_none q hn)]; exact q
end

/-- what may be read as u: it is u, or a known u -/
def Rd (H : Hp) (a : Addr) (u : HO) : Prop := H a = some u ∨ ∃ o, H a = some (.frz o u)
theorem Rd.ok {P : Program} {w : World} {H : Hp} {h : Heap} {a : Addr} {u : HO} (r : Rd H a u) (x : HOk P w H h) : ObjOk P w H h a u := by
  rcases r with r | ⟨o, r⟩
  · exact x a u r
  · obtain ⟨_, q⟩ := x a _ r
    exact q
/-- what may be written -/
def Mut : Option HO → Prop
  | some (.lst _) => True
  | some (.dK _) => True
  | some (.dT _) => True
  | some (.set _ _) => True
  | some (.ins _ _ _) => True
  | some (.ext _) => True
  | _ => False
section
variable {P : Program} {w : World} {H : Hp} {h h' : Heap} {x e : Addr} {o' : HO}
/-- the object at e is changed: x itself, or the dict of the instance x -/
theorem HOk.write (ok : HOk P w H h) (mu : Mut (H x)) (he : e = x ∨ H e = some (.own x)) (k : ∀ b u, b ≠ e → h.get? b = some u → h'.get? b = some u) (heo : ∃ u, h'.get? e = some u)
    (new : ObjOk P w (upd H x o') h' x o') : HOk P w (upd H x o') h' := fun b u q => by
  have nown : ∀ c y, H c = some (.own y) → c ≠ x := fun c y r z => by subst z; rw [r] at mu; exact mu
  have ntup : ∀ c xs, H c = some (.tup xs) → c ≠ x := fun c xs r z => by subst z; rw [r] at mu; exact mu
  by_cases hb : b = x
  · subst hb; rw [upd_same] at q; cases q; exact new
  · rw [upd_ne hb] at q
    by_cases hbe : b = e
    · have q' : H b = some (.own x) := by
        rcases he with z | z
        · exact absurd (hbe.trans z) hb
        · rw [hbe]; exact z
      rw [q] at q'; cases q'
      obtain ⟨v, hv⟩ := heo
      exact ⟨v, by rw [hbe]; exact hv⟩
    · refine (ok b u q).stay (fun c v hc r => k c v ?_ r) (fun c r => by rw [upd_ne (nown c b r)]; exact r) fun c xs r => by rw [upd_ne (ntup c xs r)]; exact r
      rcases hc with rfl | hc
      · exact hbe
      · rintro rfl
        rcases he with z | z
        · exact nown c b hc z
        · rw [hc] at z; cases z; exact hb rfl
end

/-! ### kept unless tracked; of the frames at fs (the callers') the slots may change (an exception that passes writes there); of the records at ex (iterators) nothing is said -/
structure Un (fs ex : List Addr) (H H' : Hp) (h h' : Heap) : Prop where
  keep : ∀ b o, h.get? b = some o → H b = none → b ∉ fs → b ∉ ex → h'.get? b = some o
  slot : ∀ b o, h.get? b = some o → H b = none → b ∈ fs → b ∉ ex → ∃ sl, h'.get? b = some { o with slots := sl }
  free : ∀ b o, h.get? b = some o → H b = none → b ∉ ex → H' b = none
  there : ∀ b o, h.get? b = some o → b ∉ ex → ∃ o', h'.get? b = some o'
  tups : ∀ b xs, H b = some (.tup xs) → H' b = some (.tup xs)
  frzs : ∀ b o u, H b = some (.frz o u) → H' b = some (.frz o u)
  tbls : ∀ b ps, H b = some (.tbl ps) → ∃ more, H' b = some (.tbl (ps ++ more))
section
variable {fs fs' ex ex' : List Addr} {H H1 H2 : Hp} {h h1 h2 h' : Heap} {a x e : Addr} {o : HO}
theorem Un.any (u : Un fs ex H H1 h h1) {b : Addr} {ob : Obj} (q : h.get? b = some ob) (n : H b = none) (hx : b ∉ ex) : ∃ sl, h1.get? b = some { ob with slots := sl } := by
  by_cases hb : b ∈ fs
  · exact u.slot b ob q n hb hx
  · exact ⟨ob.slots, u.keep b ob q n hb hx⟩
theorem Un.kept (k : ∀ b u, h.get? b = some u → h'.get? b = some u) : Un fs ex H H h h' :=
  ⟨fun b ob q _ _ _ => k b ob q, fun b ob q _ _ _ => ⟨ob.slots, k b ob q⟩, fun _ _ _ n _ => n, fun b ob q _ => ⟨ob, k b ob q⟩, fun _ _ q => q, fun _ _ _ q => q, fun _ ps q => ⟨#[], by rw [q]; simp⟩⟩
theorem Un.refl : Un fs ex H H h h := Un.kept fun _ _ q => q
theorem Un.laid (k : ∀ b u, h.get? b = some u → h'.get? b = some u) (hp : h.objs.size ≤ a) (hn : H a = none) : Un fs ex H (upd H a o) h h' where
  keep := fun b u q _ _ _ => k b u q
  slot := fun b u q _ _ _ => ⟨u.slots, k b u q⟩
  free := fun b u q n _ => by rw [upd_ne (Nat.ne_of_lt (Nat.lt_of_lt_of_le (Heap.lt_size q) hp))]; exact n
  there := fun b u q _ => ⟨u, k b u q⟩
  tups := fun b xs q => by rw [upd_ne (ne_of_none q hn)]; exact q
  frzs := fun b u xs q => by rw [upd_ne (ne_of_none q hn)]; exact q
  tbls := fun b ps q => ⟨#[], by rw [upd_ne (ne_of_none q hn), q]; simp⟩
theorem Un.write (mu : Mut (H x)) (he : e = x ∨ H e = some (.own x)) (k : ∀ b u, b ≠ e → h.get? b = some u → h'.get? b = some u) (heo : ∃ u, h'.get? e = some u) : Un fs ex H (upd H x o) h h' := by
  have hx : ∀ b, H b = none → b ≠ x := fun b n z => by subst z; rw [n] at mu; exact mu
  have hb : ∀ b, H b = none → b ≠ e := fun b n z => by
    subst z
    rcases he with r | r
    · exact hx b n r
    · rw [n] at r; cases r
  have hm : ∀ b u, H b = some u → ¬ Mut (some u) → b ≠ x := fun b u q nm z => by subst z; rw [q] at mu; exact nm mu
  refine ⟨fun b u q n _ _ => k b u (hb b n) q, fun b u q n _ _ => ⟨u.slots, k b u (hb b n) q⟩, fun b u q n _ => by rw [upd_ne (hx b n)]; exact n, fun b u q _ => ?_,
    fun b xs q => by rw [upd_ne (hm b _ q fun z => z)]; exact q, fun b u xs q => by rw [upd_ne (hm b _ q fun z => z)]; exact q, fun b ps q => ⟨#[], by rw [upd_ne (hm b _ q fun z => z), q]; simp⟩⟩
  by_cases hbe : b = e
  · subst hbe; exact heo
  · exact ⟨u, k b u hbe q⟩
end

/-! ### the heap without what is tracked -/
def trk (h : Heap) (H : Hp) : List Addr := (List.range h.objs.size).filter fun a => (H a).isSome
def hidT (h : Heap) (H : Hp) : Heap := PySem.W.hideAll h (trk h H)
theorem hidT_size (h : Heap) (H : Hp) : (hidT h H).objs.size = h.objs.size := PySem.W.hideAll_size _ _
theorem hidT_get {h : Heap} {H : Hp} {b : Addr} {o : Obj} (e : h.get? b = some o) (n : H b = none) : (hidT h H).get? b = some o :=
  PySem.W.hideAll_get _ e fun hm => by
    have q : (H b).isSome = true := (List.mem_filter.mp hm).2
    rw [n] at q; simp at q
theorem of_hidT {h : Heap} {H : Hp} {b : Addr} {o : Obj} (e : (hidT h H).get? b = some o) : h.get? b = some o ∧ H b = none := by
  have e' : h.get? b = some o := PySem.W.of_hideAll (trk h H) e
  refine ⟨e', ?_⟩
  cases q : H b with
  | none => rfl
  | some x =>
    have hm : b ∈ trk h H := List.mem_filter.mpr ⟨List.mem_range.mpr (Heap.lt_size e'), by simp [q]⟩
    have z : (hidT h H).get? b = none := PySem.W.hideAll_none (trk h H) hm
    rw [z] at e; cases e

/-! ### OpenK's ledger, filled with every new object but one -/
def allNews (g h : Heap) (L : Addr) : List (Addr × Obj) := (List.range h.objs.size).filterMap fun a => if a = L ∨ (g.get? a).isSome = true then none else (h.get? a).map fun o => (a, o)
def rest (g h : Heap) (L d : Addr) : List (Addr × Obj) := (allNews g h L).filter fun p => decide (p.1 ≠ d)
end L2

namespace L2
open PySem PySem.Spec PyProof.Rows

/-- the module's facts, over the base: the heap at the law's entry without what is tracked there -/
structure Mod (K : PySem.W.Frag) (mg : Str → Option Value) (base : Heap) : Prop where
  kin : K.In base
  glob : base.Ns mainGlobals mg
  blt : ∃ mb, base.Ns builtinsNs mb ∧ ∀ x : Str, x ≠ "__name__" → mb x = bootBuiltins x
  nolimit : base.NoLimit
  seer : base.NoSeer

/-- the context: a def's body (or a comprehension's block) running. base: fixed through the whole law; s₀, H₀: the entry; outer: the frames whose slots others may change (a def's callers); stack: all frames that run;
   ex: iterators that were made ahead of the entry and are walked here (a comprehension's); fn: the names whose cells were made at the entry (a def: all; a comprehension's block: its own); calm: not within an except suite; pn: pins that every state bears; xe: what is wanted of an exception that leaves the code -/
structure Cx where
  prog : Program
  w : World
  K : PySem.W.Frag
  mg : Str → Option Value
  base : Heap
  A : Around
  N : List Str
  s₀ : Shared
  H₀ : Hp
  env : Env
  outer : List Env
  stack : List Env
  ex : List Addr
  fn : Str → Bool
  calm : Bool
  pn : List (Addr × Obj)
  xe : Value → Shared → Prop
/-- the callers' frames -/
def frs (l : List Env) : List Addr := l.filterMap (·.frame)
abbrev Cx.fs (X : Cx) : List Addr := frs X.outer

def Vis (sc : Scope) (x : Str) : Prop := sc.names.lookup x = some .local ∨ sc.names.lookup x = some .cell ∨ sc.names.lookup x = some .free
def Loc (sc : Scope) (x : Str) : Prop := sc.names.lookup x = some .local ∨ sc.names.lookup x = some .cell
def Look (env : Env) (h : Heap) (m : Str → Option Value) (x : Str) (u : Value) : Prop :=
  (env.kindOf x = some .local ∧ m x = some u) ∨ ((env.kindOf x = some .cell ∨ env.kindOf x = some .free) ∧ ∃ c, env.cells.lookup x = some c ∧ h.IsCell c (some u))

structure Cx.Ok (X : Cx) : Prop where
  mod : Mod X.K X.mg X.base
  kind : X.env.scope.kind = .function
  glob : X.env.globals = mainGlobals
  blt : X.env.builtins = builtinsNs
  above : X.s₀.heap.objs.size ≤ X.env.locals
  inj : ∀ x y c, X.env.cells.lookup x = some c → X.env.cells.lookup y = some c → x = y
  has : ∀ x, (X.env.kindOf x = some .cell ∨ X.env.kindOf x = some .free) → ∃ c, X.env.cells.lookup x = some c
  cab : ∀ x c, X.fn x = true → X.env.cells.lookup x = some c → X.s₀.heap.objs.size ≤ c
  hd : X.calm = true → X.A.handled = none
  frames : X.A.frames = some X.stack
  stk : X.stack = X.outer ∨ (X.stack = X.env :: X.outer ∧ X.env.frame = some X.env.locals)
  exf : ∀ b ∈ X.ex, b ≠ X.env.locals ∧ ∀ x c, X.env.cells.lookup x = some c → c ≠ b
  bs : ∀ b o, X.base.get? b = some o → X.s₀.heap.get? b = some o ∧ X.H₀ b = none
  bsz : X.base.objs.size ≤ X.s₀.heap.objs.size
  noex : ∀ b o, X.base.get? b = some o → b ∉ X.ex
  exfs : ∀ b ∈ X.ex, b ∉ X.fs
  funs : X.s₀.heap.FunFrames X.base X.outer
  frf : ∀ b ∈ X.fs, X.H₀ b = none

structure Inv (X : Cx) (pins : List (Addr × Obj)) (σ : List (Option V)) (H : Hp) (s : Shared) : Prop where
  ok : X.Ok
  os : s.os = X.s₀.os
  bare : AllBare s.gens
  base : Un X.fs X.ex X.H₀ H X.s₀.heap s.heap
  loc : ∃ m, s.heap.Ns X.env.locals m ∧ ∀ (i : Nat) (x : Str) (v : V), X.N[i]? = some x → σ[i]? = some (some v) → Vis X.env.scope x → ∃ u, RelV v u ∧ Look X.env s.heap m x u
  cell : ∀ x c, X.env.cells.lookup x = some c → ∃ v, s.heap.IsCell c v
  free : H X.env.locals = none
  freeC : ∀ x c, X.env.cells.lookup x = some c → H c = none
  pin : ∀ p ∈ X.pn ++ pins, s.heap.get? p.1 = some p.2 ∧ H p.1 = none ∧ p.1 ≠ X.env.locals ∧ p.1 ∉ X.fs ∧ ∀ v, p.2.data ≠ .cell v
  hok : HOk X.prog X.w H s.heap
  len : σ.length = X.N.length

section
variable {X : Cx} {pins : List (Addr × Obj)} {σ : List (Option V)} {H H' : Hp} {s : Shared} {h' : Heap}

theorem Cx.Ok.nofr (ok : X.Ok) {b : Addr} {o : Obj} (e : X.base.get? b = some o) : b ∉ X.fs := fun hb => by
  have := (ok.funs.mem hb).1
  rw [e] at this; cases this
theorem Inv.bs (I : Inv X pins σ H s) : ∀ b o, X.base.get? b = some o → s.heap.get? b = some o ∧ H b = none := fun b o e =>
  ⟨I.base.keep b o (I.ok.bs b o e).1 (I.ok.bs b o e).2 (I.ok.nofr e) (I.ok.noex b o e), I.base.free b o (I.ok.bs b o e).1 (I.ok.bs b o e).2 (I.ok.noex b o e)⟩
theorem Inv.bk (I : Inv X pins σ H s) : ∀ b o, X.base.get? b = some o → s.heap.get? b = some o := fun b o e => (I.bs b o e).1
theorem Inv.mod (I : Inv X pins σ H s) : Mod X.K X.mg X.base := I.ok.mod
theorem Inv.kIn (I : Inv X pins σ H s) : X.K.In s.heap := I.ok.mod.kin.keeps I.bk
theorem Inv.nolimit (I : Inv X pins σ H s) : s.heap.NoLimit := I.ok.mod.nolimit.keeps I.bk
theorem Inv.lt (I : Inv X pins σ H s) : X.env.locals < s.heap.objs.size := let ⟨_, hn, _⟩ := I.loc; hn.lt
theorem Inv.sz (I : Inv X pins σ H s) : X.s₀.heap.objs.size ≤ s.heap.objs.size := Nat.le_trans I.ok.above (Nat.le_of_lt I.lt)
theorem Inv.nofs (I : Inv X pins σ H s) {a : Addr} (h : s.heap.objs.size ≤ a) : a ∉ X.fs := fun hb => by
  obtain ⟨_, o, ho, _⟩ := I.ok.funs.mem hb
  exact absurd (Nat.lt_of_lt_of_le (Heap.lt_size ho) (Nat.le_trans I.sz h)) (Nat.lt_irrefl _)
theorem Inv.cne (I : Inv X pins σ H s) : ∀ x c, X.env.cells.lookup x = some c → c ≠ X.env.locals := fun x c e z => by
  obtain ⟨v, o, ho, hd⟩ := I.cell x c e
  obtain ⟨m, ⟨o', es, ep, ho', hd', _⟩, _⟩ := I.loc
  rw [z, ho'] at ho; cases ho; rw [hd'] at hd; cases hd
theorem Inv.funs (I : Inv X pins σ H s) : s.heap.FunFrames X.base X.outer := by
  have all : ∀ (l : List Env), (∀ b ∈ frs l, b ∈ X.fs) → X.s₀.heap.FunFrames X.base l → s.heap.FunFrames X.base l := by
    intro l
    induction l with
    | nil => intro _ _; trivial
    | cons env r ih =>
      intro hs hl
      obtain ⟨hk, ⟨L, o, hf, hn, ho, hd⟩, hr⟩ := hl
      have hL : L ∈ X.fs := hs L (by unfold frs; rw [List.filterMap_cons, hf]; exact List.mem_cons_self)
      obtain ⟨sl, e⟩ := I.base.slot L o ho (I.ok.frf L hL) hL fun z => I.ok.exfs L z hL
      exact ⟨hk, ⟨L, _, hf, hn, e, hd⟩, ih (fun b hb => hs b (by unfold frs; rw [List.filterMap_cons, hf]; exact List.mem_cons_of_mem _ hb)) hr⟩
  exact all X.outer (fun _ hb => hb) I.ok.funs

/-- the frames that run, for a call -/
theorem Inv.stack (I : Inv X pins σ H s) : s.heap.FunFrames X.base X.stack := by
  rcases I.ok.stk with e | ⟨e, hf⟩
  · rw [e]; exact I.funs
  · rw [e]
    obtain ⟨m, hn, _⟩ := I.loc
    refine .cons (by rw [I.ok.kind]; decide) hf hn ?_ I.funs
    exact Heap.get?_none_of_le (Nat.le_trans I.ok.bsz I.ok.above)
theorem Inv.stkSub (I : Inv X pins σ H s) : ∀ b ∈ frs X.stack, b ∈ X.env.locals :: X.fs := fun b hb => by
  rcases I.ok.stk with e | ⟨e, hf⟩
  · rw [e] at hb; exact List.mem_cons_of_mem _ hb
  · rw [e] at hb
    unfold frs at hb
    rw [List.filterMap_cons, hf] at hb
    exact hb
theorem Inv.stkFree (I : Inv X pins σ H s) : ∀ b ∈ frs X.stack, H b = none := fun b hb => by
  rcases List.mem_cons.mp (I.stkSub b hb) with e | hb
  · rw [e]; exact I.free
  · obtain ⟨_, o, ho, _⟩ := I.ok.funs.mem hb
    exact I.base.free b o ho (I.ok.frf b hb) fun z => I.ok.exfs b z hb

/-- THE STEP: the untracked objects but the frame and the records at ch are kept (the callers' frames up to slots), the frame's map is kept, the new abstract heap is held -/
theorem Inv.step {g' : Array GenState} {t' : Nat} {d' : Drawn} {ch : List Addr} (I : Inv X pins σ H s)
    (hch : ∀ b ∈ ch, (b ∈ X.ex ∨ X.s₀.heap.objs.size ≤ b) ∧ b ≠ X.env.locals ∧ (∀ x c, X.env.cells.lookup x = some c → c ≠ b) ∧ ∀ p ∈ X.pn ++ pins, p.1 ≠ b)
    (keep : ∀ b o, b ≠ X.env.locals → b ∉ X.fs → b ∉ ch → s.heap.get? b = some o → H b = none → h'.get? b = some o)
    (slot : ∀ b o, b ≠ X.env.locals → b ∈ X.fs → b ∉ ch → s.heap.get? b = some o → H b = none → ∃ sl, h'.get? b = some { o with slots := sl }) (free : ∀ b o, b ∉ ch → s.heap.get? b = some o → H b = none → H' b = none)
    (there : ∀ b o, b ∉ ch → s.heap.get? b = some o → ∃ o', h'.get? b = some o')
    (tups : ∀ b xs, H b = some (.tup xs) → H' b = some (.tup xs)) (frzs : ∀ b o u, H b = some (.frz o u) → H' b = some (.frz o u)) (tbls : ∀ b ps, H b = some (.tbl ps) → ∃ more, H' b = some (.tbl (ps ++ more)))
    (ns : ∀ m, s.heap.Ns X.env.locals m → h'.Ns X.env.locals m) (hok : HOk X.prog X.w H' h') (hg : AllBare g') :
    Inv X pins σ H' { s with heap := h', gens := g', drawn := d', toks := t' } := by
  have neL : ∀ b o, X.s₀.heap.get? b = some o → b ≠ X.env.locals := fun b o e => Nat.ne_of_lt (Nat.lt_of_lt_of_le (Heap.lt_size e) I.ok.above)
  have neC : ∀ b o, X.s₀.heap.get? b = some o → b ∉ X.ex → b ∉ ch := fun b o e hx hb => by
    rcases (hch b hb).1 with z | z
    · exact hx z
    · exact absurd (Nat.lt_of_lt_of_le (Heap.lt_size e) z) (Nat.lt_irrefl _)
  have cellK : ∀ x c, X.env.cells.lookup x = some c → ∀ v, s.heap.IsCell c v → h'.IsCell c v := fun x c e v ⟨o, ho, hd⟩ => by
    have nch : c ∉ ch := fun z => (hch c z).2.2.1 x c e rfl
    by_cases hc : c ∈ X.fs
    · obtain ⟨sl, q⟩ := slot c o (I.cne x c e) hc nch ho (I.freeC x c e)
      exact ⟨_, q, hd⟩
    · exact ⟨o, keep c o (I.cne x c e) hc nch ho (I.freeC x c e), hd⟩
  refine ⟨I.ok, I.os, hg, ⟨fun b o e n hb hx => ?_, fun b o e n hb hx => ?_, fun b o e n hx => ?_, fun b o e hx => ?_, fun b xs e => tups b xs (I.base.tups b xs e), fun b o xs e => frzs b o xs (I.base.frzs b o xs e), fun b ps e => ?_⟩, ?_, fun x c e => ?_, ?_, fun x c e => ?_, fun p hp => ?_, hok, I.len⟩
  · exact keep b o (neL b o e) hb (neC b o e hx) (I.base.keep b o e n hb hx) (I.base.free b o e n hx)
  · obtain ⟨sl, e1⟩ := I.base.slot b o e n hb hx
    obtain ⟨sl', e2⟩ := slot b _ (neL b o e) hb (neC b o e hx) e1 (I.base.free b o e n hx)
    exact ⟨sl', e2⟩
  · obtain ⟨o', e1⟩ := I.base.there b o e hx
    exact free b o' (neC b o e hx) e1 (I.base.free b o e n hx)
  · obtain ⟨o', e1⟩ := I.base.there b o e hx
    exact there b o' (neC b o e hx) e1
  · obtain ⟨m1, e1⟩ := I.base.tbls b ps e
    obtain ⟨m2, e2⟩ := tbls b _ e1
    exact ⟨m1 ++ m2, by rw [e2, Array.append_assoc]⟩
  · obtain ⟨m, hn, hl⟩ := I.loc
    refine ⟨m, ns m hn, fun i x v e1 e2 e3 => ?_⟩
    obtain ⟨u, r, l⟩ := hl i x v e1 e2 e3
    refine ⟨u, r, ?_⟩
    rcases l with l | ⟨k, c, e, z⟩
    · exact .inl l
    · exact .inr ⟨k, c, e, cellK x c e _ z⟩
  · obtain ⟨v, z⟩ := I.cell x c e
    exact ⟨v, cellK x c e v z⟩
  · obtain ⟨m, ⟨o, _, _, ho, _⟩, _⟩ := I.loc
    exact free _ o (fun z => (hch _ z).2.1 rfl) ho I.free
  · obtain ⟨v, o, ho, hd⟩ := I.cell x c e
    exact free c o (fun z => (hch c z).2.2.1 x c e rfl) ho (I.freeC x c e)
  · obtain ⟨e, n, ne, nf, d⟩ := I.pin p hp
    have nch : p.1 ∉ ch := fun z => (hch p.1 z).2.2.2 p hp rfl
    exact ⟨keep p.1 p.2 ne nf nch e n, free p.1 p.2 nch e n, ne, nf, d⟩
/-- .. where the frame's own object is kept too -/
theorem Inv.un {t' : Nat} (I : Inv X pins σ H s) (u : Un X.fs [] H H' s.heap h') (hok : HOk X.prog X.w H' h') : Inv X pins σ H' { s with heap := h', toks := t' } := by
  obtain ⟨m, ⟨o, es, ep, ho, r⟩, _⟩ := id I.loc
  obtain ⟨sl, hL⟩ := u.any ho I.free (by simp)
  exact I.step (g' := s.gens) (d' := s.drawn) (ch := []) (fun _ z => nomatch z) (fun b o _ hb _ e n => u.keep b o e n hb (by simp)) (fun b o _ hb _ e n => u.slot b o e n hb (by simp)) (fun b o _ e n => u.free b o e n (by simp)) (fun b o _ e => u.there b o e (by simp)) u.tups u.frzs u.tbls (fun m' hm => by
    obtain ⟨o', es', ep', ho', r'⟩ := hm
    rw [ho] at ho'; cases ho'
    exact ⟨_, es', ep', hL, r'⟩) hok I.bare
/-- behind a call (or a comprehension's block): the slots of this frame may have changed too, the records at ch may have turned -/
theorem Inv.call {g' : Array GenState} {t' : Nat} {d' : Drawn} {ch : List Addr} (I : Inv X pins σ H s) (u : Un (frs X.stack) ch H H' s.heap h') (hok : HOk X.prog X.w H' h') (hg : AllBare g')
    (hch : ∀ b ∈ ch, (b ∈ X.ex ∨ X.s₀.heap.objs.size ≤ b) ∧ b ≠ X.env.locals ∧ (∀ x c, X.env.cells.lookup x = some c → c ≠ b) ∧ ∀ p ∈ X.pn ++ pins, p.1 ≠ b) :
    Inv X pins σ H' { s with heap := h', gens := g', drawn := d', toks := t' } := by
  obtain ⟨m, ⟨o, es, ep, ho, r⟩, _⟩ := id I.loc
  obtain ⟨sl, hL⟩ := u.any ho I.free fun z => (hch _ z).2.1 rfl
  exact I.step (ch := ch) hch (fun b o hL hb hc e n => u.keep b o e n (fun z => (List.mem_cons.mp (I.stkSub b z)).elim hL hb) hc) (fun b o _ _ hc e n => u.any e n hc) (fun b o hc e n => u.free b o e n hc) (fun b o hc e => u.there b o e hc) u.tups u.frzs u.tbls (fun m' hm => by
    obtain ⟨o', es', ep', ho', r'⟩ := hm
    rw [ho] at ho'; cases ho'
    exact ⟨_, es', ep', hL, r'⟩) hok hg
/-- an untracked record of ours (an iterator) has turned -/
theorem Inv.turned {t' : Nat} {it : Addr} (I : Inv X pins σ H s) (k : ∀ b o, b ≠ it → s.heap.get? b = some o → h'.get? b = some o) (hn : H it = none) (hL : it ≠ X.env.locals)
    (h1 : it ∈ X.ex ∨ X.s₀.heap.objs.size ≤ it) (h2 : ∀ x c, X.env.cells.lookup x = some c → c ≠ it) (h3 : ∀ p ∈ X.pn ++ pins, p.1 ≠ it) : Inv X pins σ H { s with heap := h', toks := t' } := by
  have nit : ∀ b u, H b = some u → b ≠ it := fun b u e z => by rw [z, hn] at e; cases e
  refine I.step (g' := s.gens) (d' := s.drawn) (ch := [it]) (fun b hb => ?_) (fun b o _ _ hc e _ => k b o (fun z => hc (by simp [z])) e) (fun b o _ _ hc e _ => ⟨o.slots, k b o (fun z => hc (by simp [z])) e⟩) (fun _ _ _ _ n => n)
    (fun b o hc e => ⟨o, k b o (fun z => hc (by simp [z])) e⟩) (fun _ _ e => e) (fun _ _ _ e => e) (fun b ps e => ⟨#[], by rw [e]; simp⟩) (fun m hm => ?_) (fun b u e => ?_) I.bare
  · have e : b = it := by simpa using hb
    subst e
    exact ⟨h1, hL, h2, h3⟩
  · obtain ⟨o, es, ep, ho, r⟩ := hm
    exact ⟨o, es, ep, k _ o (Ne.symm hL) ho, r⟩
  · refine (I.hok b u e).stay (fun c v hc q => k c v ?_ q) (fun _ q => q) fun _ _ q => q
    rcases hc with z | z
    · rw [z]; exact nit b u e
    · exact nit c _ z
theorem Inv.tok (I : Inv X pins σ H s) (t : Nat) : Inv X pins σ H { s with toks := t } := I.un (h' := s.heap) (t' := t) Un.refl I.hok
/-- all objects kept -/
theorem Inv.kept {t' : Nat} (I : Inv X pins σ H s) (k : ∀ b u, s.heap.get? b = some u → h'.get? b = some u) : Inv X pins σ H { s with heap := h', toks := t' } := I.un (Un.kept k) (I.hok.kept k)
/-- a new object laid and tracked -/
theorem Inv.laid {a : Addr} {o : HO} {t' : Nat} (I : Inv X pins σ H s) (k : ∀ b u, s.heap.get? b = some u → h'.get? b = some u) (hp : s.heap.objs.size ≤ a) (new : ObjOk X.prog X.w (upd H a o) h' a o) :
    Inv X pins σ (upd H a o) { s with heap := h', toks := t' } := I.un (Un.laid k hp (I.hok.fresh hp)) (I.hok.laid k hp new)
/-- an object written -/
theorem Inv.write {x e : Addr} {o : HO} {t' : Nat} (I : Inv X pins σ H s) (mu : Mut (H x)) (he : e = x ∨ H e = some (.own x)) (k : ∀ b u, b ≠ e → s.heap.get? b = some u → h'.get? b = some u) (heo : ∃ u, h'.get? e = some u)
    (new : ObjOk X.prog X.w (upd H x o) h' x o) : Inv X pins σ (upd H x o) { s with heap := h', toks := t' } := I.un (Un.write mu he k heo) (I.hok.write mu he k heo new)
/-- forgetting slots, pins -/
theorem Inv.weak {σ' : List (Option V)} (I : Inv X pins σ H s) (hl : σ'.length = σ.length) (w : ∀ (i : Nat) v, σ'[i]? = some (some v) → σ[i]? = some (some v)) : Inv X pins σ' H s :=
  ⟨I.ok, I.os, I.bare, I.base, let ⟨m, hn, hl'⟩ := I.loc; ⟨m, hn, fun i x v e1 e2 e3 => hl' i x v e1 (w i v e2) e3⟩, I.cell, I.free, I.freeC, I.pin, I.hok, hl.trans I.len⟩
theorem Inv.pins_of {pins' : List (Addr × Obj)} (I : Inv X pins σ H s) (h : ∀ p ∈ pins', s.heap.get? p.1 = some p.2 ∧ H p.1 = none ∧ p.1 ≠ X.env.locals ∧ p.1 ∉ X.fs ∧ ∀ v, p.2.data ≠ .cell v) : Inv X pins' σ H s :=
  ⟨I.ok, I.os, I.bare, I.base, I.loc, I.cell, I.free, I.freeC, fun p hp => (List.mem_append.mp hp).elim (fun z => I.pin p (List.mem_append_left _ z)) (h p), I.hok, I.len⟩

theorem nodup_ix {N : List Str} (hN : N.Nodup) {i j : Nat} {x : Str} (a : N[i]? = some x) (b : N[j]? = some x) : i = j := by
  obtain ⟨h1, e1⟩ := List.getElem?_eq_some_iff.mp a
  obtain ⟨h2, e2⟩ := List.getElem?_eq_some_iff.mp b
  exact (List.getElem_inj hN).mp (e1.trans e2.symm)

/-- a name is stored; what changed -/
theorem store_ok2 {M : Model} {A : Around} {E : Value → Shared → Prop} {i : Nat} {x : Str} {v : V} {u : Value} {Q : Unit → Shared → Prop} (I : Inv X pins σ H s) (hN : X.N.Nodup) (hi : X.N[i]? = some x) (hx : Loc X.env.scope x) (r : RelV v u)
    (h : ∀ s', Inv X pins (σ.set i (some v)) H s' → (∃ a, Heap.SameBut a s.heap s'.heap ∧ (a = X.env.locals ∨ X.env.cells.lookup x = some a)) → Q () s') (hf : X.fn x = true ∨ X.env.scope.names.lookup x = some .local := by first | exact .inl rfl | exact .inr rfl | assumption) : wpAny M A (storeName X.env x u) Q E s := by
  obtain ⟨m, hn, hl⟩ := id I.loc
  have hcls : (X.env.scope.kind == .class || (X.env.scope.kind == .module && X.env.locals != X.env.globals)) = false := by rw [I.ok.kind]; rfl
  have hiσ : i < σ.length := by rw [I.len]; exact (List.getElem?_eq_some_iff.mp hi).1
  have cne := I.cne
  have tracked : ∀ {a : Addr} {h' : Heap}, (∃ o, s.heap.get? a = some o ∧ H a = none) → Heap.SameBut a s.heap h' → HOk X.prog X.w H h' := fun {a h'} ha hs b ob e => by
    obtain ⟨_, _, hfree⟩ := ha
    refine (I.hok b ob e).stay (fun c w' hc q => (hs.2 c ?_).trans q) (fun _ q => q) fun _ _ q => q
    rintro rfl
    rcases hc with rfl | hc
    · rw [hfree] at e; cases e
    · rw [hfree] at hc; cases hc
  rcases hx with hk | hk
  · refine wpAny_storeName_local hk hn (fun h' hn' hs => ?_) hcls
    obtain ⟨oL, _, _, hoL, _⟩ := id hn
    refine h _ ⟨I.ok, I.os, I.bare, ⟨fun b o e n hb hx => ?_, fun b o e n hb hx => ?_, I.base.free, fun b o e hx => ?_, I.base.tups, I.base.frzs, I.base.tbls⟩, ⟨_, hn', fun j y v' e1 e2 e3 => ?_⟩, fun y c e => ?_, I.free, I.freeC, fun p hp => ?_, tracked ⟨oL, hoL, I.free⟩ hs, by simpa using I.len⟩ ⟨_, hs, .inl rfl⟩
    · exact (hs.2 b (Nat.ne_of_lt (Nat.lt_of_lt_of_le (Heap.lt_size e) I.ok.above))).trans (I.base.keep b o e n hb hx)
    · obtain ⟨sl, e1⟩ := I.base.slot b o e n hb hx
      exact ⟨sl, (hs.2 b (Nat.ne_of_lt (Nat.lt_of_lt_of_le (Heap.lt_size e) I.ok.above))).trans e1⟩
    · obtain ⟨o', e1⟩ := I.base.there b o e hx
      exact ⟨o', (hs.2 b (Nat.ne_of_lt (Nat.lt_of_lt_of_le (Heap.lt_size e) I.ok.above))).trans e1⟩
    · by_cases hj : j = i
      · subst hj
        rw [hi] at e1; cases e1
        rw [List.getElem?_set_self hiσ] at e2
        cases e2
        exact ⟨u, r, .inl ⟨hk, by simp⟩⟩
      · rw [List.getElem?_set_ne (Ne.symm hj)] at e2
        obtain ⟨u', r', q⟩ := hl j y v' e1 e2 e3
        refine ⟨u', r', ?_⟩
        rcases q with ⟨k, e⟩ | ⟨k, c, e, z⟩
        · refine .inl ⟨k, ?_⟩
          have : y ≠ x := fun e => hj (nodup_ix hN e1 (e ▸ hi))
          simp [this, e]
        · exact .inr ⟨k, c, e, z.sameBut hs (cne y c e)⟩
    · obtain ⟨w', z⟩ := I.cell y c e
      exact ⟨w', z.sameBut hs (cne y c e)⟩
    · obtain ⟨e, n, ne, nf, d⟩ := I.pin p hp
      exact ⟨(hs.2 p.1 ne).trans e, n, ne, nf, d⟩
  · have hfn : X.fn x = true := by
      rcases hf with z | z
      · exact z
      · rw [z] at hk; cases hk
    obtain ⟨c, hc⟩ := I.ok.has x (.inl hk)
    obtain ⟨w', z⟩ := I.cell x c hc
    refine wpAny_storeName_cell I.ok.kind hk hc z (fun h' hc' hs => ?_)
    obtain ⟨oc, hoc, hocd⟩ := id z
    refine h { s with heap := h' } ⟨I.ok, I.os, I.bare, ⟨fun b o e n hb hx => ?_, fun b o e n hb hx => ?_, I.base.free, fun b o e hx => ?_, I.base.tups, I.base.frzs, I.base.tbls⟩, ⟨m, hn.sameBut hs (Ne.symm (cne x c hc)), fun j y v' e1 e2 e3 => ?_⟩, fun y c' e => ?_, I.free, I.freeC, fun p hp => ?_, tracked ⟨oc, hoc, I.freeC x c hc⟩ hs, by simpa using I.len⟩ ⟨c, hs, .inr hc⟩
    · exact (hs.2 b (Nat.ne_of_lt (Nat.lt_of_lt_of_le (Heap.lt_size e) (I.ok.cab x c hfn hc)))).trans (I.base.keep b o e n hb hx)
    · obtain ⟨sl, e1⟩ := I.base.slot b o e n hb hx
      exact ⟨sl, (hs.2 b (Nat.ne_of_lt (Nat.lt_of_lt_of_le (Heap.lt_size e) (I.ok.cab x c hfn hc)))).trans e1⟩
    · obtain ⟨o', e1⟩ := I.base.there b o e hx
      exact ⟨o', (hs.2 b (Nat.ne_of_lt (Nat.lt_of_lt_of_le (Heap.lt_size e) (I.ok.cab x c hfn hc)))).trans e1⟩
    · by_cases hj : j = i
      · subst hj
        rw [hi] at e1; cases e1
        rw [List.getElem?_set_self hiσ] at e2
        cases e2
        exact ⟨u, r, .inr ⟨.inl hk, c, hc, hc'⟩⟩
      · rw [List.getElem?_set_ne (Ne.symm hj)] at e2
        obtain ⟨u', r', q⟩ := hl j y v' e1 e2 e3
        refine ⟨u', r', ?_⟩
        rcases q with q | ⟨k, c', e, z'⟩
        · exact .inl q
        · refine .inr ⟨k, c', e, z'.sameBut hs ?_⟩
          rintro rfl
          exact hj (nodup_ix hN e1 (I.ok.inj _ _ _ e hc ▸ hi))
    · by_cases hcc : c' = c
      · subst hcc; exact ⟨_, hc'⟩
      · obtain ⟨w2, z2⟩ := I.cell y c' e
        exact ⟨w2, z2.sameBut hs hcc⟩
    · obtain ⟨e, n, ne, nf, d⟩ := I.pin p hp
      refine ⟨(hs.2 p.1 ?_).trans e, n, ne, nf, d⟩
      intro q
      rw [q, hoc] at e
      have q' : oc = p.2 := Option.some.inj e
      exact d w' (by rw [← q']; exact hocd)
theorem store_ok {M : Model} {A : Around} {E : Value → Shared → Prop} {i : Nat} {x : Str} {v : V} {u : Value} {Q : Unit → Shared → Prop} (I : Inv X pins σ H s) (hN : X.N.Nodup) (hi : X.N[i]? = some x) (hx : Loc X.env.scope x) (r : RelV v u)
    (h : ∀ s', Inv X pins (σ.set i (some v)) H s' → Q () s') (hf : X.fn x = true ∨ X.env.scope.names.lookup x = some .local := by first | exact .inl rfl | exact .inr rfl | assumption) : wpAny M A (storeName X.env x u) Q E s :=
  store_ok2 I hN hi hx r (fun s' I' _ => h s' I') hf
/-- behind a call or a block, the state as it is -/
theorem Inv.call' {s' : Shared} {ch : List Addr} (I : Inv X pins σ H s) (ho : s'.os = s.os) (u : Un (frs X.stack) ch H H' s.heap s'.heap) (hok : HOk X.prog X.w H' s'.heap) (hg : AllBare s'.gens)
    (hch : ∀ b ∈ ch, (b ∈ X.ex ∨ X.s₀.heap.objs.size ≤ b) ∧ b ≠ X.env.locals ∧ (∀ x c, X.env.cells.lookup x = some c → c ≠ b) ∧ ∀ p ∈ X.pn ++ pins, p.1 ≠ b) : Inv X pins σ H' s' := by
  obtain ⟨h', g', d', t', o'⟩ := s'
  have e : o' = s.os := ho
  subst e
  exact I.call (g' := g') (t' := t') (d' := d') u hok hg hch
end

/-! ### the judgements -/
/-- an exception: its class, its own dict's address (where it has one), the abstract heap behind it -/
abbrev XK := Value → Option Addr → Hp → Prop
abbrev St := List (Option V)
abbrev VK := V → Hp → Prop
/-- an expression's reading; a test's; an argument list's -/
abbrev TE := St → Hp → VK → Prop
abbrev TT := St → Hp → (Bool → Hp → Prop) → Prop
abbrev TA := St → Hp → (List V → Hp → Prop) → Prop
/-- what is wanted behind a statement -/
structure Ends where
  nx : St → Hp → Prop
  rt : VK
  bk : St → Hp → Prop := fun _ _ => False
  ct : St → Hp → Prop := fun _ _ => False
abbrev TS := Ends → St → Hp → Prop

inductive EP (X : Cx) (pins : List (Addr × Obj)) (σ : St) (Q : VK) (u : Value) (s' : Shared) : Prop
  | mk (v : _) (H' : _) (h1 : Inv X pins σ H' s') (h2 : RelV v u) (h3 : Q v H') : EP X pins σ Q u s'
def TP (X : Cx) (pins : List (Addr × Obj)) (σ : St) (Q : Bool → Hp → Prop) (b : Bool) (s' : Shared) : Prop := ∃ H', Inv X pins σ H' s' ∧ Q b H'
inductive AP (X : Cx) (pins : List (Addr × Obj)) (σ : St) (Q : List V → Hp → Prop) (us : List Value) (s' : Shared) : Prop
  | mk (vs : _) (H' : _) (h1 : Inv X pins σ H' s') (h2 : Vals vs us) (h3 : Q vs H') : AP X pins σ Q us s'
def SP (X : Cx) (pins : List (Addr × Obj)) (D : Ends) (f : Flow) (s' : Shared) : Prop :=
  match f with
  | .next => ∃ σ' H', Inv X pins σ' H' s' ∧ D.nx σ' H'
  | .brk => ∃ σ' H', Inv X pins σ' H' s' ∧ D.bk σ' H'
  | .cont => ∃ σ' H', Inv X pins σ' H' s' ∧ D.ct σ' H'
  | .ret u => ∃ v σ' H', Inv X pins σ' H' s' ∧ RelV v u ∧ D.rt v H'

def PE (X : Cx) (e : Expr) (t : TE) : Prop :=
  ∀ (pins : List (Addr × Obj)) (s : Shared) (σ : St) (H : Hp) (Q : VK), Inv X pins σ H s → t σ H Q → wpAny (model X.prog X.w) X.A (eval e X.env) (EP X pins σ Q) X.xe s
def PT (X : Cx) (e : Expr) (t : TT) : Prop :=
  ∀ (pins : List (Addr × Obj)) (s : Shared) (σ : St) (H : Hp) (Q : Bool → Hp → Prop), Inv X pins σ H s → t σ H Q → wpAny (model X.prog X.w) X.A (isTrue e X.env (eval e X.env)) (TP X pins σ Q) X.xe s
/-- a test whatever its 'whole' is (and, or) -/
def PW (X : Cx) (e : Expr) (t : TT) : Prop :=
  ∀ (whole : Sem Value) (pins : List (Addr × Obj)) (s : Shared) (σ : St) (H : Hp) (Q : Bool → Hp → Prop), Inv X pins σ H s → t σ H Q → wpAny (model X.prog X.w) X.A (isTrue e X.env whole) (TP X pins σ Q) X.xe s
theorem PW.pt {X : Cx} {e : Expr} {t : TT} (h : PW X e t) : PT X e t := h _
/-- an argument list (no star), from the left -/
def PA (X : Cx) (es : List Expr) (t : TA) : Prop :=
  ∀ (pos : Pos) (pins : List (Addr × Obj)) (s : Shared) (σ : St) (H : Hp) (Q : List V → Hp → Prop), Inv X pins σ H s → t σ H Q → wpAny (model X.prog X.w) X.A (spliced (backTo pos (starEach es X.env))) (AP X pins σ Q) X.xe s
def PS (X : Cx) (st : Stmt) (t : TS) : Prop :=
  ∀ (pins : List (Addr × Obj)) (s : Shared) (σ : St) (H : Hp) (D : Ends), Inv X pins σ H s → t D σ H → wpAny (model X.prog X.w) X.A (exec st X.env) (SP X pins D) X.xe s
def PSs (X : Cx) (st : List Stmt) (t : TS) : Prop :=
  ∀ (pins : List (Addr × Obj)) (s : Shared) (σ : St) (H : Hp) (D : Ends), Inv X pins σ H s → t D σ H → wpAny (model X.prog X.w) X.A (execs st X.env) (SP X pins D) X.xe s
/-- weaken the end -/
theorem thn {α : Type} {t : Sem α} {Q Q' : α → Shared → Prop} {M : Model} {A : Around} {E : Value → Shared → Prop} {s : Shared} (h : wpAny M A t Q E s) (hQ : ∀ a s, Q a s → Q' a s) : wpAny M A t Q' E s := wpAny_mono h hQ fun _ _ x => x
end L2

namespace L2
open PySem PySem.Spec PyProof.Rows
section
variable {X : Cx}

/-! ### names and constants -/
inductive tVar (i : Nat) (σ : St) (H : Hp) (Q : VK) : Prop
  | mk (v : _) (h1 : σ[i]? = some (some v)) (h2 : Q v H) : tVar i σ H Q
def tC (v : V) : TE := fun _ H Q => Q v H
theorem pe_var {i : Nat} {x : Str} {pos : Pos} (hN : X.N[i]? = some x) (hv : Vis X.env.scope x) (hd : (x == ("__debug__" : Str)) = false := by decide) (hcd : (x == ("__classdict__" : Str)) = false := by decide) : PE X (.Name x pos) (tVar i) := by
  intro pins s σ H Q I h
  obtain ⟨v, e, h⟩ := h
  obtain ⟨m, hn, hl⟩ := I.loc
  obtain ⟨u, r, l⟩ := hl i x v hN e hv
  have fin : EP X pins σ Q u s := ⟨v, H, I, r, h⟩
  rcases l with ⟨hk, hm⟩ | ⟨hk, c, hc, hcell⟩
  · exact wpAny_Name (wpAny_loadName_local I.ok.kind hk hn hm fin) hd
  · rcases hk with hk | hk
    · exact wpAny_Name (wpAny_loadName_cell I.ok.kind hk hc hcell fin) hd
    · exact wpAny_Name (wpAny_loadName_free I.ok.kind hk hc hcell fin hcd) hd
theorem pe_int {i j pos} : PE X (.Constant (.int i) j pos) (tC (.int i)) := fun _ _ _ H _ I h => wpAny_Constant_int ⟨.int i, H, I.tok _, ⟨_, rfl⟩, h⟩
theorem pe_bl {b j pos} : PE X (.Constant (.bool b) j pos) (tC (.bl b)) := fun _ _ _ H _ I h => Constant_bool ⟨.bl b, H, I, rfl, h⟩
/-- a global name of the def -/
def Gl (X : Cx) (x : Str) : Prop := X.env.kindOf x = some .globalImplicit
theorem ld_glob {E : Value → Shared → Prop} {pins : List (Addr × Obj)} {s : Shared} {σ : St} {H : Hp} {x : Str} {u : Value} {pos : Pos} {Q : Value → Shared → Prop} (I : Inv X pins σ H s) (hg : Gl X x) (hm : X.mg x = some u) (h : Q u s)
    (hd : (x == ("__debug__" : Str)) = false := by decide) : wpAny (model X.prog X.w) X.A (eval (.Name x pos) X.env) Q E s :=
  Calls.Name_function_global I.ok.kind hg (Calls.loadGlobal_global (by rw [I.ok.glob]; exact I.mod.glob.keeps I.bk) hm h) hd
theorem ld_blt {E : Value → Shared → Prop} {pins : List (Addr × Obj)} {s : Shared} {σ : St} {H : Hp} {x : Str} {u : Value} {pos : Pos} {Q : Value → Shared → Prop} (I : Inv X pins σ H s) (hg : Gl X x) (hm : X.mg x = none) (hv : bootBuiltins x = some u) (h : Q u s)
    (hn : x ≠ "__name__" := by decide) (hd : (x == ("__debug__" : Str)) = false := by decide) : wpAny (model X.prog X.w) X.A (eval (.Name x pos) X.env) Q E s := by
  obtain ⟨mb, h1, h2⟩ := I.mod.blt
  exact Calls.Name_function_global I.ok.kind hg (Calls.loadGlobal_builtin (by rw [I.ok.glob]; exact I.mod.glob.keeps I.bk) hm (by rw [I.ok.blt]; exact h1.keeps I.bk) ((h2 x hn).trans hv) h) hd
/-- a module's constant, a class, a function, as a value -/
theorem pe_glob {x : Str} {v : V} {u : Value} {pos : Pos} (hg : Gl X x) (hm : X.mg x = some u) (r : RelV v u) (hd : (x == ("__debug__" : Str)) = false := by decide) : PE X (.Name x pos) (tC v) :=
  fun _ _ _ H _ I h => ld_glob I hg hm ⟨v, H, I, r, h⟩ hd
theorem pe_bltn {x : Str} {v : V} {u : Value} {pos : Pos} (hg : Gl X x) (hm : X.mg x = none) (hv : bootBuiltins x = some u) (r : RelV v u) (hn : x ≠ "__name__" := by decide) (hd : (x == ("__debug__" : Str)) = false := by decide) : PE X (.Name x pos) (tC v) :=
  fun _ _ _ H _ I h => ld_blt I hg hm hv ⟨v, H, I, r, h⟩ hn hd

/-! ### arithmetic -/
variable {a b : Expr} {ta tb : TE} {pos : Pos}
/-! ### comparisons -/
/-- a comparison as a value, as a test -/
def tB (t : TE) : TT := fun σ H Q => t σ H fun x H1 => ∃ c, x = .bl c ∧ Q c H1
/-- an expression whose value is a bool, as a test -/
theorem pt_val {e : Expr} {t : TE} (h : PE X e t) (he : ∀ whole, isTrue e X.env whole = (do let v ← whole; standAt e.pos; holding [v] (truthy v)) := by intro _; rfl) : PT X e (tB t) := by
  intro pins s σ H Q I hw
  refine isTrue_plain (thn (h pins s σ H _ I hw) fun v s1 ⟨x, H1, I1, r1, q1⟩ => ?_) (he _)
  obtain ⟨d, rfl, q⟩ := q1
  cases r1
  exact wpAny_truthy_bool ⟨H1, I1, q⟩

/-! ### and, or, not -/
variable {tA tB' : TT} {rest : List Expr}
def tAnd (t u : TT) : TT := fun σ H Q => t σ H fun c H1 => if c = true then u σ H1 Q else Q false H1
def tOr (t u : TT) : TT := fun σ H Q => t σ H fun c H1 => if c = true then Q true H1 else u σ H1 Q
def tNot (t : TT) : TT := fun σ H Q => t σ H fun c H1 => Q (!c) H1
theorem pw_and1 (ha : PT X a tA) : PW X (.BoolOp .And [a] pos) tA := by
  intro wh pins s σ H Q I h
  refine isTrue_and (thn (ha pins s σ H Q I h) fun c s1 e => ?_)
  cases c with
  | true => exact isTrue_and_nil e
  | false => exact e
theorem pw_or1 (ha : PT X a tA) : PW X (.BoolOp .Or [a] pos) tA := by
  intro wh pins s σ H Q I h
  refine isTrue_or (thn (ha pins s σ H Q I h) fun c s1 e => ?_)
  cases c with
  | false => exact isTrue_or_nil e
  | true => exact e
theorem pw_and (ha : PT X a tA) (hb : PW X (.BoolOp .And (b :: rest) pos) tB') : PW X (.BoolOp .And (a :: b :: rest) pos) (tAnd tA tB') := by
  intro wh pins s σ H Q I h
  refine isTrue_and (thn (ha pins s σ H _ I h) fun c s1 ⟨H1, I1, q1⟩ => ?_)
  cases c with
  | true => exact hb wh pins s1 σ H1 Q I1 q1
  | false => exact ⟨H1, I1, q1⟩
theorem pw_or (ha : PT X a tA) (hb : PW X (.BoolOp .Or (b :: rest) pos) tB') : PW X (.BoolOp .Or (a :: b :: rest) pos) (tOr tA tB') := by
  intro wh pins s σ H Q I h
  refine isTrue_or (thn (ha pins s σ H _ I h) fun c s1 ⟨H1, I1, q1⟩ => ?_)
  cases c with
  | true => exact ⟨H1, I1, q1⟩
  | false => exact hb wh pins s1 σ H1 Q I1 q1
theorem pt_not (ha : PT X a tA) : PT X (.UnaryOp .Not a pos) (tNot tA) := by
  intro pins s σ H Q I h
  exact isTrue_not (ha pins s σ H (fun c H1 => Q (!c) H1) I h)
/-- .. as values (bools) -/
def tAndV (ta tb : TE) : TE := fun σ H Q => ta σ H fun x H1 => ∃ c, x = .bl c ∧ if c = true then tb σ H1 Q else Q (.bl false) H1
def tNotV (ta : TE) : TE := fun σ H Q => ta σ H fun x H1 => ∃ c, x = .bl c ∧ Q (.bl (!c)) H1
theorem pe_one {op} {t : TE} (h : PE X a t) : PE X (.BoolOp op [a] pos) t := fun pins s σ H Q I hw => BoolOp_one (h pins s σ H Q I hw)
theorem pe_and (ha : PE X a ta) (hb : PE X (.BoolOp .And (b :: rest) pos) tb) : PE X (.BoolOp .And (a :: b :: rest) pos) (tAndV ta tb) := by
  intro pins s σ H Q I h
  refine BoolOp_and (thn (ha pins s σ H _ I h) fun v s1 ⟨x, H1, I1, r1, q1⟩ => ?_)
  obtain ⟨c, rfl, q1⟩ := q1
  cases r1
  refine wpAny_truthy_bool ?_
  cases c with
  | true => exact hb pins s1 σ H1 Q I1 q1
  | false => exact ⟨.bl false, H1, I1, rfl, q1⟩
theorem pe_not (ha : PE X a ta) : PE X (.UnaryOp .Not a pos) (tNotV ta) := by
  intro pins s σ H Q I h
  refine UnaryOp_ (thn (ha pins s σ H _ I h) fun v s1 ⟨x, H1, I1, r1, q1⟩ => ?_)
  obtain ⟨c, rfl, q1⟩ := q1
  cases r1
  exact not_of (wpAny_truthy_bool ⟨.bl (!c), H1, I1, rfl, q1⟩)
/-- a if t else b -/
def tIf (t : TT) (ta tb : TE) : TE := fun σ H Q => t σ H fun c H1 => if c = true then ta σ H1 Q else tb σ H1 Q
theorem pe_ifExp {c : Expr} (hc : PT X c tA) (ha : PE X a ta) (hb : PE X b tb) : PE X (.IfExp c a b pos) (tIf tA ta tb) := by
  intro pins s σ H Q I h
  refine wpAny_IfExp (thn (hc pins s σ H _ I h) fun d s1 ⟨H1, I1, q1⟩ => ?_)
  cases d with
  | true => exact ha pins s1 σ H1 Q I1 q1
  | false => exact hb pins s1 σ H1 Q I1 q1
end
end L2

namespace L2
open PySem PySem.Spec PyProof.Rows

/-! ### a list, a tuple that is read: tracked, frozen, or an object of the module -/
def SqL (K : PySem.W.Frag) (H : Hp) (a : Addr) (xs : List V) : Prop :=
  Rd H a (.lst xs) ∨
    ∃ (o : Obj) (its : Array Value) (n : Nat), K.lookup a = some o ∧ o.cls = .type "list" ∧ o.dict = none ∧ o.data = .seq its n ∧ its.size ≤ sizeLine ∧ Vals xs its.toList
def SqT (K : PySem.W.Frag) (H : Hp) (a : Addr) (xs : List V) : Prop :=
  Rd H a (.tup xs) ∨
    ∃ (o : Obj) (its : Array Value) (n : Nat), K.lookup a = some o ∧ o.cls = .type "tuple" ∧ o.data = .seq its n ∧ its.size ≤ sizeLine ∧ Vals xs its.toList
def absV : Value → Option V
  | .none => some .non
  | .bool b => some (.bl b)
  | .int i _ => some (.int i)
  | .str x _ => some (.str x)
  | .bytes b _ => some (.byt b)
  | .float b _ => some (.flt b)
  | .ref a => some (.ref a)
  | .type n => some (.ty n)
  | _ => none
theorem RelV.abs {x : V} {u : Value} (r : RelV x u) : absV u = some x := by
  cases x with
  | non => cases r; rfl
  | bl _ => cases r; rfl
  | int _ => obtain ⟨t, rfl⟩ := r; rfl
  | str _ => obtain ⟨t, rfl⟩ := r; rfl
  | byt _ => obtain ⟨t, rfl⟩ := r; rfl
  | flt _ => obtain ⟨t, rfl⟩ := r; rfl
  | ref _ => cases r; rfl
  | ty _ => cases r; rfl
theorem RelV.inj {x y : V} {u : Value} (r : RelV x u) (q : RelV y u) : x = y := Option.some.inj (r.abs.symm.trans q.abs)
theorem Vals.inj {xs ys : List V} {us : List Value} (a : Vals xs us) (b : Vals ys us) : xs = ys := by
  induction a generalizing ys with
  | nil => cases b; rfl
  | cons r t ih => cases b with | cons r' t' => rw [r.inj r', ih t']
section
variable {X : Cx} {pins : List (Addr × Obj)} {σ : St} {H : Hp} {s : Shared} {a : Addr} {xs ys : List V}
theorem SqL.of {K : PySem.W.Frag} (h : H a = some (.lst xs)) : SqL K H a xs := .inl (.inl h)
theorem SqT.of {K : PySem.W.Frag} (h : H a = some (.tup xs)) : SqT K H a xs := .inl (.inl h)
theorem Inv.list (I : Inv X pins σ H s) (h : SqL X.K H a xs) : ∃ its : List Value, Vals xs its ∧ PlainL s.heap a its.toArray ∧ xs.length ≤ sizeLine := by
  rcases h with h | ⟨o, its, n, hk, hc, hd, hs, hz, r⟩
  · obtain ⟨z, its, n, r, e⟩ := h.ok I.hok
    exact ⟨its, r, ⟨_, n, e, rfl, rfl, rfl⟩, z⟩
  · refine ⟨its.toList, r, ⟨o, n, I.kIn a o hk, hc, hd, by simpa using hs⟩, ?_⟩
    have e := r.length
    simp only [Array.length_toList] at e
    lia
theorem Inv.tuple (I : Inv X pins σ H s) (h : SqT X.K H a xs) : ∃ its : List Value, Vals xs its ∧ IsTup s.heap a its.toArray ∧ xs.length ≤ sizeLine := by
  rcases h with h | ⟨o, its, n, hk, hc, hs, hz, r⟩
  · obtain ⟨z, its, r, p⟩ := h.ok I.hok
    exact ⟨its, r, p, z⟩
  · refine ⟨its.toList, r, ⟨o, I.kIn a o hk, hc, n, by simpa using hs⟩, ?_⟩
    have e := r.length
    simp only [Array.length_toList] at e
    lia
theorem Inv.list_inj (I : Inv X pins σ H s) (h : SqL X.K H a xs) (h' : SqL X.K H a ys) : xs = ys := by
  obtain ⟨its, r, ⟨o, n, e, _, _, d⟩, _⟩ := I.list h
  obtain ⟨its', r', ⟨o', n', e', _, _, d'⟩, _⟩ := I.list h'
  rw [e] at e'; cases e'
  rw [d] at d'
  injection d' with d1 _
  have : its = its' := by simpa using congrArg Array.toList d1
  subst this
  exact r.inj r'
theorem Inv.tuple_inj (I : Inv X pins σ H s) (h : SqT X.K H a xs) (h' : SqT X.K H a ys) : xs = ys := by
  obtain ⟨its, r, ⟨o, e, _, n, d⟩, _⟩ := I.tuple h
  obtain ⟨its', r', ⟨o', e', _, n', d'⟩, _⟩ := I.tuple h'
  rw [e] at e'; cases e'
  rw [d] at d'
  injection d' with d1 _
  have : its = its' := by simpa using congrArg Array.toList d1
  subst this
  exact r.inj r'
end

/-! ### another wish about exceptions -/
abbrev Cx.wish (X : Cx) (E : Value → Shared → Prop) : Cx := { X with xe := E }
/-- no exception leaves -/
abbrev Cx.nox (X : Cx) : Cx := X.wish fun _ _ => False
theorem Cx.Ok.wish {X : Cx} (ok : X.Ok) (E : Value → Shared → Prop) : (X.wish E).Ok :=
  ⟨ok.mod, ok.kind, ok.glob, ok.blt, ok.above, ok.inj, ok.has, ok.cab, ok.hd, ok.frames, ok.stk, ok.exf, ok.bs, ok.bsz, ok.noex, ok.exfs, ok.funs, ok.frf⟩
theorem Cx.Ok.unwish {X : Cx} {E : Value → Shared → Prop} (ok : (X.wish E).Ok) : X.Ok :=
  ⟨ok.mod, ok.kind, ok.glob, ok.blt, ok.above, ok.inj, ok.has, ok.cab, ok.hd, ok.frames, ok.stk, ok.exf, ok.bs, ok.bsz, ok.noex, ok.exfs, ok.funs, ok.frf⟩
section
variable {X : Cx} {pins : List (Addr × Obj)} {σ : St} {H : Hp} {s : Shared} {E : Value → Shared → Prop}
theorem Inv.wish (I : Inv X pins σ H s) (E : Value → Shared → Prop) : Inv (X.wish E) pins σ H s := ⟨I.ok.wish E, I.os, I.bare, I.base, I.loc, I.cell, I.free, I.freeC, I.pin, I.hok, I.len⟩
theorem Inv.unwish (I : Inv (X.wish E) pins σ H s) : Inv X pins σ H s := ⟨I.ok.unwish, I.os, I.bare, I.base, I.loc, I.cell, I.free, I.freeC, I.pin, I.hok, I.len⟩
theorem SP.unwish {D : Ends} {f : Flow} {s' : Shared} (h : SP (X.wish E) pins D f s') : SP X pins D f s' := by
  cases f with
  | next => obtain ⟨σ', H', I, q⟩ := h; exact ⟨σ', H', I.unwish, q⟩
  | brk => obtain ⟨σ', H', I, q⟩ := h; exact ⟨σ', H', I.unwish, q⟩
  | cont => obtain ⟨σ', H', I, q⟩ := h; exact ⟨σ', H', I.unwish, q⟩
  | ret u => obtain ⟨v, σ', H', I, r, q⟩ := h; exact ⟨v, σ', H', I.unwish, r, q⟩
theorem PSs.nox {st : List Stmt} {t : TS} (h : PSs X.nox st t) : PSs X st t := fun pins s σ H D I hw =>
  wpAny_mono (h pins s σ H D (I.wish _) hw) (fun _ _ q => q.unwish) fun _ _ z => False.elim z
end

/-! ### blocks and small statements -/
section
variable {X : Cx} {st : Stmt} {rest : List Stmt} {t u : TS} {e : Expr} {te : TE} {pos : Pos}
def tNext : TS := fun D σ H => D.nx σ H
@[reducible] def Ends.to (D : Ends) (n : St → Hp → Prop) : Ends := { D with nx := n }
def tSeq (t u : TS) : TS := fun D σ H => t (D.to (u D)) σ H
theorem pss_nil : PSs X [] tNext := fun _ _ σ H _ I h => wpAny_execs_nil ⟨σ, H, I, h⟩
theorem pss_cons (h1 : PS X st t) (h2 : PSs X rest u) : PSs X (st :: rest) (tSeq t u) := by
  intro pins s σ H D I h
  refine wpAny_execs_cons (thn (h1 pins s σ H { D with nx := u D } I h) fun f s1 q => ?_)
  cases f with
  | next =>
    obtain ⟨σ', H', I', q⟩ := q
    exact h2 pins s1 σ' H' D I' q
  | ret v => exact q
  | brk => exact q
  | cont => exact q
theorem pss_one (h1 : PS X st t) : PSs X [st] t := by
  intro pins s σ H D I h
  refine wpAny_execs_cons (thn (h1 pins s σ H D I h) fun f s1 q => ?_)
  cases f with
  | next => exact wpAny_execs_nil q
  | ret v => exact q
  | brk => exact q
  | cont => exact q
/-- in a def's body nothing is shown -/
theorem Inv.quiet {pins : List (Addr × Obj)} {σ : St} {H : Hp} {s : Shared} (I : Inv X pins σ H s) : interactive X.env = false := by simp [interactive, I.ok.kind]
/-- an expression whose value is dropped -/
def tDrop (te : TE) : TS := fun D σ H => te σ H fun _ H1 => D.nx σ H1
theorem ps_expr (he : PE X e te) (hs : swapsWith e none pos.line X.env = pure false := by rfl) : PS X (.Expr e pos) (tDrop te) := by
  intro pins s σ H D I h
  exact wpAny_Expr_any (thn (he pins s σ H _ I h) fun v s1 ⟨x, H1, I1, r1, q1⟩ => ⟨σ, H1, I1, q1⟩) I.quiet hs
def tRet (te : TE) : TS := fun D σ H => te σ H D.rt
theorem ps_ret (he : PE X e te) : PS X (.Return (some e) pos) (tRet te) := by
  intro pins s σ H D I h
  exact wpAny_Return_some (thn (he pins s σ H _ I h) fun v s1 ⟨x, H1, I1, r1, q1⟩ => ⟨x, σ, H1, I1, r1, q1⟩)
def tIfS (c : TT) (t u : TS) : TS := fun D σ H => c σ H fun b H1 => if b = true then t D σ H1 else u D σ H1
theorem ps_if {c : Expr} {a b : List Stmt} {tc : TT} (hc : PT X c tc) (ha : PSs X a t) (hb : PSs X b u) : PS X (.If c a b pos) (tIfS tc t u) := by
  intro pins s σ H D I h
  refine wpAny_If (thn (hc pins s σ H _ I h) fun d s1 ⟨H1, I1, q1⟩ => ?_)
  cases d with
  | true => exact ha pins s1 σ H1 D I1 q1
  | false => exact hb pins s1 σ H1 D I1 q1
/-- code that the proof never comes to -/
def tNever : TS := fun _ _ _ => False
theorem ps_never : PS X st tNever := fun _ _ _ _ _ _ h => h.elim
end

/-! ### targets -/
abbrev TG := V → St → Hp → (St → Hp → Prop) → Prop
abbrev TGs := List V → St → Hp → (St → Hp → Prop) → Prop
def PG (X : Cx) (target : Expr) (t : TG) : Prop :=
  ∀ (pins : List (Addr × Obj)) (s : Shared) (σ : St) (H : Hp) (v : V) (u : Value) (Q : St → Hp → Prop), Inv X pins σ H s → RelV v u → t v σ H Q →
    wpAny (model X.prog X.w) X.A (assign target X.env u) (fun _ s' => ∃ σ' H', Inv X pins σ' H' s' ∧ Q σ' H') X.xe s
/-- several targets, one after another -/
def PGs (X : Cx) (ts : List Expr) (t : TGs) : Prop :=
  ∀ (pins : List (Addr × Obj)) (s : Shared) (σ : St) (H : Hp) (vs : List V) (us : List Value) (Q : St → Hp → Prop), Inv X pins σ H s → Vals vs us → t vs σ H Q →
    wpAny (model X.prog X.w) X.A (assignInOrder ((assignEach ts X.env).map (·.2)) us) (fun _ s' => ∃ σ' H', Inv X pins σ' H' s' ∧ Q σ' H') X.xe s
/-- o[i] = v, by values -/
abbrev TSet := V → V → V → Hp → (Hp → Prop) → Prop
def PSet (X : Cx) (t : TSet) : Prop :=
  ∀ (pins : List (Addr × Obj)) (s : Shared) (σ : St) (H : Hp) (o i v : V) (ov iv u : Value) (Q : Hp → Prop), Inv X pins σ H s → RelV o ov → RelV i iv → RelV v u → t o i v H Q →
    wpAny (model X.prog X.w) X.A (setItem ov iv u) (fun _ s' => ∃ H', Inv X pins σ H' s' ∧ Q H') X.xe s
section
variable {X : Cx} {pos : Pos}
def gName (i : Nat) : TG := fun v σ H Q => Q (σ.set i (some v)) H
theorem pg_name {i : Nat} {x : Str} (hN : X.N.Nodup) (hi : X.N[i]? = some x) (hx : Loc X.env.scope x) (hf : X.fn x = true ∨ X.env.scope.names.lookup x = some .local := by first | exact .inl rfl | exact .inr rfl | assumption) : PG X (.Name x pos) (gName i) := by
  intro pins s σ H v u Q I r h
  exact wpAny_assign_Name (store_ok I hN hi hx r (fun s' I' => ⟨_, H, I', h⟩) hf)
def gNil : TGs := fun vs σ H Q => vs = [] ∧ Q σ H
inductive gCons (t : TG) (u : TGs) (vs : List V) (σ : St) (H : Hp) (Q : (St → Hp → Prop)) : Prop
  | mk (v : _) (r : _) (h1 : vs = v :: r) (h2 : t v σ H fun σ' H' => u r σ' H' Q) : gCons t u vs σ H Q
theorem pgs_nil : PGs X [] gNil := by
  intro pins s σ H vs us Q I r h
  obtain ⟨e, h⟩ := h
  subst e
  cases r
  exact assignInOrder_nil ⟨σ, H, I, h⟩
theorem pgs_cons {e : Expr} {es : List Expr} {t : TG} {u : TGs} (h1 : PG X e t) (h2 : PGs X es u)
    (hs : (assignEach (e :: es) X.env).map (·.2) = assign e X.env :: (assignEach es X.env).map (·.2) := by rfl) : PGs X (e :: es) (gCons t u) := by
  intro pins s σ H vs us Q I r h
  obtain ⟨v, vr, e1, h⟩ := h
  subst e1
  cases r with
  | cons r rr =>
    rw [hs]
    refine assignInOrder_cons (thn (h1 pins s σ H _ _ _ I r h) fun _ s1 ⟨σ1, H1, I1, q1⟩ => ?_)
    exact h2 pins s1 σ1 H1 _ _ Q I1 rr q1
/-- (a, b, ..) = a tuple of that length -/
inductive gTup (K : PySem.W.Frag) (n : Nat) (t : TGs) (v : V) (σ : St) (H : Hp) (Q : (St → Hp → Prop)) : Prop
  | mk (a : _) (xs : _) (h1 : v = .ref a) (h2 : SqT K H a xs) (h3 : xs.length = n) (h4 : t xs σ H Q) : gTup K n t v σ H Q
theorem pg_tup {es : List Expr} {k : Nat} {t : TGs} {n : Nat} (hc : X.calm = true) (h : PGs X es t)
    (hn : (assignEach es X.env).length = n := by rfl) (hst : (assignEach es X.env).findIdx? (·.1) = none := by rfl) : PG X (.Tuple es k pos) (gTup X.K n t) := by
  intro pins s σ H v u Q I r hw
  obtain ⟨a, xs, e1, hq, hl, hw⟩ := hw
  subst e1
  cases r
  obtain ⟨its, rv, ht, hz⟩ := I.tuple hq
  refine assign_Tuple_tuple (I.ok.hd hc) ht (by simp [hn, ← hl, rv.length]) hst fun h' hx => ?_
  have I1 : Inv X pins σ H { s with heap := h' } := I.kept (t' := s.toks) fun b o e => hx b o (Nat.ne_of_lt (Heap.lt_size e)) e
  exact h pins _ σ H xs _ Q I1 (by simpa using rv) hw
/-- o[i] = .. -/
def gSub (to ti : TE) (t : TSet) : TG := fun v σ H Q => to σ H fun o H1 => ti σ H1 fun i H2 => t o i v H2 fun H3 => Q σ H3
theorem pg_sub {o i : Expr} {to ti : TE} {t : TSet} (ho : PE X o to) (hi : PE X i ti) (hs : PSet X t)
    (ha : ∀ v, assign (.Subscript o i pos) X.env v = (do
      let ov ← holding [v] (eval o X.env)
      let iv ← holding [v, ov] (eval i X.env)
      standAt pos
      holding [v, ov, iv] (setItem ov iv v)
      release [v, ov, iv] []) := by intro _; rfl) : PG X (.Subscript o i pos) (gSub to ti t) := by
  intro pins s σ H v u Q I r h
  rw [ha]
  refine wpAny_bind (wpAny_holding (thn (ho pins s σ H _ I h) fun ov s1 ⟨x, H1, I1, r1, q1⟩ => ?_))
  refine wpAny_bind (wpAny_holding (thn (hi pins s1 σ H1 _ I1 q1) fun iv s2 ⟨y, H2, I2, r2, q2⟩ => ?_))
  refine wpAny_bind (wpAny_standAt (wpAny_bind (wpAny_holding (thn (hs pins s2 σ H2 x y v ov iv u _ I2 r1 r2 r q2) fun _ s3 ⟨H3, I3, q3⟩ => ?_))))
  exact wpAny_release ⟨σ, H3, I3, q3⟩
/-- target = value -/
def tAsg (te : TE) (g : TG) : TS := fun D σ H => te σ H fun x H1 => g x σ H1 D.nx
theorem ps_asg {tg e : Expr} {te : TE} {g : TG} (he : PE X e te) (hg : PG X tg g) (hs : swapsWithSole [tg] e pos.line X.env = pure false := by rfl) (hw : swappedStores [tg] e X.env = pure none := by rfl)
    (h1 : (assignEach [tg] X.env).map (·.2) = [assign tg X.env] := by rfl) : PS X (.Assign [tg] e pos) (tAsg te g) := by
  intro pins s σ H D I h
  refine wpAny_Assign_stores (thn (he pins s σ H _ I h) fun v s1 ⟨x, H1, I1, r1, q1⟩ => ?_) hs hw
  rw [h1]
  exact thn (hg pins s1 σ H1 x v _ I1 r1 q1) fun _ s2 q => q
/-- name = value -/
theorem ps_set {i : Nat} {x : Str} {e : Expr} {te : TE} {pos' : Pos} (hN : X.N.Nodup) (hi : X.N[i]? = some x) (hx : Loc X.env.scope x) (he : PE X e te) (hs : swapsWith e (some (.Name x pos')) pos.line X.env = pure false := by rfl) (hf : X.fn x = true ∨ X.env.scope.names.lookup x = some .local := by first | exact .inl rfl | exact .inr rfl | assumption) :
    PS X (.Assign [.Name x pos'] e pos) (tAsg te (gName i)) := by
  intro pins s σ H D I h
  refine wpAny_Assign_Name (thn (he pins s σ H _ I h) fun v s1 ⟨y, H1, I1, r1, q1⟩ => ?_) hs
  exact store_ok I1 hN hi hx r1 (fun s2 I2 => ⟨_, H1, I2, q1⟩) hf
/-- a, b = x, y with plain local names: stored from the right; the pair itself is not tracked (the opening rows as in PyProof/Rows/TupAssign.lean:23) -/
def tPar (i j : Nat) (ta : TA) : TS := fun D σ H => ta σ H fun vs H1 => ∃ v w, vs = [v, w] ∧ D.nx ((σ.set i (some v)).set j (some w)) H1
theorem ps_par {i j : Nat} {x y : Str} {a b : Expr} {ta : TA} {px py pt : Pos} {kt k2 pt2} (hc : X.calm = true) (hN : X.N.Nodup) (hi : X.N[i]? = some x) (hj : X.N[j]? = some y) (hij : i ≠ j)
    (hx : X.env.scope.names.lookup x = some .local) (hy : X.env.scope.names.lookup y = some .local) (ha : PA X [a, b] ta)
    (hw : swappedStores [.Tuple [.Name x px, .Name y py] kt pt] (.Tuple [a, b] k2 pt2) X.env = pure (some [x, y]))
    (hs : swapsWithSole [.Tuple [.Name x px, .Name y py] kt pt] (.Tuple [a, b] k2 pt2) pos.line X.env = pure false := by rfl) :
    PS X (.Assign [.Tuple [.Name x px, .Name y py] kt pt] (.Tuple [a, b] k2 pt2) pos) (tPar i j ta) := by
  intro pins s σ H D I h
  rw [exec_Assign_arm]
  refine wpAny_bind (wpAny_standAt ?_)
  rw [hs]
  refine wpAny_bind (wpAny_pure ?_)
  rw [if_neg (by decide)]
  refine wpAny_bind (Tuple_ (thn (ha _ pins s σ H _ I h) fun us s1 ⟨vs, H1, I1, r1, q1⟩ => ?_))
  obtain ⟨v, w, e1, q1⟩ := q1
  subst e1
  obtain ⟨u1, u2, rfl, rv, rw'⟩ : ∃ u1 u2, us = [u1, u2] ∧ RelV v u1 ∧ RelV w u2 := by
    cases r1 with
    | cons p q =>
      cases q with
      | cons p' q' =>
        cases q'
        exact ⟨_, _, rfl, p, p'⟩
  refine wpAny_newObj_type ?_ (by show 2 ≤ sizeLine; decide)
  have I2 : Inv X pins σ H1 { s1 with heap := s1.heap.push { cls := .type "tuple", data := .seq [u1, u2].toArray } } := I1.kept (t' := s1.toks) fun b o e => Heap.get?_push_of_some _ e
  rw [hw]
  refine wpAny_bind (wpAny_pure ?_)
  show wpAny (model X.prog X.w) X.A (do rule "assign.swapped-stores"; let items ← unpackItems (.ref s1.heap.objs.size) 2 none; assignInOrder [fun v => bindName X.env y v, fun v => bindName X.env x v] items.reverse; pure Flow.next) _ _ _
  refine wpAny_bind (wpAny_rule (wpAny_bind (unpackItems_tuple (items := #[u1, u2]) (I.ok.hd hc) (IsTup.new s1.heap _) fun h' hx' => ?_)))
  have I3 := I2.kept (h' := h') (t' := s1.toks) fun b o e => hx' b o (Nat.ne_of_lt (Heap.lt_size e)) e
  show wpAny _ _ (assignInOrder [fun v => bindName X.env y v, fun v => bindName X.env x v] [u2, u1] >>= fun _ => pure Flow.next) _ _ _
  refine wpAny_bind (assignInOrder_cons (wpAny_bindName (store_ok I3 hN hj (.inl hy) rw' (fun s2 I4 => ?_) (.inr hy))))
  refine assignInOrder_cons (wpAny_bindName (store_ok I4 hN hi (.inl hx) rv (fun s3 I5 => assignInOrder_nil (wpAny_pure ?_)) (.inr hx)))
  rw [List.set_comm _ _ (Ne.symm hij)] at I5
  exact ⟨_, H1, I5, q1⟩
end

/-! ### while -/
section
variable {X : Cx} {pos : Pos}
/-- the invariant W with its measure -/
def tWhile (c : TT) (tb : TS) : TS := fun D σ H => ∃ W : Nat → St → Hp → Prop, (∃ m, W m σ H) ∧ ∀ m σ H, W m σ H →
  c σ H fun b H1 => if b = true then ∃ N : St → Hp → Prop, (∀ σ' H', N σ' H' → ∃ m', m' < m ∧ W m' σ' H') ∧ tb { D with nx := N, ct := N, bk := D.nx } σ H1 else D.nx σ H1
theorem ps_while {c : Expr} {body : List Stmt} {tc : TT} {tb : TS} (hp : PassesOwn (model X.prog X.w) X.A X.env X.xe) (hc : PT X c tc) (hb : PSs X body tb) : PS X (.While c body [] pos) (tWhile tc tb) := by
  intro pins s σ H D I h
  obtain ⟨W, ⟨m0, w0⟩, turn⟩ := h
  refine wpAny_While (codeAny_whileLoop (fun n s' => ∃ σ' H', Inv X pins σ' H' s' ∧ W n σ' H') ?_ m0 ⟨σ, H, I, w0⟩)
  rintro n s1 ⟨σ1, H1, I1, w1⟩
  refine wpAny_passesOwn hp (thn (hc pins s1 σ1 H1 _ I1 (turn n σ1 H1 w1)) fun b s2 ⟨H2, I2, q2⟩ => ?_)
  cases b with
  | true =>
    obtain ⟨N, hN, q2⟩ := q2
    rw [if_pos rfl]
    refine wpAny_passesOwn hp (thn (hb pins s2 σ1 H2 _ I2 q2) fun f s3 q3 => ?_)
    cases f with
    | next =>
      obtain ⟨σ3, H3, I3, n3⟩ := q3
      obtain ⟨m', hm, w3⟩ := hN σ3 H3 n3
      exact ⟨m', hm, σ3, H3, I3, w3⟩
    | cont =>
      obtain ⟨σ3, H3, I3, n3⟩ := q3
      obtain ⟨m', hm, w3⟩ := hN σ3 H3 n3
      exact ⟨m', hm, σ3, H3, I3, w3⟩
    | brk => exact q3
    | ret v => exact q3
  | false =>
    rw [if_neg Bool.false_ne_true]
    exact wpAny_execs_nil ⟨σ1, H2, I2, q2⟩
end

/-! ### what a loop or a comprehension walks -/
/-- at turn i: it yields x (the heap may grow), or it stops -/
structure It where
  go : Nat → Hp → Prop
  yld : Nat → Hp → V → Hp → Prop
  stop : Nat → Hp → Prop
/-- the iterator's own objects may turn: they are not the frame's, not pinned, younger than the entry (or a comprehension's own) -/
def FpOk (X : Cx) (pins : List (Addr × Obj)) (H : Hp) (b : Addr) : Prop :=
  H b = none ∧ b ≠ X.env.locals ∧ b ∉ X.fs ∧ (b ∈ X.ex ∨ X.s₀.heap.objs.size ≤ b) ∧ (∀ x c, X.env.cells.lookup x = some c → c ≠ b) ∧ ∀ p ∈ X.pn ++ pins, p.1 ≠ b
theorem Inv.fpOk {X : Cx} {pins : List (Addr × Obj)} {σ : St} {H H' : Hp} {s : Shared} {b : Addr} (I : Inv X pins σ H s) (hb : s.heap.objs.size ≤ b) (hn : H' b = none) : FpOk X pins H' b := by
  refine ⟨hn, Nat.ne_of_gt (Nat.lt_of_lt_of_le I.lt hb), I.nofs hb, .inr (Nat.le_trans I.sz hb), fun x c e z => ?_, fun p hp z => ?_⟩
  · obtain ⟨v, q⟩ := I.cell x c e
    exact absurd (Nat.lt_of_lt_of_le q.lt (by rw [z]; exact hb)) (Nat.lt_irrefl _)
  · exact absurd (Nat.lt_of_lt_of_le (Heap.lt_size (I.pin p hp).1) (by rw [z]; exact hb)) (Nat.lt_irrefl _)
structure Turn (P : Program) (w : World) (K : PySem.W.Frag) (tg : Expr) (J : It) (fp : List Addr) (it : Addr) (tn : Nat → Heap → Prop) : Prop where
  mem : it ∈ fp
  obj : ∀ i h, tn i h → ∀ b ∈ fp, ∃ o, h.get? b = some o ∧ ∀ v, o.data ≠ .cell v
  keep : ∀ i h h', tn i h → (∀ b ∈ fp, ∀ o, h.get? b = some o → h'.get? b = some o) → tn i h'
  item : ∀ (X : Cx), X.prog = P → X.w = w → X.K = K → X.calm = true → ∀ (i : Nat) (pins : List (Addr × Obj)) (s : Shared) (σ : St) (H : Hp) (E : Value → Shared → Prop), Inv X pins σ H s → (∀ b ∈ fp, FpOk X pins H b) → tn i s.heap → J.go i H →
    wpAny (model P w) X.A (pyNext (.ref it)) (fun r s1 => ∃ u, r = some u ∧
      wpAny (model P w) X.A (letOwnedTupleGo tg (.ref it) u) (fun _ s2 => ∃ x H', Inv X pins σ H' s2 ∧ RelV x u ∧ J.yld i H x H' ∧ tn (i + 1) s2.heap ∧ ∀ b ∈ fp, H' b = none) E s1) E s
  done : ∀ (X : Cx), X.prog = P → X.w = w → X.K = K → X.calm = true → ∀ (i : Nat) (pins : List (Addr × Obj)) (s : Shared) (σ : St) (H : Hp) (E : Value → Shared → Prop), Inv X pins σ H s → (∀ b ∈ fp, FpOk X pins H b) → tn i s.heap → J.stop i H →
    wpAny (model P w) X.A (pyNext (.ref it)) (fun r s1 => r = none ∧ Inv X pins σ H s1) E s
  self : ∀ (A : Around) (i : Nat) (s : Shared) (Q : Value → Shared → Prop) (E : Value → Shared → Prop), tn i s.heap → Q (.ref it) s → wpAny (model P w) A (pyIter (.ref it)) Q E s
abbrev TI := St → Hp → (It → Hp → Prop) → Prop
/-- an iterator has come -/
def PIE (X : Cx) (pins : List (Addr × Obj)) (σ : St) (tg : Expr) (R : It → Hp → Prop) (itv : Value) (s2 : Shared) : Prop :=
  ∃ (it : Addr) (fp : List Addr) (tn : Nat → Heap → Prop) (J : It) (H' : Hp), itv = .ref it ∧ Inv X pins σ H' s2 ∧ Turn X.prog X.w X.K tg J fp it tn ∧ tn 0 s2.heap ∧ (∀ b ∈ fp, FpOk X pins H' b) ∧ R J H'
def PI (X : Cx) (tg iter : Expr) (wi : TI) : Prop :=
  ∀ (pins : List (Addr × Obj)) (s : Shared) (σ : St) (H : Hp) (R : It → Hp → Prop), Inv X pins σ H s → wi σ H R →
    wpAny (model X.prog X.w) X.A (eval iter X.env) (fun v s1 => wpAny (model X.prog X.w) X.A (pyIter v) (PIE X pins σ tg R) X.xe s1) X.xe s

/-- the step ahead of the store is nothing for an iterator that keeps no tuple -/
theorem go_of {M : Model} {A : Around} {E : Value → Shared → Prop} {s : Shared} {tg : Expr} {it : Addr} {u : Value} {o : Obj} {n : String} {vs : Array Value} {Q : Unit → Shared → Prop} (ho : s.heap.get? it = some o) (hc : o.cls = .type n) (hd : o.data = .fields vs)
    (hn : ["enumerate", "zip", "dict_itemiterator", "dict_reverseitemiterator", "odict_iterator", "itertools.zip_longest", "itertools.pairwise"].contains n = false) (hQ : Q () s) : wpAny M A (letOwnedTupleGo tg (.ref it) u) Q E s := by
  unfold letOwnedTupleGo
  cases tg <;> first
    | exact wpAny_pure hQ
    | (cases u <;> first
        | exact wpAny_pure hQ
        | (refine wpAny_bind (wpAny_load ho ?_)
           rw [hc, hd]
           show wpAny M A (if (["enumerate", "zip", "dict_itemiterator", "dict_reverseitemiterator", "odict_iterator", "itertools.zip_longest", "itertools.pairwise"].contains n && vs[0]? == some (rawInt _)) = true then _ else _) Q E s
           rw [if_neg (by intro h; rw [hn, Bool.false_and] at h; cases h)]
           exact wpAny_pure hQ))

/-- the list at a, as it stands at each turn (a loop may append to it) -/
def Itl (K : PySem.W.Frag) (a : Addr) : It :=
  ⟨fun i H => ∃ xs x, SqL K H a xs ∧ xs[i]? = some x, fun i H x H' => H' = H ∧ ∀ xs, SqL K H a xs → xs[i]? = some x, fun i H => ∃ xs, SqL K H a xs ∧ xs.length ≤ i⟩
def Itt (K : PySem.W.Frag) (a : Addr) : It :=
  ⟨fun i H => ∃ xs x, SqT K H a xs ∧ xs[i]? = some x, fun i H x H' => H' = H ∧ ∀ xs, SqT K H a xs → xs[i]? = some x, fun i H => ∃ xs, SqT K H a xs ∧ xs.length ≤ i⟩
/-- lo, lo + 1, .. (n of them) -/
def Itr (lo : Int) (n : Nat) : It := ⟨fun i _ => i < n, fun i H x H' => H' = H ∧ x = .int (lo + i), fun i _ => n ≤ i⟩
theorem turn_list {P : Program} {w : World} {K : PySem.W.Frag} {tg : Expr} (a it : Addr) : Turn P w K tg (Itl K a) [it] it (fun i h => h.IsListIter it a i) where
  mem := by simp
  obj := fun i h st b hb => by
    have e : b = it := by simpa using hb
    subst e
    obtain ⟨o, e, c, d⟩ := st
    exact ⟨o, e, fun v z => by rw [d] at z; cases z⟩
  keep := fun i h h' st k => st.at fun o e => k it (by simp) o e
  item := by
    intro X hP hw hK hc i pins s σ H E I hf st hg
    subst hP hw hK
    obtain ⟨xs, x, hq, hx⟩ := hg
    obtain ⟨its, rv, p, hz⟩ := I.list hq
    obtain ⟨u, hu, ru⟩ := rv.get hx
    obtain ⟨f0, f1, f2, f3, f4, f5⟩ := hf it (by simp)
    refine wpAny_pyNext_list_item st p.isList (x := u) (by simpa using hu) fun h' st' sb => ?_
    have I1 : Inv X pins σ H { s with heap := h' } := I.turned (t' := s.toks) (fun b o hb e => (sb.2 b hb).trans e) f0 f1 f3 f4 f5
    obtain ⟨o, e, c, d⟩ := id st'
    exact ⟨u, rfl, go_of (s := { s with heap := h' }) e c d (by decide) ⟨x, H, I1, ru, ⟨rfl, fun ys hy => by rw [I.list_inj hy hq]; exact hx⟩, st', fun b hb => (hf b hb).1⟩⟩
  done := by
    intro X hP hw hK hc i pins s σ H E I hf st hg
    subst hP hw hK
    obtain ⟨xs, hq, hx⟩ := hg
    obtain ⟨its, rv, p, hz⟩ := I.list hq
    obtain ⟨f0, f1, f2, f3, f4, f5⟩ := hf it (by simp)
    have hl := rv.length
    exact wpAny_pyNext_list_end (I.ok.hd hc) st p.isList (by simp; lia) fun h' eb => ⟨rfl, I.turned (t' := s.toks) (fun b o hb e => eb b o hb e) f0 f1 f3 f4 f5⟩
  self := fun _ _ _ _ _ st h => wpAny_pyIter_listiter st h
theorem turn_tuple {P : Program} {w : World} {K : PySem.W.Frag} {tg : Expr} (a it : Addr) : Turn P w K tg (Itt K a) [it] it (fun i h => h.IsTupleIter it a i) where
  mem := by simp
  obj := fun i h st b hb => by
    have e : b = it := by simpa using hb
    subst e
    obtain ⟨o, e, c, d⟩ := st
    exact ⟨o, e, fun v z => by rw [d] at z; cases z⟩
  keep := fun i h h' st k => st.at fun o e => k it (by simp) o e
  item := by
    intro X hP hw hK hc i pins s σ H E I hf st hg
    subst hP hw hK
    obtain ⟨xs, x, hq, hx⟩ := hg
    obtain ⟨its, rv, p, hz⟩ := I.tuple hq
    obtain ⟨u, hu, ru⟩ := rv.get hx
    obtain ⟨f0, f1, f2, f3, f4, f5⟩ := hf it (by simp)
    refine wpAny_pyNext_tuple_item st (show s.heap.IsTuple a its.toArray from p) (x := u) (by simpa using hu) fun h' st' sb => ?_
    have I1 : Inv X pins σ H { s with heap := h' } := I.turned (t' := s.toks) (fun b o hb e => (sb.2 b hb).trans e) f0 f1 f3 f4 f5
    obtain ⟨o, e, c, d⟩ := id st'
    exact ⟨u, rfl, go_of (s := { s with heap := h' }) e c d (by decide) ⟨x, H, I1, ru, ⟨rfl, fun ys hy => by rw [I.tuple_inj hy hq]; exact hx⟩, st', fun b hb => (hf b hb).1⟩⟩
  done := by
    intro X hP hw hK hc i pins s σ H E I hf st hg
    subst hP hw hK
    obtain ⟨xs, hq, hx⟩ := hg
    obtain ⟨its, rv, p, hz⟩ := I.tuple hq
    obtain ⟨f0, f1, f2, f3, f4, f5⟩ := hf it (by simp)
    have hl := rv.length
    exact wpAny_pyNext_tuple_end (I.ok.hd hc) st (show s.heap.IsTuple a its.toArray from p) (by simp; lia) fun h' eb => ⟨rfl, I.turned (t' := s.toks) (fun b o hb e => eb b o hb e) f0 f1 f3 f4 f5⟩
  self := fun _ _ _ _ _ st h => wpAny_pyIter_tupleiter st h
theorem turn_range {P : Program} {w : World} {K : PySem.W.Frag} {tg : Expr} (it : Addr) (lo : Int) (n : Nat) : Turn P w K tg (Itr lo n) [it] it (fun i h => IsRangeIter h it (lo + (i : Nat) * 1) ((n : Int) - (i : Nat)) 1) where
  mem := by simp
  obj := fun i h st b hb => by
    have e : b = it := by simpa using hb
    subst e
    exact ⟨_, st, fun v z => by
      have z' : Data.fields _ = Data.cell v := z
      cases z'⟩
  keep := fun i h h' st k => k it (by simp) _ st
  item := by
    intro X hP hw hK hc i pins s σ H E I hf st hg
    subst hP hw hK
    obtain ⟨f0, f1, f2, f3, f4, f5⟩ := hf it (by simp)
    have W := Walks.range (prog := X.prog) (w := X.w) (I.ok.hd hc) it lo 1 n
    refine W.item i s _ _ hg st fun v h' tk hv st' kk => ?_
    obtain ⟨t, rfl⟩ := hv
    have I1 : Inv X pins σ H { s with heap := h', toks := tk } := I.turned (fun b o hb e => kk b o (by simpa using hb) e) f0 f1 f3 f4 f5
    refine ⟨_, rfl, go_of (s := { s with heap := h', toks := tk }) (n := "range_iterator") st' rfl rfl (by decide) ⟨.int (lo + i), H, I1, ⟨t, ?_⟩, ⟨rfl, rfl⟩, st', fun b hb => (hf b hb).1⟩⟩
    rw [Int.mul_one]
  done := by
    intro X hP hw hK hc i pins s σ H E I hf st hg
    subst hP hw hK
    obtain ⟨f0, f1, f2, f3, f4, f5⟩ := hf it (by simp)
    exact wpAny_pyNext_range_end (I.ok.hd hc) st (by have : n ≤ i := hg; lia) fun h' eb => ⟨rfl, I.turned (t' := s.toks) (fun b o hb e => eb b o hb e) f0 f1 f3 f4 f5⟩
  self := fun _ _ _ _ _ st h => wpAny_pyIter_rangeiter st h
end L2

namespace L2
open PySem PySem.Spec PyProof.Rows
section
variable {X : Cx} {tg : Expr}
def iList (K : PySem.W.Frag) (tl : TE) : TI := fun σ H R => tl σ H fun x H1 => ∃ a, x = .ref a ∧ (∃ xs, SqL K H1 a xs) ∧ R (Itl K a) H1
def iTup (K : PySem.W.Frag) (tl : TE) : TI := fun σ H R => tl σ H fun x H1 => ∃ a, x = .ref a ∧ (∃ xs, SqT K H1 a xs) ∧ R (Itt K a) H1
theorem pi_list {l : Expr} {tl : TE} (hl : PE X l tl) : PI X tg l (iList X.K tl) := by
  intro pins s σ H R I h
  refine thn (hl pins s σ H _ I h) fun v s1 ⟨x, H1, I1, r1, q1⟩ => ?_
  obtain ⟨a, e, ⟨xs, hq⟩, q⟩ := q1
  subst e
  cases r1
  obtain ⟨its, rv, p, hz⟩ := I1.list hq
  refine wpAny_pyIter_list p.isList ?_
  refine ⟨s1.heap.objs.size, [s1.heap.objs.size], _, _, H1, rfl, I1.kept (t' := s1.toks) fun b o e => Heap.get?_push_of_some _ e, turn_list a _, ⟨_, Heap.get?_push_size _ rfl, rfl, rfl⟩, fun b hb => ?_, q⟩
  have e : b = s1.heap.objs.size := by simpa using hb
  subst e
  exact I1.fpOk (Nat.le_refl _) (I1.hok.fresh (Nat.le_refl _))
theorem pi_tup {l : Expr} {tl : TE} (hl : PE X l tl) : PI X tg l (iTup X.K tl) := by
  intro pins s σ H R I h
  refine thn (hl pins s σ H _ I h) fun v s1 ⟨x, H1, I1, r1, q1⟩ => ?_
  obtain ⟨a, e, ⟨xs, hq⟩, q⟩ := q1
  subst e
  cases r1
  obtain ⟨its, rv, p, hz⟩ := I1.tuple hq
  refine wpAny_pyIter_tuple (show s1.heap.IsTuple a its.toArray from p) ?_
  refine ⟨s1.heap.objs.size, [s1.heap.objs.size], _, _, H1, rfl, I1.kept (t' := s1.toks) fun b o e => Heap.get?_push_of_some _ e, turn_tuple a _, ⟨_, Heap.get?_push_size _ rfl, rfl, rfl⟩, fun b hb => ?_, q⟩
  have e : b = s1.heap.objs.size := by simpa using hb
  subst e
  exact I1.fpOk (Nat.le_refl _) (I1.hok.fresh (Nat.le_refl _))
/-- a range object just made, walked -/
theorem range_it {pins : List (Addr × Obj)} {σ : St} {H : Hp} {s : Shared} {R : It → Hp → Prop} {E : Value → Shared → Prop} {lo hi : Int} {t u v : Tok} {tk : Nat} (I : Inv X pins σ H s) (h1 : -(2 ^ 62) ≤ lo) (h2 : lo < 2 ^ 62) (h3 : -(2 ^ 62) ≤ hi) (h4 : hi < 2 ^ 62)
    (q : R (Itr lo (hi - lo).toNat) H) : wpAny (model X.prog X.w) X.A (pyIter (.ref s.heap.objs.size)) (PIE X pins σ tg R) E { s with heap := s.heap.push { cls := .type "range", data := .fields #[.int lo t, .int hi u, .int 1 v] }, toks := tk } := by
  refine wpAny_pyIter_range (IsRange.new ..) (small_one h1 h2 h3 h4) ?_
  have I1 : Inv X pins σ H { s with heap := s.heap.push { cls := .type "range", data := .fields #[.int lo t, .int hi u, .int 1 v] }, toks := tk } := I.kept fun b o e => Heap.get?_push_of_some _ e
  refine ⟨(s.heap.push { cls := .type "range", data := .fields #[.int lo t, .int hi u, .int 1 v] }).objs.size, [(s.heap.push { cls := .type "range", data := .fields #[.int lo t, .int hi u, .int 1 v] }).objs.size], _, _, H, rfl,
    I1.kept (t' := tk) fun b o e => Heap.get?_push_of_some _ e, turn_range _ lo (hi - lo).toNat, ?_, fun b hb => ?_, q⟩
  · have e1 : lo + ((0 : Nat) : Int) * 1 = lo := by simp
    have e2 : (((hi - lo).toNat : Nat) : Int) - ((0 : Nat) : Int) = Builtin.Range.rangeSize lo hi 1 := by rw [rangeSize_one]; split <;> lia
    show IsRangeIter _ _ (lo + ((0 : Nat) : Int) * 1) ((((hi - lo).toNat : Nat) : Int) - ((0 : Nat) : Int)) 1
    rw [e1, e2]
    exact Heap.get?_push_size _ rfl
  · have e : b = (s.heap.push { cls := .type "range", data := .fields #[.int lo t, .int hi u, .int 1 v] }).objs.size := by simpa using hb
    subst e
    exact I1.fpOk (Nat.le_refl _) (I1.hok.fresh (Nat.le_refl _))
def iRng1 (ta : TA) : TI := fun σ H R => ta σ H fun vs H1 => ∃ j : Int, vs = [.int j] ∧ -(2 ^ 62) ≤ j ∧ j < 2 ^ 62 ∧ R (Itr 0 j.toNat) H1
def iRng2 (ta : TA) : TI := fun σ H R => ta σ H fun vs H1 => ∃ i j : Int, vs = [.int i, .int j] ∧ (-(2 ^ 62) ≤ i ∧ i < 2 ^ 62 ∧ -(2 ^ 62) ≤ j ∧ j < 2 ^ 62) ∧ R (Itr i (j - i).toNat) H1
theorem pi_range1 {a : Expr} {ta : TA} {p pos : Pos} (hg : Gl X "range") (hm : X.mg "range" = none) (ha : PA X [a] ta) (hs : starEach [a] X.env = [(false, eval a X.env)] := by rfl) : PI X tg (.Call (.Name "range" p) [a] [] pos) (iRng1 ta) := by
  intro pins s σ H R I h
  refine Call_ (ld_blt I hg hm boot_range (PyProof.Rows.callWith_type1 (thn (ha pos pins s σ H _ I h) fun us s1 ⟨vs, H1, I1, r1, q1⟩ => ?_) hs rfl))
  obtain ⟨j, e, q1, q2, q⟩ := q1
  subst e
  cases r1 with
  | cons r rr =>
    cases rr
    obtain ⟨t, rfl⟩ := r
    exact call_range_1 (range_it I1 (by lia) (by lia) q1 q2 (by simpa using q))
theorem pi_range2 {a b : Expr} {ta : TA} {p pos : Pos} (hg : Gl X "range") (hm : X.mg "range" = none) (ha : PA X [a, b] ta) (hs : starEach [a, b] X.env = [(false, eval a X.env), (false, eval b X.env)] := by rfl) (hs2 : starEach [b] X.env = [(false, eval b X.env)] := by rfl) :
    PI X tg (.Call (.Name "range" p) [a, b] [] pos) (iRng2 ta) := by
  intro pins s σ H R I h
  refine Call_ (ld_blt I hg hm boot_range (PyProof.Rows.callWith_type1 (thn (ha pos pins s σ H _ I h) fun us s1 ⟨vs, H1, I1, r1, q1⟩ => ?_) (by rw [hs, hs2]) (by rw [hs2]; rfl)))
  obtain ⟨i, j, e, ⟨q1, q2, q3, q4⟩, q⟩ := q1
  subst e
  cases r1 with
  | cons r rr =>
    cases rr with
    | cons r' rr =>
      cases rr
      obtain ⟨t, rfl⟩ := r
      obtain ⟨t', rfl⟩ := r'
      exact call_range_2 (range_it I1 q1 q2 q3 q4 q)

/-! ### for -/
/-- W: the invariant by the turn and a measure; N: what the body is to reach -/
def tFor (wi : TI) (g : TG) (tb : TS) : TS := fun D σ H => wi σ H fun J H1 => ∃ W : Nat → Nat → St → Hp → Prop, (∃ m, W 0 m σ H1) ∧ ∀ i m σ H, W i m σ H →
  (J.stop i H ∧ D.nx σ H) ∨ (J.go i H ∧ ∃ N : St → Hp → Prop, (∀ σ' H', N σ' H' → ∃ m', m' < m ∧ W (i + 1) m' σ' H') ∧ ∀ x H', J.yld i H x H' → g x σ H' fun σ2 H2 => tb { D with nx := N, ct := N, bk := D.nx } σ2 H2)
/-- the records at fp as they stand -/
def pinsAt (fp : List Addr) (h : Heap) : List (Addr × Obj) := fp.filterMap fun b => (h.get? b).map fun o => (b, o)
theorem mem_pinsAt {fp : List Addr} {h : Heap} {b : Addr} {o : Obj} (hb : b ∈ fp) (e : h.get? b = some o) : (b, o) ∈ pinsAt fp h := List.mem_filterMap.mpr ⟨b, hb, by rw [e]; rfl⟩
theorem of_pinsAt {fp : List Addr} {h : Heap} {p : Addr × Obj} (hp : p ∈ pinsAt fp h) : p.1 ∈ fp ∧ h.get? p.1 = some p.2 := by
  obtain ⟨b, hb, e⟩ := List.mem_filterMap.mp hp
  cases q : h.get? b with
  | none => rw [q] at e; cases e
  | some o =>
    rw [q] at e
    have e' : (b, o) = p := Option.some.inj e
    subst e'
    exact ⟨hb, q⟩
theorem Inv.pinned {pins : List (Addr × Obj)} {σ : St} {H : Hp} {s : Shared} {fp : List Addr} (I : Inv X pins σ H s) (hf : ∀ b ∈ fp, FpOk X pins H b) (ho : ∀ b ∈ fp, ∃ o, s.heap.get? b = some o ∧ ∀ v, o.data ≠ .cell v) : Inv X (pins ++ pinsAt fp s.heap) σ H s :=
  I.pins_of fun p hp => (List.mem_append.mp hp).elim (fun z => I.pin p (List.mem_append_right _ z)) fun z => by
    obtain ⟨hb, e⟩ := of_pinsAt z
    obtain ⟨f0, f1, f2, _⟩ := hf p.1 hb
    obtain ⟨o, e', d⟩ := ho p.1 hb
    rw [e] at e'; cases e'
    exact ⟨e, f0, f1, f2, d⟩
theorem Inv.unpinned {pins pl : List (Addr × Obj)} {σ : St} {H : Hp} {s : Shared} (I : Inv X (pins ++ pl) σ H s) : Inv X pins σ H s := I.pins_of fun p hp => I.pin p (List.mem_append_right _ (List.mem_append_left _ hp))
theorem ps_for {iter : Expr} {body : List Stmt} {wi : TI} {g : TG} {tb : TS} {pos : Pos} (hp : PassesOwn (model X.prog X.w) X.A X.env X.xe) (hc : X.calm = true) (hi : PI X tg iter wi) (hg : PG X tg g) (hb : PSs X body tb)
    (hs : ∀ x, foldedSetIterable iter X.env x = pure x := by intro _; rfl) : PS X (.For tg iter body [] pos) (tFor wi g tb) := by
  intro pins s σ H D I h
  refine wpAny_For (thn (hi pins s σ H _ I h) fun v s1 h1 => thn h1 fun itv s2 h2 => ?_) hs
  obtain ⟨it, fp, tn, J, H2, e, I2, T, st2, f2, W, ⟨m0, w0⟩, turn⟩ := h2
  subst e
  -- what stays true of the iterator's objects through the loop
  have stat : ∀ {H' : Hp}, (∀ b ∈ fp, H' b = none) → ∀ b ∈ fp, FpOk X pins H' b := fun hn b hb => ⟨hn b hb, (f2 b hb).2⟩
  refine codeAny_forLoop_any (fun n s' => ∃ i σ' H', Inv X pins σ' H' s' ∧ tn i s'.heap ∧ (∀ b ∈ fp, H' b = none) ∧ W i n σ' H') ?_ m0 ⟨0, σ, H2, I2, st2, fun b hb => (f2 b hb).1, w0⟩
  rintro n s3 ⟨i, σ3, H3, I3, st3, fr3, w3⟩
  rcases turn i n σ3 H3 w3 with ⟨stop, qn⟩ | ⟨go, N, hN, step⟩
  · refine wpAny_passesOwn hp (thn (T.done X rfl rfl rfl hc i pins s3 σ3 H3 X.xe I3 (stat fr3) st3 stop) fun r s4 ⟨hr, I4⟩ => ?_)
    subst hr
    exact wpAny_execs_nil ⟨σ3, H3, I4, qn⟩
  · refine wpAny_passesOwn hp (thn (T.item X rfl rfl rfl hc i pins s3 σ3 H3 X.xe I3 (stat fr3) st3 go) fun r s4 ⟨u, hr, h4⟩ => ?_)
    subst hr
    refine wpAny_passesOwn hp (thn h4 fun _ s5 ⟨x, H5, I5, r5, y5, st5, fr5⟩ => ?_)
    have I5' := I5.pinned (stat fr5) (T.obj _ _ st5)
    refine wpAny_passesOwn hp (thn (hg _ s5 σ3 H5 x u _ I5' r5 (step x H5 y5)) fun _ s6 ⟨σ6, H6, I6, q6⟩ => ?_)
    refine wpAny_passesOwn hp (thn (hb _ s6 σ6 H6 _ I6 q6) fun f s7 q7 => ?_)
    have again : ∀ {σ7 : St} {H7 : Hp}, Inv X (pins ++ pinsAt fp s5.heap) σ7 H7 s7 → N σ7 H7 → ∃ m, m < n ∧ ∃ i σ' H', Inv X pins σ' H' s7 ∧ tn i s7.heap ∧ (∀ b ∈ fp, H' b = none) ∧ W i m σ' H' := fun {σ7 H7} I7 n7 => by
      obtain ⟨m', hm, w7⟩ := hN σ7 H7 n7
      refine ⟨m', hm, i + 1, σ7, H7, I7.unpinned, T.keep _ _ _ st5 fun b hb o e => (I7.pin (b, o) (List.mem_append_right _ (List.mem_append_right _ (mem_pinsAt hb e)))).1, fun b hb => ?_, w7⟩
      obtain ⟨o, e, d⟩ := T.obj _ _ st5 b hb
      exact (I7.pin (b, o) (List.mem_append_right _ (List.mem_append_right _ (mem_pinsAt hb e)))).2.1
    cases f with
    | next => obtain ⟨σ7, H7, I7, n7⟩ := q7; exact again I7 n7
    | cont => obtain ⟨σ7, H7, I7, n7⟩ := q7; exact again I7 n7
    | brk => obtain ⟨σ7, H7, I7, q7⟩ := q7; exact ⟨σ7, H7, I7.unpinned, q7⟩
    | ret v => obtain ⟨x7, σ7, H7, I7, r7, q7⟩ := q7; exact ⟨x7, σ7, H7, I7.unpinned, r7, q7⟩
end

/-! ### the forms one uses -/
/-- over a list that the body leaves as it is -/
theorem for_list {K : PySem.W.Frag} {a : Addr} {xs : List V} {g : TG} {tb : TS} {D : Ends} {σ : St} {H : Hp} (Pv : Nat → St → Hp → Prop) (h0 : Pv 0 σ H) (hl : ∀ i σ H, i ≤ xs.length → Pv i σ H → SqL K H a xs)
    (hs : ∀ i x σ H, xs[i]? = some x → Pv i σ H → g x σ H fun σ2 H2 => tb { D with nx := Pv (i + 1), ct := Pv (i + 1), bk := D.nx } σ2 H2) (hd : ∀ σ H, Pv xs.length σ H → D.nx σ H) :
    ∃ W : Nat → Nat → St → Hp → Prop, (∃ m, W 0 m σ H) ∧ ∀ i m σ H, W i m σ H →
      ((Itl K a).stop i H ∧ D.nx σ H) ∨ ((Itl K a).go i H ∧ ∃ N : St → Hp → Prop, (∀ σ' H', N σ' H' → ∃ m', m' < m ∧ W (i + 1) m' σ' H') ∧ ∀ x H', (Itl K a).yld i H x H' → g x σ H' fun σ2 H2 => tb { D with nx := N, ct := N, bk := D.nx } σ2 H2) := by
  refine ⟨fun i m σ H => m = xs.length - i ∧ i ≤ xs.length ∧ Pv i σ H, ⟨xs.length, by simp, Nat.zero_le _, h0⟩, ?_⟩
  rintro i m σ H ⟨rfl, hi, p⟩
  have q := hl i σ H hi p
  by_cases hlt : i < xs.length
  · refine .inr ⟨⟨xs, xs[i], q, by simp [hlt]⟩, Pv (i + 1), fun σ' H' p' => ⟨xs.length - (i + 1), by lia, rfl, hlt, p'⟩, fun x H' y => ?_⟩
    obtain ⟨e, y⟩ := y
    subst e
    exact hs i x σ _ (y xs q) p
  · have e : i = xs.length := by lia
    subst e
    exact .inl ⟨⟨xs, q, Nat.le_refl _⟩, hd σ H p⟩
theorem for_tup {K : PySem.W.Frag} {a : Addr} {xs : List V} {g : TG} {tb : TS} {D : Ends} {σ : St} {H : Hp} (Pv : Nat → St → Hp → Prop) (h0 : Pv 0 σ H) (hl : ∀ i σ H, i ≤ xs.length → Pv i σ H → SqT K H a xs)
    (hs : ∀ i x σ H, xs[i]? = some x → Pv i σ H → g x σ H fun σ2 H2 => tb { D with nx := Pv (i + 1), ct := Pv (i + 1), bk := D.nx } σ2 H2) (hd : ∀ σ H, Pv xs.length σ H → D.nx σ H) :
    ∃ W : Nat → Nat → St → Hp → Prop, (∃ m, W 0 m σ H) ∧ ∀ i m σ H, W i m σ H →
      ((Itt K a).stop i H ∧ D.nx σ H) ∨ ((Itt K a).go i H ∧ ∃ N : St → Hp → Prop, (∀ σ' H', N σ' H' → ∃ m', m' < m ∧ W (i + 1) m' σ' H') ∧ ∀ x H', (Itt K a).yld i H x H' → g x σ H' fun σ2 H2 => tb { D with nx := N, ct := N, bk := D.nx } σ2 H2) := by
  refine ⟨fun i m σ H => m = xs.length - i ∧ i ≤ xs.length ∧ Pv i σ H, ⟨xs.length, by simp, Nat.zero_le _, h0⟩, ?_⟩
  rintro i m σ H ⟨rfl, hi, p⟩
  have q := hl i σ H hi p
  by_cases hlt : i < xs.length
  · refine .inr ⟨⟨xs, xs[i], q, by simp [hlt]⟩, Pv (i + 1), fun σ' H' p' => ⟨xs.length - (i + 1), by lia, rfl, hlt, p'⟩, fun x H' y => ?_⟩
    obtain ⟨e, y⟩ := y
    subst e
    exact hs i x σ _ (y xs q) p
  · have e : i = xs.length := by lia
    subst e
    exact .inl ⟨⟨xs, q, Nat.le_refl _⟩, hd σ H p⟩
theorem for_range {lo : Int} {n : Nat} {g : TG} {tb : TS} {D : Ends} {σ : St} {H : Hp} (Pv : Nat → St → Hp → Prop) (h0 : Pv 0 σ H)
    (hs : ∀ i σ H, i < n → Pv i σ H → g (.int (lo + i)) σ H fun σ2 H2 => tb { D with nx := Pv (i + 1), ct := Pv (i + 1), bk := D.nx } σ2 H2) (hd : ∀ σ H, Pv n σ H → D.nx σ H) :
    ∃ W : Nat → Nat → St → Hp → Prop, (∃ m, W 0 m σ H) ∧ ∀ i m σ H, W i m σ H →
      ((Itr lo n).stop i H ∧ D.nx σ H) ∨ ((Itr lo n).go i H ∧ ∃ N : St → Hp → Prop, (∀ σ' H', N σ' H' → ∃ m', m' < m ∧ W (i + 1) m' σ' H') ∧ ∀ x H', (Itr lo n).yld i H x H' → g x σ H' fun σ2 H2 => tb { D with nx := N, ct := N, bk := D.nx } σ2 H2) := by
  refine ⟨fun i m σ H => m = n - i ∧ i ≤ n ∧ Pv i σ H, ⟨n, by simp, Nat.zero_le _, h0⟩, ?_⟩
  rintro i m σ H ⟨rfl, hi, p⟩
  by_cases hlt : i < n
  · refine .inr ⟨hlt, Pv (i + 1), fun σ' H' p' => ⟨n - (i + 1), by lia, rfl, hlt, p'⟩, fun x H' y => ?_⟩
    obtain ⟨e, y⟩ := y
    subst e y
    exact hs i σ _ hlt p
  · have e : i = n := by lia
    subst e
    exact .inl ⟨Nat.le_refl _, hd σ H p⟩
/-- while, by a word and a measure of the state -/
theorem while_by {c : TT} {tb : TS} {D : Ends} {σ : St} {H : Hp} (Pv : St → Hp → Prop) (μ : St → Hp → Nat) (h0 : Pv σ H)
    (hs : ∀ σ H, Pv σ H → c σ H fun b H1 => if b = true then tb { D with nx := fun σ' H' => Pv σ' H' ∧ μ σ' H' < μ σ H, ct := fun σ' H' => Pv σ' H' ∧ μ σ' H' < μ σ H, bk := D.nx } σ H1 else D.nx σ H1)
    (mono : ∀ σ H Q Q', (∀ b H1, Q b H1 → Q' b H1) → c σ H Q → c σ H Q') : tWhile c tb D σ H := by
  refine ⟨fun m σ H => m = μ σ H ∧ Pv σ H, ⟨_, rfl, h0⟩, ?_⟩
  rintro m σ H ⟨rfl, p⟩
  refine mono σ H _ _ (fun b H1 q => ?_) (hs σ H p)
  cases b with
  | true => exact ⟨_, fun σ' H' ⟨p', l⟩ => ⟨_, l, rfl, p'⟩, q⟩
  | false => exact q
end L2

namespace L2
open PySem PySem.Spec PyProof.Rows

abbrev R2 := V → V → Hp → VK → Prop
/-- a two-place operation on values: f is binaryOp op, inplaceOp op or compareOp op -/
def OpR (X : Cx) (f : Value → Value → Sem Value) (r : R2) : Prop :=
  ∀ (pins : List (Addr × Obj)) (s : Shared) (σ : St) (H : Hp) (x y : V) (v u : Value) (Q : VK), Inv X pins σ H s → RelV x v → RelV y u → r x y H Q →
    wpAny (model X.prog X.w) X.A (f v u) (EP X pins σ Q) X.xe s
/-- a one-place operation -/
def UnR (X : Cx) (f : Value → Sem Value) (r : V → Hp → VK → Prop) : Prop :=
  ∀ (pins : List (Addr × Obj)) (s : Shared) (σ : St) (H : Hp) (x : V) (v : Value) (Q : VK), Inv X pins σ H s → RelV x v → r x H Q →
    wpAny (model X.prog X.w) X.A (f v) (EP X pins σ Q) X.xe s
/-- a call of a value that is known (a builtin, a type) with values -/
def CallR (X : Cx) (f : Value) (r : List V → Hp → VK → Prop) : Prop :=
  ∀ (pins : List (Addr × Obj)) (s : Shared) (σ : St) (H : Hp) (xs : List V) (us : List Value) (Q : VK), Inv X pins σ H s → Vals xs us → r xs H Q →
    wpAny (model X.prog X.w) X.A (call f us) (EP X pins σ Q) X.xe s
def tOp (r : R2) (ta tb : TE) : TE := fun σ H Q => ta σ H fun x H1 => tb σ H1 fun y H2 => r x y H2 Q
def tUn (r : V → Hp → VK → Prop) (ta : TE) : TE := fun σ H Q => ta σ H fun x H1 => r x H1 Q
/-- ints in, under C, and a value out -/
inductive rI (C : Int → Int → Prop) (g : Int → Int → V) (x : V) (y : V) (H : Hp) (Q : VK) : Prop
  | mk (i : _) (j : _) (h1 : x = .int i) (h2 : y = .int j) (h3 : C i j) (h4 : Q (g i j) H) : rI C g x y H Q
inductive rI0 (g : Int → Int → V) (x : V) (y : V) (H : Hp) (Q : VK) : Prop
  | mk (i : _) (j : _) (h1 : x = .int i) (h2 : y = .int j) (h3 : Q (g i j) H) : rI0 g x y H Q
inductive rU (g : Int → V) (x : V) (H : Hp) (Q : VK) : Prop
  | mk (i : _) (h1 : x = .int i) (h2 : Q (g i) H) : rU g x H Q

section
variable {X : Cx} {a b c : Expr} {ta tb tc : TE} {pos : Pos}

theorem binT (ha : PE X a ta) (hb : PE X b tb) {pins : List (Addr × Obj)} {s : Shared} {σ : St} {H : Hp} {R : V → V → Hp → Prop} (I : Inv X pins σ H s)
    (h : ta σ H fun x H1 => tb σ H1 fun y H2 => R x y H2) {Q : Value → Shared → Prop} {f : Value → Value → Sem Value}
    (hf : ∀ v u s2 x y H2, Inv X pins σ H2 s2 → RelV x v → RelV y u → R x y H2 → wpAny (model X.prog X.w) X.A (f v u) Q X.xe s2) :
    wpAny (model X.prog X.w) X.A (eval a X.env) (fun v s₁ => wpAny (model X.prog X.w) X.A (eval b X.env) (fun u s₂ => wpAny (model X.prog X.w) X.A (f v u) Q X.xe s₂) X.xe s₁) X.xe s := by
  refine thn (ha pins s σ H _ I h) fun v s1 ⟨x, H1, I1, r1, q1⟩ => ?_
  refine thn (hb pins s1 σ H1 _ I1 q1) fun u s2 ⟨y, H2, I2, r2, q2⟩ => ?_
  exact hf v u s2 x y H2 I2 r1 r2 q2

theorem pe_op {op : Operator} {r : R2} (ho : OpR X (binaryOp op) r) (ha : PE X a ta) (hb : PE X b tb) : PE X (.BinOp a op b pos) (tOp r ta tb) := by
  intro pins s σ H Q I h
  exact wpAny_BinOp (binT ha hb I h fun v u s2 x y H2 I2 rx ry q => ho pins s2 σ H2 x y v u Q I2 rx ry q)
theorem pe_un {op : UnaryOp} {r : V → Hp → VK → Prop} (ho : UnR X (unaryOp op) r) (ha : PE X a ta) : PE X (.UnaryOp op a pos) (tUn r ta) := by
  intro pins s σ H Q I h
  exact UnaryOp_ (thn (ha pins s σ H _ I h) fun v s1 ⟨x, H1, I1, r1, q1⟩ => ho pins s1 σ H1 x v Q I1 r1 q1)
/-! ### ints -/
theorem opI {f : Value → Value → Sem Value} {C : Int → Int → Prop} {g : Int → Int → Int}
    (rule : ∀ (i j : Int) (t u : Tok) (s : Shared) (Q : Value → Shared → Prop) (E : Value → Shared → Prop), C i j → Q (.int (g i j) s.toks) { s with toks := s.toks + 1 } → wpAny (model X.prog X.w) X.A (f (.int i t) (.int j u)) Q E s) :
    OpR X f (rI C fun i j => .int (g i j)) := by
  intro pins s σ H x y v u Q I rx ry h
  obtain ⟨i, j, rfl, rfl, hc, q⟩ := h
  obtain ⟨t, rfl⟩ := rx
  obtain ⟨t', rfl⟩ := ry
  exact rule i j t t' s _ _ hc ⟨.int (g i j), H, I.tok _, ⟨_, rfl⟩, q⟩
theorem opI0 {f : Value → Value → Sem Value} {g : Int → Int → Int}
    (rule : ∀ (i j : Int) (t u : Tok) (s : Shared) (Q : Value → Shared → Prop) (E : Value → Shared → Prop), Q (.int (g i j) s.toks) { s with toks := s.toks + 1 } → wpAny (model X.prog X.w) X.A (f (.int i t) (.int j u)) Q E s) :
    OpR X f (rI0 fun i j => .int (g i j)) := by
  intro pins s σ H x y v u Q I rx ry h
  obtain ⟨i, j, rfl, rfl, q⟩ := h
  obtain ⟨t, rfl⟩ := rx
  obtain ⟨t', rfl⟩ := ry
  exact rule i j t t' s _ _ ⟨.int (g i j), H, I.tok _, ⟨_, rfl⟩, q⟩
theorem opB0 {f : Value → Value → Sem Value} {g : Int → Int → Bool}
    (rule : ∀ (i j : Int) (t u : Tok) (s : Shared) (Q : Value → Shared → Prop) (E : Value → Shared → Prop), Q (.bool (g i j)) s → wpAny (model X.prog X.w) X.A (f (.int i t) (.int j u)) Q E s) :
    OpR X f (rI0 fun i j => .bl (g i j)) := by
  intro pins s σ H x y v u Q I rx ry h
  obtain ⟨i, j, rfl, rfl, q⟩ := h
  obtain ⟨t, rfl⟩ := rx
  obtain ⟨t', rfl⟩ := ry
  exact rule i j t t' s _ _ ⟨.bl (g i j), H, I, rfl, q⟩

def CPow (i j : Int) : Prop := 0 ≤ j ∧ j ≤ 1000000 ∧ i.natAbs < 2 ^ 64
theorem op_add : OpR X (binaryOp .Add) (rI0 fun i j => .int (i + j)) := opI0 fun _ _ _ _ _ _ _ q => add_int q
theorem op_sub : OpR X (binaryOp .Sub) (rI0 fun i j => .int (i - j)) := opI0 fun _ _ _ _ _ _ _ q => sub_int q
/-- % by a positive divisor of any size -/
theorem op_mod : OpR X (binaryOp .Mod) (rI (fun _ j => 0 < j) fun i j => .int (i % j)) := opI fun i j _ _ _ _ _ hc q => by
  have h1 : (0 : Int) < j := hc
  exact mod_int' (by lia) (by rw [Int.fmod_eq_emod_of_nonneg i (by lia)]; exact q)
theorem op_pow : OpR X (binaryOp .Pow) (rI CPow fun i j => .int (i ^ j.toNat)) := opI fun _ _ _ _ _ _ _ hc q => pow_int_small hc.1 hc.2.1 hc.2.2 q
theorem unI {f : Value → Sem Value} {g : Int → Int}
    (rule : ∀ (i : Int) (t : Tok) (s : Shared) (Q : Value → Shared → Prop) (E : Value → Shared → Prop), Q (.int (g i) s.toks) { s with toks := s.toks + 1 } → wpAny (model X.prog X.w) X.A (f (.int i t)) Q E s) :
    UnR X f (rU fun i => .int (g i)) := by
  intro pins s σ H x v Q I rx h
  obtain ⟨i, rfl, q⟩ := h
  obtain ⟨t, rfl⟩ := rx
  exact rule i t s _ _ ⟨.int (g i), H, I.tok _, ⟨_, rfl⟩, q⟩
theorem un_neg : UnR X (unaryOp .USub) (rU fun i => .int (-i)) := unI fun _ _ _ _ _ q => neg_int q
/-! ### bools among ints: n += (a < b) -/
end

/-! ### comparisons -/
/-- the scalars that == tells apart as data does -/
def scal : V → V → Bool
  | .non, .non => true | .non, .int _ => true | .int _, .non => true | .non, .bl _ => true | .bl _, .non => true | .non, .str _ => true | .str _, .non => true
  | .int _, .int _ => true | .bl _, .bl _ => true | .str _, .str _ => true | .byt _, .byt _ => true
  | .int _, .str _ => true | .str _, .int _ => true | .bl _, .str _ => true | .str _, .bl _ => true
  | _, _ => false
def rEq : R2 := fun x y H Q => scal x y = true ∧ Q (.bl (decide (x = y))) H
def rNe : R2 := fun x y H Q => scal x y = true ∧ Q (.bl (!decide (x = y))) H

theorem dec_int {i j : Int} : decide (V.int i = V.int j) = (i == j) := by
  rw [Bool.eq_iff_iff]
  simp
theorem dec_bl {i j : Bool} : decide (V.bl i = V.bl j) = (i == j) := by
  rw [Bool.eq_iff_iff]
  simp
theorem dec_str {i j : Str} : decide (V.str i = V.str j) = (i == j) := by
  rw [Bool.eq_iff_iff]
  simp
theorem dec_byt {i j : Array UInt8} : decide (V.byt i = V.byt j) = (i.toList == j.toList) := by
  rw [Bool.eq_iff_iff]
  cases i
  cases j
  simp

section
variable {X : Cx} {a b c : Expr} {ta tb tc : TE} {pos : Pos}
theorem fin_bl {pins : List (Addr × Obj)} {σ : St} {H : Hp} {s : Shared} {Q : VK} {k k' : Bool} (I : Inv X pins σ H s) (q : Q (.bl k) H) (e : k = k') : EP X pins σ Q (.bool k') s := by
  subst e
  exact ⟨.bl k, H, I, rfl, q⟩
theorem op_eq : OpR X (compareOp .Eq) rEq := by
  intro pins s σ H x y v u Q I rx ry h
  obtain ⟨hs, q⟩ := h
  cases x with
  | non =>
    cases rx
    cases y with
    | non => cases ry; exact PySem.EqNone.eq_none_none (fin_bl I q (by simp))
    | bl j => cases ry; exact PySem.EqNone.eq_none_bool (fin_bl I q (by simp))
    | int j => obtain ⟨t', rfl⟩ := ry; exact PySem.EqNone.eq_none_int (fin_bl I q (by simp))
    | str j => obtain ⟨t', rfl⟩ := ry; exact PySem.EqNone.eq_none_str (fin_bl I q (by simp))
    | _ => exact absurd (show false = true from hs) Bool.false_ne_true
  | bl i =>
    cases rx
    cases y with
    | non => cases ry; exact PySem.EqNone.eq_bool_none (fin_bl I q (by simp))
    | bl j => cases ry; exact eq_bool (fin_bl I q dec_bl)
    | str j => obtain ⟨t', rfl⟩ := ry; exact PySem.EqMixed.eq_bool_str (fin_bl I q (by simp))
    | _ => exact absurd (show false = true from hs) Bool.false_ne_true
  | int i =>
    obtain ⟨t, rfl⟩ := rx
    cases y with
    | non => cases ry; exact PySem.EqNone.eq_int_none (fin_bl I q (by simp))
    | int j => obtain ⟨t', rfl⟩ := ry; exact eq_int (fin_bl I q dec_int)
    | str j => obtain ⟨t', rfl⟩ := ry; exact PySem.EqMixed.eq_int_str (fin_bl I q (by simp))
    | _ => exact absurd (show false = true from hs) Bool.false_ne_true
  | str i =>
    obtain ⟨t, rfl⟩ := rx
    cases y with
    | non => cases ry; exact PySem.EqNone.eq_str_none (fin_bl I q (by simp))
    | bl j => cases ry; exact PySem.EqMixed.eq_str_bool (fin_bl I q (by simp))
    | int j => obtain ⟨t', rfl⟩ := ry; exact PySem.EqMixed.eq_str_int (fin_bl I q (by simp))
    | str j => obtain ⟨t', rfl⟩ := ry; exact eq_str (fin_bl I q dec_str)
    | _ => exact absurd (show false = true from hs) Bool.false_ne_true
  | byt i =>
    obtain ⟨t, rfl⟩ := rx
    cases y with
    | byt j => obtain ⟨t', rfl⟩ := ry; exact PySem.W.eq_bytes (fin_bl I q dec_byt)
    | _ => exact absurd (show false = true from hs) Bool.false_ne_true
  | _ => cases y <;> exact absurd (show false = true from hs) Bool.false_ne_true
theorem op_ne : OpR X (compareOp .NotEq) rNe := by
  intro pins s σ H x y v u Q I rx ry h
  obtain ⟨hs, q⟩ := h
  cases x with
  | non =>
    cases rx
    cases y with
    | non => cases ry; exact PySem.EqNone.ne_none_none (fin_bl I q (by simp))
    | bl j => cases ry; exact PySem.EqNone.ne_none_bool (fin_bl I q (by simp))
    | int j => obtain ⟨t', rfl⟩ := ry; exact PySem.EqNone.ne_none_int (fin_bl I q (by simp))
    | str j => obtain ⟨t', rfl⟩ := ry; exact PySem.EqNone.ne_none_str (fin_bl I q (by simp))
    | _ => exact absurd (show false = true from hs) Bool.false_ne_true
  | bl i =>
    cases rx
    cases y with
    | non => cases ry; exact PySem.EqNone.ne_bool_none (fin_bl I q (by simp))
    | bl j => cases ry; exact ne_bool (fin_bl I q (congrArg not dec_bl))
    | str j => obtain ⟨t', rfl⟩ := ry; exact PySem.EqMixed.ne_bool_str (fin_bl I q (by simp))
    | _ => exact absurd (show false = true from hs) Bool.false_ne_true
  | int i =>
    obtain ⟨t, rfl⟩ := rx
    cases y with
    | non => cases ry; exact PySem.EqNone.ne_int_none (fin_bl I q (by simp))
    | int j => obtain ⟨t', rfl⟩ := ry; exact ne_int (fin_bl I q (congrArg not dec_int))
    | str j => obtain ⟨t', rfl⟩ := ry; exact PySem.EqMixed.ne_int_str (fin_bl I q (by simp))
    | _ => exact absurd (show false = true from hs) Bool.false_ne_true
  | str i =>
    obtain ⟨t, rfl⟩ := rx
    cases y with
    | non => cases ry; exact PySem.EqNone.ne_str_none (fin_bl I q (by simp))
    | bl j => cases ry; exact PySem.EqMixed.ne_str_bool (fin_bl I q (by simp))
    | int j => obtain ⟨t', rfl⟩ := ry; exact PySem.EqMixed.ne_str_int (fin_bl I q (by simp))
    | str j => obtain ⟨t', rfl⟩ := ry; exact ne_str (fin_bl I q (congrArg not dec_str))
    | _ => exact absurd (show false = true from hs) Bool.false_ne_true
  | byt i =>
    obtain ⟨t, rfl⟩ := rx
    cases y with
    | byt j => obtain ⟨t', rfl⟩ := ry; exact PySem.W.ne_bytes (fin_bl I q (congrArg not dec_byt))
    | _ => exact absurd (show false = true from hs) Bool.false_ne_true
  | _ => cases y <;> exact absurd (show false = true from hs) Bool.false_ne_true

theorem op_lt : OpR X (compareOp .Lt) (rI0 fun i j => .bl (decide (i < j))) := opB0 fun _ _ _ _ _ _ _ q => lt_int q
theorem op_gt : OpR X (compareOp .Gt) (rI0 fun i j => .bl (decide (j < i))) := opB0 fun _ _ _ _ _ _ _ q => gt_int q
theorem op_ge : OpR X (compareOp .GtE) (rI0 fun i j => .bl (decide (j ≤ i))) := opB0 fun _ _ _ _ _ _ _ q => ge_int q
theorem nomark (b : Expr) {op : CmpOp} (h : op ≠ .In := by decide) (h2 : op ≠ .NotIn := by decide) : behindInMarks op b = false := by
  have e1 : (op == CmpOp.In) = false := by cases op <;> first | rfl | exact absurd rfl h
  have e2 : (op == CmpOp.NotIn) = false := by cases op <;> first | rfl | exact absurd rfl h2
  cases b <;> simp [behindInMarks, e1, e2]
/-- a comparison as a value; hm: nomark b, or (for in, not in) by with_unfolding_all rfl -/
theorem pe_cmpR {op : CmpOp} {r : R2} (ho : OpR X (compareOp op) r) (ha : PE X a ta) (hb : PE X b tb) (hm : behindInMarks op b = false) : PE X (.Compare a [op] [b] pos) (tOp r ta tb) := by
  intro pins s σ H Q I h
  exact wpAny_Compare1 (binT ha hb I h fun v u s2 x y H2 I2 rx ry q => ho pins s2 σ H2 x y v u Q I2 rx ry q) hm
/-- a reading of a value as a test -/
def tTest (t : TE) : TT := fun σ H Q => t σ H fun x H' => ∃ k, x = .bl k ∧ Q k H'
theorem pt_cmpR {op : CmpOp} {r : R2} (ho : OpR X (compareOp op) r) (ha : PE X a ta) (hb : PE X b tb) (hm : behindInMarks op b = false) : PT X (.Compare a [op] [b] pos) (tTest (tOp r ta tb)) := by
  intro pins s σ H Q I h
  refine wpAny_isTrue_Compare1 (thn (ha pins s σ H _ I h) fun v s1 ⟨x, H1, I1, r1, q1⟩ => thn (hb pins s1 σ H1 _ I1 q1) fun u s2 ⟨y, H2, I2, r2, q2⟩ =>
    thn (ho pins s2 σ H2 x y v u _ I2 r1 r2 q2) fun c s3 ⟨z, H3, I3, r3, k, e, q3⟩ => ?_) hm
  subst e
  cases r3
  exact wpAny_truthy_bool ⟨H3, I3, q3⟩
/-! ### truth -/
theorem line63 : (sizeLine : Nat) < 2 ^ 63 := by rw [sizeLine_eq]; decide
/-! ### strs and bytes -/
/-! ### scalar builtins, by CallR -/
theorem vals1 {x : V} {us : List Value} (r : Vals [x] us) : ∃ u, us = [u] ∧ RelV x u := by
  cases r with
  | cons r1 r2 => cases r2; exact ⟨_, rfl, r1⟩
theorem vals2 {x y : V} {us : List Value} (r : Vals [x, y] us) : ∃ u w', us = [u, w'] ∧ RelV x u ∧ RelV y w' := by
  cases r with
  | cons r1 r2 =>
    cases r2 with
    | cons r3 r4 => cases r4; exact ⟨_, _, rfl, r1, r3⟩
theorem call_abs : CallR X (.builtin "abs") (fun xs H Q => ∃ i, xs = [.int i] ∧ Q (.int (if i < 0 then -i else i)) H) := by
  intro pins s σ H xs us Q I r h
  obtain ⟨i, rfl, q⟩ := h
  obtain ⟨u, rfl, t, rfl⟩ := vals1 r
  exact call_abs_int fun u tk => ⟨.int (if i < 0 then -i else i), H, I.tok _, ⟨_, rfl⟩, q⟩
end
end L2

namespace L2
open PySem PySem.Spec PyProof.Rows

/-! ### an instance, its attributes a map -/
structure ObjM (h : Heap) (x dx C : Addr) (mA : Str → Option Value) : Prop where
  obj : h.get? x = some (PySem.W.instObj C dx)
  ns : h.Ns1 dx mA
  ne : dx ≠ x

theorem lookIn_ns {h : Heap} {dx : Addr} {mA : Str → Option Value} (n : h.Ns1 dx mA) : ∃ od, h.get? dx = some od ∧ ∀ name, PySem.W.lookIn name od = some (mA name) := by
  obtain ⟨o, es, ep, ho, hd, hk, _, hm⟩ := n
  refine ⟨o, ho, fun name => ?_⟩
  have e := hm name
  unfold nsFind findBy at e
  rw [← Array.find?_toList] at e
  unfold PySem.W.lookIn
  rw [hd]
  dsimp only
  split
  · rename_i y q
    rw [q] at e
    exact congrArg some e
  · rename_i q
    rw [q] at e
    have a : es.toList.any (·.refKey) = false := by
      rw [List.any_eq_false]
      intro y hy
      obtain ⟨z, t, hkey⟩ := hk y (Array.mem_toList_iff.mp hy)
      simp [DictEntry.refKey, hkey]
    have a' : ¬ es.toList.any (·.refKey) = true := by rw [a]; exact Bool.false_ne_true
    rw [if_neg a']
    exact congrArg some e

theorem ObjM.look {h : Heap} {x dx C : Addr} {mA : Str → Option Value} (I : ObjM h x dx C mA) : ∃ od, PySem.W.InstAt h x (PySem.W.instObj C dx) C (some od) ∧ ∀ name, PySem.W.lookIn name od = some (mA name) :=
  let ⟨od, ho, hl⟩ := lookIn_ns I.ns
  ⟨od, ⟨I.obj, rfl, rfl, ho⟩, hl⟩

section
variable {prog : Program} {w : World} {A : Around} {E : Value → Shared → Prop} {s : Shared} {K : PySem.W.Frag} {x dx C f : Addr} {mA : Str → Option Value} {name : Str} {v : Value}

end

/-! ### the attributes as a list of pairs -/
theorem RelO.some_of {v : V} {o : Option Value} (r : RelO (some v) o) : ∃ u, o = some u ∧ RelV v u := by
  cases o with
  | none => exact (show False from r).elim
  | some u => exact ⟨u, rfl, r⟩
section
variable {P : Program} {w : World} {H H' : Hp} {h h' : Heap} {a C dx : Addr} {fs fs' : List (Str × V)}
theorem ins_get (hok : HOk P w H h) (e : H a = some (.ins C dx fs)) : ∃ mA, ObjM h a dx C mA ∧ (∀ f, RelO (fs.lookup f) (mA f)) ∧ PySem.Within mA (fs.map (·.1)) ∧ fs.length ≤ 1000 ∧ H dx = some (.own a) := by
  obtain ⟨d, z, ne, ob, mA, n, r, q⟩ := (show ObjOk P w H h a (.ins C dx fs) from hok a _ e)
  exact ⟨mA, ⟨ob, n, ne⟩, r, q, z, d⟩
end

/-! ### what of the text a class must have -/
structure Cls (K : PySem.W.Frag) (C : Addr) : Prop where
  pg : PySem.W.plainGet K C Str.empty = true
  hd : PySem.W.hasDictIn K C = true
  po : PySem.W.plainOver K C = true
  sa : PySem.W.findIn K (.ref C) "__setattr__" = some (some (.builtin "object.__setattr__"))
theorem Cls.get {K : PySem.W.Frag} {C : Addr} (c : Cls K C) (f : Str) : PySem.W.plainGet K C f = true := c.pg
/-- a constant of the class -/
structure Con (K : PySem.W.Frag) (C : Addr) (f : Str) (v : V) (u : Value) : Prop where
  at_ : PySem.W.findIn K (.ref C) f = some (some u)
  rel : RelV v u
  get : PySem.W.specialIn K u "__get__" = some none
  cp : PySem.W.copiedNames.contains f = false
/-- a method: a plain def of the class or of one above it -/
structure Meth (K : PySem.W.Frag) (C : Addr) (m : Str) (f : Addr) : Prop where
  at_ : PySem.W.findIn K (.ref C) m = some (some (.ref f))
  fn : PySem.W.isFn K (.ref f) = true
  kp : PySem.W.keepIn K (.ref f) = true

section
variable {X : Cx} {pins : List (Addr × Obj)} {σ : St} {H : Hp} {s : Shared} {a C dx : Addr} {fs : List (Str × V)} {f : Str} {v : V} {A : Around} {E : Value → Shared → Prop}

end

/-! ### readings and rules -/
section
variable {X : Cx} {o e value : Expr} {f : Str} {pos pos' tpos : Pos} {ta tv : TE}
end

/-! ### isinstance -/
section
variable {X : Cx} {pins : List (Addr × Obj)} {σ : St} {H : Hp} {s : Shared} {A : Around} {E : Value → Shared → Prop} {Q : Value → Shared → Prop} {c : Value} {b : Bool}
/-- the type of a value, as the fragment's deciders take it; for an instance its class -/
inductive TyOf (K : PySem.W.Frag) (H : Hp) : V → Value → Prop where
  | non : TyOf K H .non (.type "NoneType")
  | bl (x : Bool) : TyOf K H (.bl x) (.type "bool")
  | int (i : Int) : TyOf K H (.int i) (.type "int")
  | str (x : Str) : TyOf K H (.str x) (.type "str")
  | flt (x : UInt64) : TyOf K H (.flt x) (.type "float")
  | lst {a : Addr} {xs : List V} (e : H a = some (.lst xs)) : TyOf K H (.ref a) (.type "list")
  | frz {a : Addr} {o : Obj} {xs : List V} (e : H a = some (.frz o (.lst xs))) : TyOf K H (.ref a) (.type "list")
  | tup {a : Addr} {xs : List V} (e : H a = some (.tup xs)) : TyOf K H (.ref a) (.type "tuple")
  | dK {a : Addr} {kvs : List (Key × V)} (e : H a = some (.dK kvs)) : TyOf K H (.ref a) (.type "dict")
  | dT {a : Addr} {kvs : List (List Key × V)} (e : H a = some (.dT kvs)) : TyOf K H (.ref a) (.type "dict")
  | ins {a C dx : Addr} {fs : List (Str × V)} (e : H a = some (.ins C dx fs)) (cl : Cls K C) (ha : PySem.W.findIn K (.ref C) "__class__" = some (some (.builtin "object.__class__")))
      (hn : PySem.W.specialIn K (.builtin "object.__class__") "__get__" = some (some (.builtin "getset_descriptor.__get__"))) (htk : PySem.W.takesIn K (.builtin "object.__class__") = some true)
      (hm : PySem.W.mroIn K C (.type "object") = some true) : TyOf K H (.ref a) (.ref C)
/-- isinstance(x, c) for one class c, a built-in or an own one: kitOne's answer -/
theorem isinst_ok {x : V} {u t : Value} (I : Inv X pins σ H s) (rx : RelV x u) (ty : TyOf X.K H x t) (e : PySem.W.kitOne X.K t c = some b) (h : ∀ tk, Q (.bool b) { s with toks := tk }) :
    wpAny (model X.prog X.w) A (call (.builtin "isinstance") [u, c]) Q E s := by
  cases ty with
  | non => cases (show u = Value.none from rx); exact PySem.W.kia_one PySem.W.kitx_none I.kIn True.intro e (fun z => nomatch z) h
  | bl y => cases (show u = Value.bool y from rx); exact PySem.W.kia_one PySem.W.kitx_bool I.kIn True.intro e (fun z => nomatch z) h
  | int i => obtain ⟨t, q⟩ := (show ∃ t, u = Value.int i t from rx); cases q; exact PySem.W.kia_one PySem.W.kitx_int I.kIn True.intro e (fun z => nomatch z) h
  | str y => obtain ⟨t, q⟩ := (show ∃ t, u = Value.str y t from rx); cases q; exact PySem.W.kia_one PySem.W.kitx_str I.kIn True.intro e (fun z => nomatch z) h
  | flt y => obtain ⟨t, q⟩ := (show ∃ t, u = Value.float y t from rx); cases q; exact PySem.W.kia_one PySem.W.kitx_float I.kIn True.intro e (fun z => nomatch z) h
  | @lst a xs ea =>
    cases (show u = Value.ref a from rx)
    obtain ⟨_, _, n, _, h1⟩ := (show ObjOk X.prog X.w H s.heap a (.lst xs) from I.hok a _ ea)
    exact PySem.W.kia_one PySem.W.kitx_list I.kIn ⟨_, h1, rfl⟩ e (fun z => nomatch z) h
  | @frz a ob xs ea =>
    cases (show u = Value.ref a from rx)
    obtain ⟨_, _, _, n, _, h1⟩ := (show ObjOk X.prog X.w H s.heap a (.frz ob (.lst xs)) from I.hok a _ ea)
    exact PySem.W.kia_one PySem.W.kitx_list I.kIn ⟨_, h1, rfl⟩ e (fun z => nomatch z) h
  | @tup a xs ea =>
    cases (show u = Value.ref a from rx)
    obtain ⟨_, _, _, p⟩ := (show ObjOk X.prog X.w H s.heap a (.tup xs) from I.hok a _ ea)
    obtain ⟨o, h1, h2, _⟩ := p
    exact PySem.W.kia_one PySem.W.kitx_tuple I.kIn ⟨o, h1, h2⟩ e (fun z => nomatch z) h
  | @dK a kvs ea =>
    cases (show u = Value.ref a from rx)
    obtain ⟨_, _, vs, _, p⟩ := (show ObjOk X.prog X.w H s.heap a (.dK kvs) from I.hok a _ ea)
    obtain ⟨o, es, ep, h1, h2, _⟩ := p
    exact PySem.W.kia_one PySem.W.kitx_dict I.kIn ⟨o, h1, h2.1⟩ e (fun z => nomatch z) h
  | @dT a kvs ea =>
    cases (show u = Value.ref a from rx)
    obtain ⟨_, _, xs, _, o, es, ep, h1, h2, _⟩ := (show ObjOk X.prog X.w H s.heap a (.dT kvs) from I.hok a _ ea)
    exact PySem.W.kia_one PySem.W.kitx_dict I.kIn ⟨o, h1, h2.1⟩ e (fun z => nomatch z) h
  | @ins a C dx fs ea cl ha hn htk hm =>
    cases (show u = Value.ref a from rx)
    obtain ⟨mA, O, _⟩ := ins_get I.hok ea
    obtain ⟨od, J, _⟩ := O.look
    exact PySem.W.kia_one (PySem.W.kitx_own (cl.get _) cl.hd ha hn htk hm) I.kIn J e (fun z => nomatch z) h
end
end L2

namespace L2
open PySem PySem.Spec PyProof.Rows

/-! ### room -/
structure Room (k : Nat) (A : Around) : Prop where
  hd : A.handled = none
  dp : A.depth + 3 * k + 5 < recursionLimit
  un : A.units + 16 * k + 200 < cLine
theorem Room.mono {j k : Nat} {A : Around} (r : Room k A) (h : j ≤ k) : Room j A := ⟨r.hd, by have := r.dp; lia, by have := r.un; lia⟩
theorem Room.deeper {k : Nat} {A : Around} (r : Room (k + 1) A) (env : Env) : Room k (A.deeper env) :=
  ⟨r.hd, by have := r.dp; show A.depth + 1 + 3 * k + 5 < _; lia, by have := r.un; show A.units + 3 + 16 * k + 200 < _; lia⟩
theorem Room.depth {k : Nat} {A : Around} (r : Room k A) : A.depth < recursionLimit := by have := r.dp; lia
theorem Room.units {k : Nat} {A : Around} (r : Room k A) : A.units + 64 < cLine := by have := r.un; lia
/-! ### argument lists and displays -/
def tNil : TA := fun _ H Q => Q [] H
def tCons (ta : TE) (tr : TA) : TA := fun σ H Q => ta σ H fun x H1 => tr σ H1 fun xs H2 => Q (x :: xs) H2
section
variable {X : Cx} {e : Expr} {es : List Expr} {te : TE} {t : TA} {pos : Pos}
theorem pa_nil : PA X [] tNil := fun _ _ _ _ H Q I h => Calls.spliced_nil ⟨[], H, I, .nil, h⟩
theorem pa_cons (ha : PE X e te) (hr : PA X es t) (hs : starEach (e :: es) X.env = (false, eval e X.env) :: starEach es X.env := by rfl) : PA X (e :: es) (tCons te t) := by
  intro pos pins s σ H Q I h
  rw [hs]
  show wpAny _ _ (spliced ((false, eval e X.env) :: backTo pos (starEach es X.env))) _ _ s
  refine Calls.spliced_cons (thn (ha pins s σ H _ I h) fun u s1 ⟨x, H1, I1, r1, q1⟩ => ?_)
  exact thn (hr pos pins s1 σ H1 _ I1 q1) fun us s2 ⟨xs, H2, I2, r2, q2⟩ => ⟨x :: xs, H2, I2, .cons r1 r2, q2⟩

/-- a tuple, a list of written items -/
def tTup (t : TA) : TE := fun σ H Q => t σ H fun xs H1 => xs.length ≤ sizeLine ∧ ∀ p, H1 p = none → Q (.ref p) (upd H1 p (.tup xs))
def tLst (t : TA) : TE := fun σ H Q => t σ H fun xs H1 => xs.length ≤ sizeLine ∧ ∀ p, H1 p = none → Q (.ref p) (upd H1 p (.lst xs))
theorem pe_tup {x1} (h : PA X es t) : PE X (.Tuple es x1 pos) (tTup t) := by
  intro pins s σ H Q I hq
  refine wpAny_Tuple_spliced (thn (h pos pins s σ H _ I hq) fun us s1 ⟨xs, H1, I1, r, z, q⟩ => ⟨by rw [← r.length]; exact z, ?_⟩)
  have hf : H1 s1.heap.objs.size = none := I1.hok.fresh (Nat.le_refl _)
  refine ⟨.ref s1.heap.objs.size, upd H1 s1.heap.objs.size (.tup xs), I1.laid (t' := s1.toks) (fun b u e => Heap.get?_push_of_some _ e) (Nat.le_refl _) ?_, rfl, q _ hf⟩
  exact ⟨z, us, r, ⟨_, Heap.get?_push_size _ rfl, rfl, _, rfl⟩⟩
theorem pe_lst (h : PA X es t) : PE X (.List es pos) (tLst t) := by
  intro pins s σ H Q I hq
  refine wpAny_List_spliced (thn (h pos pins s σ H _ I hq) fun us s1 ⟨xs, H1, I1, r, z, q⟩ => ⟨by rw [← r.length]; exact z, ?_⟩)
  have hf : H1 s1.heap.objs.size = none := I1.hok.fresh (Nat.le_refl _)
  refine ⟨.ref s1.heap.objs.size, upd H1 s1.heap.objs.size (.lst xs), I1.laid (t' := s1.toks) (fun b u e => Heap.get?_push_of_some _ e) (Nat.le_refl _) ?_, rfl, q _ hf⟩
  exact ⟨z, us, 0, r, Heap.get?_push_size _ rfl⟩
end

/-! ### what a def promises -/
/-- a def's promise: the bound arguments in the parameters' order, the heap, the wanted end, the wanted exception -/
abbrev Sp := List V → Hp → VK → XK → Prop
/-- how an exception lies behind a call (file 08 gives it): the callers' frames, abstract heap and state ahead of the call, the wish, the exception, the state -/
abbrev CXT := List Env → Hp → Shared → XK → Value → Shared → Prop

/-- the state at a call -/
structure Env0 (P : Program) (w : World) (K : PySem.W.Frag) (mg : Str → Option Value) (base : Heap) (A : Around) (outer : List Env) (s : Shared) (H : Hp) : Prop where
  frames : A.frames = some outer
  mod : Mod K mg base
  bs : ∀ b o, base.get? b = some o → s.heap.get? b = some o ∧ H b = none
  bsz : base.objs.size ≤ s.heap.objs.size
  funs : s.heap.FunFrames base outer
  frf : ∀ b ∈ frs outer, H b = none
  hok : HOk P w H s.heap
  bare : AllBare s.gens
/-- a call's end -/
def CE (outer : List Env) (P : Program) (w : World) (H : Hp) (s : Shared) (Q : VK) (u : Value) (s' : Shared) : Prop :=
  ∃ v H', s'.os = s.os ∧ AllBare s'.gens ∧ Un (frs outer) [] H H' s.heap s'.heap ∧ HOk P w H' s'.heap ∧ RelV v u ∧ Q v H'
def CR (CX : CXT) (outer : List Env) (P : Program) (w : World) (H : Hp) (s : Shared) (Q : VK) (E : XK) (r : Result) (s' : Shared) : Prop :=
  match r with
  | .ok (.ret u) => CE outer P w H s Q u s'
  | .ok _ => False
  | .error e => CX outer H s E e s'
structure FnOk (P : Program) (w : World) (K : PySem.W.Frag) (mg : Str → Option Value) (base : Heap) (CX : CXT) (k : Nat) (f : Addr) (fd : FuncData) (ps : List Str) (sp : Sp) : Prop where
  len : ∀ vs H Q E, sp vs H Q E → vs.length = ps.length
  run : ∀ (A : Around) (outer : List Env) (s : Shared) (H : Hp) (args : Args) (us : List Value) (vs : List V) (Q : VK) (E : XK), Room k A → Env0 P w K mg base A outer s H → BindsTo s fd args (ps.zip us) → Vals vs us → sp vs H Q E →
    codeAny (model P w) A (.call (.ref f) args) (CR CX outer P w H s Q E) s
section
variable {X : Cx} {pins : List (Addr × Obj)} {σ : St} {H : Hp} {s s' : Shared}
/-- from a body: what a callee wants -/
theorem Inv.env0 (I : Inv X pins σ H s) : Env0 X.prog X.w X.K X.mg X.base X.A X.stack s H :=
  ⟨I.ok.frames, I.ok.mod, I.bs, Nat.le_trans I.ok.bsz I.sz, I.stack, I.stkFree, I.hok, I.bare⟩
/-- behind a call -/
theorem Inv.after {Q : VK} {u : Value} (I : Inv X pins σ H s) (h : CE X.stack X.prog X.w H s Q u s') : EP X pins σ Q u s' := by
  obtain ⟨v, H', os, bare, un, hok, r, q⟩ := h
  obtain ⟨hh, g, d, t, os'⟩ := s'
  obtain rfl : os' = s.os := os
  exact ⟨v, H', I.call (h' := hh) (g' := g) (d' := d) (t' := t) (ch := []) un hok bare (fun b z => absurd z (by simp)), r, q⟩
end

/-! ### calls -/
/-- f(..): the written arguments, then the defaults dvs; E: what is wanted of an exception -/
def tCall (sp : Sp) (dvs : List V) (E : XK) (t : TA) : TE := fun σ H Q => t σ H fun vs H1 => sp (vs ++ dvs) H1 Q E
/-- how the parameters are bound: us the positional arguments, kw the keywords' values by name, ds the defaults that fill up -/
def Binds (K : PySem.W.Frag) (fd : FuncData) (ps : List Str) (ds : List Value) : Prop :=
  ∀ (s : Shared) (us : List Value), K.In s.heap → (us ++ ds).length = ps.length → BindsTo s fd ⟨us, []⟩ (ps.zip (us ++ ds))
/-- every parameter is given -/
theorem Binds.all {K : PySem.W.Frag} {fd : FuncData} {ps : List Str} (h : ∀ us : List Value, us.length = ps.length → bindArgs fd ⟨us, []⟩ = pure (ps.zip us)) : Binds K fd ps [] := fun s us _ hl => by
  rw [List.append_nil] at hl ⊢
  exact .of_eq (h us hl)

/-- an exception of a callee reaches what this body wants of exceptions -/
def Passes (CX : CXT) (X : Cx) (E : XK) : Prop := ∀ (pins : List (Addr × Obj)) (σ : St) (H : Hp) (s : Shared) (e : Value) (s' : Shared), Inv X pins σ H s → CX X.stack H s E e s' → X.xe e s'

section
variable {X : Cx} {CX : CXT} {k : Nat} {f C : Addr} {fd : FuncData} {ps : List Str} {sp : Sp} {dvs : List V} {ds : List Value} {E : XK} {x m : Str} {p pos apos : Pos} {e o : Expr} {es : List Expr} {ta : TE} {t : TA}

/-- the callee runs -/
theorem run_fn {pins : List (Addr × Obj)} {σ : St} {H : Hp} {s : Shared} {Q : VK} {us : List Value} {vs : List V} (F : FnOk X.prog X.w X.K X.mg X.base CX k f fd ps sp) (hr : Room k X.A) (hb : Binds X.K fd ps ds) (hd : Vals dvs ds) (hx : Passes CX X E)
    (I : Inv X pins σ H s) (r : Vals vs us) (h : sp (vs ++ dvs) H Q E) : wpAny (model X.prog X.w) X.A (call (.ref f) us) (EP X pins σ Q) X.xe s := by
  have r2 : Vals (vs ++ dvs) (us ++ ds) := r.append hd
  have hl : (us ++ ds).length = ps.length := by rw [← r2.length]; exact F.len _ _ _ _ h
  refine wpAny_call (codeAny_mono (F.run X.A X.stack s H ⟨us, []⟩ (us ++ ds) (vs ++ dvs) Q E hr I.env0 (hb s us I.kIn hl) r2 h) fun r s' hq => ?_)
  cases r with
  | error e => exact hx pins σ H s e s' I hq
  | ok fl =>
    cases fl with
    | ret u => exact I.after hq
    | next => exact False.elim hq
    | brk => exact False.elim hq
    | cont => exact False.elim hq

theorem pe_call (F : FnOk X.prog X.w X.K X.mg X.base CX k f fd ps sp) (hr : Room k X.A) (hg : Gl X x) (hm : X.mg x = some (.ref f)) (hk : PySem.W.keepIn X.K (.ref f) = true) (hb : Binds X.K fd ps ds) (hd : Vals dvs ds) (hx : Passes CX X E)
    (ha : PA X (e :: es) t) (hdb : (x == ("__debug__" : Str)) = false := by decide) (he : starEach (e :: es) X.env = (false, eval e X.env) :: starEach es X.env := by rfl) (hpl : (backTo pos (starEach es X.env)).any (·.1) = false := by rfl) :
    PE X (.Call (.Name x p) (e :: es) [] pos) (tCall sp dvs E t) := by
  intro pins s σ H Q I h
  refine wpAny_Call_Name_kw (ld_glob I hg hm ?_ hdb)
  refine PySem.W.callWith_K (h₀ := X.base) I.ok.mod.kin hk (thn (ha pos pins s σ H _ I h) fun us s1 ⟨vs, H1, I1, r, q⟩ => ⟨I1.kIn, ?_⟩) he hpl
  exact run_fn F hr hb hd hx I1 r q
/-- what a class must have to be made -/
structure Mk (K : PySem.W.Frag) (C f : Addr) : Prop where
  makes : PySem.W.makesIn K C = true
  init : PySem.W.findIn K (.ref C) "__init__" = some (some (.ref f))
  fn : PySem.W.isFn K (.ref f) = true
  kp : PySem.W.keepIn K (.ref C) = true

end

/-! ### keywords -/
section
variable {X : Cx} {CX : CXT} {k : Nat} {f C : Addr} {fd : FuncData} {ps ks : List Str} {sp : Sp} {E : XK} {x m : Str} {p pos apos kpos : Pos} {e o : Expr} {es : List Expr} {kws : List Keyword} {te ta : TE} {t tk : TA} {nm : Option Str}
/-- how a call with keywords binds: g puts the positional values us and the keywords' values ws (names ks) in the parameters' order, defaults among them -/
structure KBinds (K : PySem.W.Frag) (fd : FuncData) (ps ks : List Str) (g : List Value → List Value → List Value) (gV : List V → List V → List V) : Prop where
  to : ∀ (s : Shared) (us ws : List Value), K.In s.heap → (g us ws).length = ps.length → BindsTo s fd ⟨us, ks.zip ws⟩ (ps.zip (g us ws))
  rel : ∀ {vs : List V} {us : List Value} {zs : List V} {ws : List Value}, Vals vs us → Vals zs ws → Vals (gV vs zs) (g us ws)
variable {g : List Value → List Value → List Value} {gV : List V → List V → List V}
end

/-! ### a def's body keeps its promise -/
/-- names: the parameters first -/
structure FnScope (N P : List Str) (sc : Scope) : Prop where
  kind : sc.kind = .function
  co : sc.isCoroutine = false
  gen : sc.isGenerator = false
  nd : N.Nodup
  pre : N.take P.length = P
  par : ∀ x ∈ P, sc.names.lookup x = some .local ∨ sc.names.lookup x = some .cell
  nofree : ∀ y ∈ sc.names, y.2 ≠ .free

theorem bindL_out {kindOf : Str → Option NameKind} {x : Str} : ∀ {binds : List (Str × Value)} {m : Str → Option Value}, (∀ v, (x, v) ∉ binds) → bindL kindOf binds m x = m x
  | [], _, _ => rfl
  | (n, v) :: r, m, h => by
    unfold bindL
    rw [bindL_out fun w hw => h w (List.mem_cons_of_mem _ hw)]
    split
    · have : x ≠ n := by rintro rfl; exact h v List.mem_cons_self
      simp [this]
    · rfl
theorem bindC_out {kindOf : Str → Option NameKind} {x : Str} : ∀ {binds : List (Str × Value)} {m : Str → Option Value}, (∀ v, (x, v) ∉ binds) → bindC kindOf binds m x = m x
  | [], _, _ => rfl
  | (n, v) :: r, m, h => by
    unfold bindC
    rw [bindC_out fun w hw => h w (List.mem_cons_of_mem _ hw)]
    split
    · rfl
    · have : x ≠ n := by rintro rfl; exact h v List.mem_cons_self
      simp [this]
theorem bindL_get {kindOf : Str → Option NameKind} {x : Str} {v : Value} : ∀ {P : List Str} {vs : List Value} {i : Nat} {m : Str → Option Value}, P.Nodup → P[i]? = some x → vs[i]? = some v → kindOf x = some .local →
    bindL kindOf (P.zip vs) m x = some v
  | [], _, _, _, _, h, _, _ => by simp at h
  | _ :: _, [], _, _, _, _, h, _ => by simp at h
  | p :: P, w :: vs, 0, m, nd, h1, h2, hk => by
    simp at h1 h2; subst h1; subst h2
    show bindL kindOf ((p, w) :: P.zip vs) m p = _
    unfold bindL
    rw [bindL_out fun v hv => (List.nodup_cons.mp nd).1 (List.of_mem_zip hv).1, if_pos hk]
    simp
  | p :: P, w :: vs, i + 1, m, nd, h1, h2, hk => by
    show bindL kindOf ((p, w) :: P.zip vs) m x = _
    unfold bindL
    exact bindL_get (i := i) (List.nodup_cons.mp nd).2 (by simpa using h1) (by simpa using h2) hk
theorem bindC_get {kindOf : Str → Option NameKind} {x : Str} {v : Value} : ∀ {P : List Str} {vs : List Value} {i : Nat} {m : Str → Option Value}, P.Nodup → P[i]? = some x → vs[i]? = some v → kindOf x ≠ some .local →
    bindC kindOf (P.zip vs) m x = some v
  | [], _, _, _, _, h, _, _ => by simp at h
  | _ :: _, [], _, _, _, _, h, _ => by simp at h
  | p :: P, w :: vs, 0, m, nd, h1, h2, hk => by
    simp at h1 h2; subst h1; subst h2
    show bindC kindOf ((p, w) :: P.zip vs) m p = _
    unfold bindC
    rw [bindC_out fun v hv => (List.nodup_cons.mp nd).1 (List.of_mem_zip hv).1, if_neg hk]
    simp
  | p :: P, w :: vs, i + 1, m, nd, h1, h2, hk => by
    show bindC kindOf ((p, w) :: P.zip vs) m x = _
    unfold bindC
    exact bindC_get (i := i) (List.nodup_cons.mp nd).2 (by simpa using h1) (by simpa using h2) hk

/-- the names' values at the entry -/
def start (N : List Str) (vs : List V) : St := vs.map some ++ List.replicate (N.length - vs.length) none

/-- the context of a def's body, at its entry; an exception leaves the frame, then lies as CX says -/
def cxOf (CX : CXT) (P : Program) (w : World) (K : PySem.W.Frag) (mg : Str → Option Value) (base : Heap) (N : List Str) (qual : Str) (scope : Scope) (f : Addr) (cd : Value) (A : Around) (outer : List Env) (s : Shared) (H : Hp) (E : XK) : Cx where
  prog := P
  w := w
  K := K
  mg := mg
  base := base
  A := A.deeper (envOfC qual scope s.heap.objs.size f cd)
  N := N
  s₀ := s
  H₀ := H
  env := envOfC qual scope s.heap.objs.size f cd
  outer := outer
  stack := envOfC qual scope s.heap.objs.size f cd :: outer
  ex := []
  calm := true
  fn := fun _ => true
  pn := []
  xe := fun e s' => wpAny (model P w) (A.deeper (envOfC qual scope s.heap.objs.size f cd)) (leaving (envOfC qual scope s.heap.objs.size f cd) e) (fun _ s'' => CX outer H s E e s'') (fun e' s'' => CX outer H s E e' s'') s'

theorem cell_has {sc : Scope} {n : Nat} {x : Str} (h : sc.names.lookup x = some .cell) : ∃ c, (cellsFrom n sc.names []).lookup x = some c := by
  have q := PySem.W.cellsFrom_some sc.names n [] (.inl h)
  exact Option.isSome_iff_exists.mp q

theorem inv_start {CX : CXT} {P : Program} {w : World} {K : PySem.W.Frag} {mg : Str → Option Value} {base : Heap} {N ps : List Str} {qual : Str} {scope : Scope} {f : Addr} {cd : Value} {A : Around} {outer : List Env} {s s1 : Shared} {H : Hp} {E : XK} {us : List Value} {vs : List V}
    (S : FnScope N ps scope) (hd : A.handled = none) (e0 : Env0 P w K mg base A outer s H) (hl : vs.length = ps.length) (r : Vals vs us)
    (x : InCallC s s.heap.objs.size (bindL (envOfC qual scope s.heap.objs.size f cd).kindOf (ps.zip us) fun _ => none) (cellsFrom (s.heap.objs.size + 1) scope.names []) (bindC (envOfC qual scope s.heap.objs.size f cd).kindOf (ps.zip us) fun _ => none) s1) :
    Inv (cxOf CX P w K mg base N qual scope f cd A outer s H E) [] (start N vs) H s1 := by
  have hpl : ps.length ≤ N.length := by have := congrArg List.length S.pre; rw [List.length_take] at this; lia
  obtain ⟨h1, tk, rfl, hk⟩ := x.done
  have noA : ∀ b : Addr, b ∉ (cxOf CX P w K mg base N qual scope f cd A outer s H E).ex := fun b z => absurd (show b ∈ ([] : List Addr) from z) (by simp)
  refine ⟨⟨e0.mod, S.kind, rfl, rfl, Nat.le_refl _, fun y z c h1 h2 => ?_, fun y hy => ?_, fun y c _ h => ?_, fun _ => hd, Around.frames_deeper e0.frames, .inr ⟨rfl, rfl⟩, fun b z => absurd z (noA b), e0.bs, e0.bsz, fun b _ _ => noA b, fun b z => absurd z (noA b), e0.funs, e0.frf⟩,
    rfl, e0.bare, Un.kept hk, ⟨_, x.toInCall.ns, fun i y v h1 h2 h3 => ?_⟩, fun y c h => ⟨_, x.cell y c h⟩, e0.hok.fresh (Nat.le_refl _), fun y c h => ?_, fun p hp => absurd (show p ∈ ([] : List (Addr × Obj)) from hp) (by simp), e0.hok.kept hk, ?_⟩
  · exact name_of_addr x.apart (PySem.mem_of_lookup h1) (PySem.mem_of_lookup h2)
  · have hy : scope.names.lookup y = some .cell ∨ scope.names.lookup y = some .free := hy
    rcases hy with hy | hy
    · exact cell_has hy
    · exact absurd rfl (S.nofree _ (PySem.mem_of_lookup hy))
  · exact Nat.le_of_lt (x.above y c (PySem.mem_of_lookup h))
  · have hi : i < vs.length := by
      unfold start at h2
      by_cases hi : i < vs.length
      · exact hi
      · rw [List.getElem?_append_right (by simpa using hi)] at h2
        rw [List.getElem?_replicate] at h2
        split at h2 <;> cases h2
    have ha : vs[i]? = some v := by
      unfold start at h2
      rw [List.getElem?_append_left (by simpa using hi), List.getElem?_map] at h2
      cases e : vs[i]? with
      | none => rw [e] at h2; cases h2
      | some a => rw [e] at h2; cases h2; rfl
    obtain ⟨u, hu, rv⟩ := r.get ha
    have hp : ps[i]? = some y := by
      rw [← S.pre, List.getElem?_take_of_lt (by lia)]; exact h1
    have ndP : ps.Nodup := by rw [← S.pre]; exact S.nd.sublist (List.take_sublist _ _)
    refine ⟨u, rv, ?_⟩
    rcases S.par y (List.mem_of_getElem? hp) with k | k
    · exact .inl ⟨k, bindL_get ndP hp hu k⟩
    · obtain ⟨c, e⟩ := cell_has (n := s.heap.objs.size + 1) k
      refine .inr ⟨.inl k, c, e, ?_⟩
      have q := x.cell y c e
      rw [bindC_get ndP hp hu (by show scope.names.lookup y ≠ _; rw [k]; decide)] at q
      exact q
  · exact e0.hok.fresh (Nat.le_of_lt (x.above y c (PySem.mem_of_lookup h)))
  · unfold start
    show _ = N.length
    rw [List.length_append, List.length_map, List.length_replicate]
    lia

/-- THE RULE: a def (or a method) of the text, by its body. The body's reading t is chosen for each entry; it is run at the parameters' values -/
theorem fn_of {CX : CXT} {P : Program} {w : World} {K : PySem.W.Frag} {mg : Str → Option Value} {base : Heap} {k : Nat} {f : Addr} {name qual : Str} {params : Arguments} {body : List Stmt} {scope : Scope} {dV kV doc pm cdv ct oc : Value} {an od : Option Addr}
    {osl : Array (Option Value)} {N ps : List Str} {sp : Sp} (lk : K.lookup f = some ⟨oc, od, .func (PySem.W.fnOf name qual params body scope dV kV doc pm an cdv ct), osl⟩) (hcd : PySem.W.codeIn K cdv qual = true) (S : FnScope N ps scope)
    (len : ∀ vs H Q E, sp vs H Q E → vs.length = ps.length)
    (hbody : ∀ (A : Around) (outer : List Env) (s : Shared) (H : Hp) (vs : List V) (Q : VK) (E : XK), Room k (A.deeper (envOfC qual scope s.heap.objs.size f cdv)) → sp vs H Q E →
      ∃ t, PSs (cxOf CX P w K mg base N qual scope f cdv A outer s H E) body t ∧ t { nx := fun _ H' => Q .non H', rt := Q } (start N vs) H) :
    FnOk P w K mg base CX (k + 1) f (PySem.W.fnOf name qual params body scope dV kV doc pm an cdv ct) ps sp := by
  refine ⟨len, fun A outer s H args us vs Q E hr e0 hb r hsp => ?_⟩
  have hl := len _ _ _ _ hsp
  have KX : K.In s.heap := e0.mod.kin.keeps fun b o e => (e0.bs b o e).1
  have lim : s.heap.NoLimit := e0.mod.nolimit.keeps fun b o e => (e0.bs b o e).1
  have hkind : ∀ y ∈ ps.zip us, scope.names.lookup y.1 = some .local ∨ (scope.names.lookup y.1 = some .cell ∧ ((cellsFrom (s.heap.objs.size + 1) scope.names []).lookup y.1).isSome = true) := fun ⟨n, v⟩ hy => by
    rcases S.par n (List.of_mem_zip hy).1 with q | q
    · exact .inl q
    · exact .inr ⟨q, PySem.W.cellsFrom_some _ _ _ (.inl q)⟩
  refine codeAny_call_function hr.depth (KX _ _ lk) rfl S.co S.gen rfl (PySem.W.codeRec_of KX hcd) (hb _ _ _ _ ?_)
  refine wpAny_newFunctionEnv_cells S.kind hkind fun env he s1 x => ?_
  subst he
  refine ⟨lim.keeps x.toInCall.keep, codeAny_func ?_⟩
  obtain ⟨t, ht, hq⟩ := hbody A outer s H vs Q E (hr.deeper _) hsp
  have I : Inv (cxOf CX P w K mg base N qual scope f cdv A outer s H E) [] (start N vs) H s1 := inv_start S hr.hd e0 hl r x
  refine wpAny_mono (ht [] s1 (start N vs) H _ I hq) (fun fl s' hs => ?_) fun e s' hs => hs
  have fin : ∀ {σ' : St} {H' : Hp} {v : V} {u : Value}, Inv (cxOf CX P w K mg base N qual scope f cdv A outer s H E) [] σ' H' s' → RelV v u → Q v H' → CE outer P w H s Q u s' :=
    fun {σ' H' v u} J rv q => ⟨v, H', J.os, J.bare, J.base, J.hok, rv, q⟩
  cases fl with
  | ret u =>
    obtain ⟨v, σ', H', J, rv, q⟩ := hs
    exact fin J rv q
  | next =>
    obtain ⟨σ', H', J, q⟩ := hs
    exact fin (v := V.non) (u := Value.none) J rfl q
  | brk =>
    obtain ⟨_, _, _, q⟩ := hs
    exact False.elim q
  | cont =>
    obtain ⟨_, _, _, q⟩ := hs
    exact False.elim q
end L2

namespace L2
open PySem PySem.Spec PyProof.Rows
section
variable {X : Cx} {x : Str} {p pos : Pos} {e : Expr} {es : List Expr} {t : TA} {id T : String} {r : List V → Hp → VK → Prop}

def tCB (r : List V → Hp → VK → Prop) (t : TA) : TE := fun σ H Q => t σ H fun vs H1 => r vs H1 Q
/-- f(e, ..), f a built-in function -/
theorem pe_callB (hc : CallR X (.builtin id) r) (hg : Gl X x) (hm : X.mg x = none) (hv : bootBuiltins x = some (.builtin id)) (ha : PA X (e :: es) t) (hn : x ≠ "__name__" := by decide) (hdb : (x == ("__debug__" : Str)) = false := by decide)
    (he : starEach (e :: es) X.env = (false, eval e X.env) :: starEach es X.env := by rfl) (hpl : (backTo pos (starEach es X.env)).any (·.1) = false := by rfl) : PE X (.Call (.Name x p) (e :: es) [] pos) (tCB r t) := by
  intro pins s σ H Q I h
  refine wpAny_Call_Name_kw (ld_blt I hg hm hv ?_ hn hdb)
  exact PyProof.Rows.callWith_builtin1 (thn (ha pos pins s σ H _ I h) fun us s1 ⟨vs, H1, I1, r1, q1⟩ => hc pins s1 σ H1 vs us Q I1 r1 q1) he hpl
/-- T(e, ..), T a built-in type -/
theorem pe_callTy (hc : CallR X (.type T) r) (hg : Gl X x) (hm : X.mg x = none) (hv : bootBuiltins x = some (.type T)) (ha : PA X (e :: es) t) (hn : x ≠ "__name__" := by decide) (hdb : (x == ("__debug__" : Str)) = false := by decide)
    (he : starEach (e :: es) X.env = (false, eval e X.env) :: starEach es X.env := by rfl) (hpl : (backTo pos (starEach es X.env)).any (·.1) = false := by rfl) : PE X (.Call (.Name x p) (e :: es) [] pos) (tCB r t) := by
  intro pins s σ H Q I h
  refine wpAny_Call_Name_kw (ld_blt I hg hm hv ?_ hn hdb)
  exact PyProof.Rows.callWith_type1 (thn (ha pos pins s σ H _ I h) fun us s1 ⟨vs, H1, I1, r1, q1⟩ => hc pins s1 σ H1 vs us Q I1 r1 q1) he hpl
end
end L2

namespace HT
open PySem PyProof.Rows

section
open PySem.SeqAt
open PySem.AutoSeq1 (wpAny_loadPart')
open PySem.MeetsSeq PySem.MeetsSeq2 PySem.MeetsSeq3

end

section
variable {prog : Program} {w : World} {A : Around} {E : Value → Shared → Prop} {s : Shared}

/-- t + u, t not empty -/
theorem cat_tup {t b : Addr} {vs ws : List Value} {Q : Value → Shared → Prop} (ht : IsTup s.heap t vs.toArray) (hb : IsTup s.heap b ws.toArray) (hv : vs ≠ [])
    (h1 : ws = [] → Q (.ref t) s) (h2 : ws ≠ [] → Q (.ref s.heap.objs.size) { s with heap := s.heap.push { cls := .type "tuple", data := .seq (vs ++ ws).toArray } })
    (hsz : vs.length + ws.length ≤ sizeLine) : wpAny (model prog w) A (binaryOp .Add (.ref t) (.ref b)) Q E s := by
  obtain ⟨⟨cls, dd, data, sl⟩, ho, hc, n, hd⟩ := id ht
  obtain ⟨⟨cls2, dd2, data2, sl2⟩, ho2, hc2, n2, hd2⟩ := id hb
  simp only at hc hd hc2 hd2
  subst hc hd hc2 hd2
  have e : vs.toArray ++ ws.toArray = (vs ++ ws).toArray := by simp
  by_cases hw : ws = []
  · exact concat_meets ⟨_, ho, rfl⟩ ⟨_, ho2, rfl⟩ noFill_tuple_add seq_tuple_add PySem.F.slot_tuple_add PySem.F.entry_tuple_add (PySem.F.args_tuple_add_2 _ _)
      (tuple_addW1 t b vs.toArray ws.toArray n n2 dd dd2 sl sl2 (by simpa using hv) (by simp [hw])) ⟨ho, ho2, h1 hw⟩
  · refine concat_meets ⟨_, ho, rfl⟩ ⟨_, ho2, rfl⟩ noFill_tuple_add seq_tuple_add PySem.F.slot_tuple_add PySem.F.entry_tuple_add (PySem.F.args_tuple_add_2 _ _)
      (tuple_addW2 t b vs.toArray ws.toArray n n2 dd dd2 sl sl2 (by simpa using hv) (by simpa using hw) (by rw [List.size_toArray, List.size_toArray]; exact hsz)) ⟨ho, ho2, ?_⟩
    rw [e]
    exact h2 hw

/-! ### t[a:b], not the whole -/
/-- a slice's bound as a place among n (d where it is left out) -/
def sIx (n d : Nat) : Option Int → Nat
  | none => d
  | some v => if v < 0 then (v + (n : Int)).toNat else min v.toNat n
theorem sIx_nat (n d k : Nat) : sIx n d (some (k : Int)) = min k n := by
  show (if (k : Int) < 0 then ((k : Int) + (n : Int)).toNat else min (k : Int).toNat n) = min k n
  rw [if_neg (by lia), Int.toNat_natCast]
theorem sIx_le (n d : Nat) (hd : d ≤ n) (o : Option Int) : sIx n d o ≤ n := by
  cases o with
  | none => exact hd
  | some v =>
    show (if v < 0 then (v + (n : Int)).toNat else min v.toNat n) ≤ n
    by_cases hv : v < 0
    · rw [if_pos hv]; lia
    · rw [if_neg hv]; exact Nat.min_le_right _ _
theorem clip_eq (v : Int) (n d : Nat) : (if v < 0 then max (v + (n : Int)) 0 else min v (n : Int)) = ((sIx n d (some v) : Nat) : Int) := by
  show (if v < 0 then max (v + (n : Int)) 0 else min v (n : Int)) = (((if v < 0 then (v + (n : Int)).toNat else min v.toNat n) : Nat) : Int)
  by_cases hv : v < 0
  · rw [if_pos hv, if_pos hv, Int.toNat_eq_max]
  · rw [if_neg hv, if_neg hv]
    obtain ⟨k, rfl⟩ := Int.eq_ofNat_of_zero_le (Int.not_lt.mp hv)
    rw [Int.toNat_natCast]
    rcases Nat.le_total k n with h | h
    · rw [Nat.min_eq_left h, Int.min_eq_left (Int.ofNat_le.mpr h)]
    · rw [Nat.min_eq_right h, Int.min_eq_right (Int.ofNat_le.mpr h)]
theorem adjust_gen (lo hi : Option Int) (n : Nat) : Builtin.Slice.sliceAdjust lo hi 1 (n : Int) = (((sIx n 0 lo : Nat) : Int), ((sIx n n hi : Nat) : Int)) := by
  have h1 : ¬ ((1 : Int) < 0) := by lia
  unfold Builtin.Slice.sliceAdjust
  simp only [h1, if_false]
  refine Prod.ext ?_ ?_
  · cases lo with
    | none => rfl
    | some v => exact clip_eq v n 0
  · cases hi with
    | none => rfl
    | some v => exact clip_eq v n n
theorem places_gen (i j : Nat) : Builtin.Slice.slicePlaces (i : Int) (j : Int) 1 = j - i := by
  unfold Builtin.Slice.slicePlaces
  have h1 : (1 : Int) > 0 := by lia
  simp only [h1, if_true, Int.ediv_one]
  split <;> lia
theorem slicePart_ {v : Value} {o : Option Int} {Q : Option Int → Shared → Prop} (p : IsPart v o) (h : Q o s) : wpAny (model prog w) A (Builtin.Slice.slicePartIndex v) Q E s := by
  cases p with
  | none => exact slicePart_none h
  | int i t => exact slicePart_int h
theorem sliceApplied_gen {sl : Addr} {vl vu : Value} {lo hi : Option Int} {n : Nat} {Q : Int × Int × Nat → Shared → Prop} (hs : s.heap.IsSliceOf sl vl vu .none) (pl : IsPart vl lo) (pu : IsPart vu hi)
    (h : Q (((sIx n 0 lo : Nat) : Int), 1, sIx n n hi - sIx n 0 lo) s) : wpAny (model prog w) A (Builtin.Slice.sliceApplied (.ref sl) (pure (n : Int))) Q E s := by
  obtain ⟨os, hos, hcs, hds⟩ := id hs
  unfold Builtin.Slice.sliceApplied Builtin.Slice.sliceFields
  refine wpAny_bind (wpAny_bind (wpAny_field hos hds (x := vl) rfl (wpAny_bind (wpAny_field hos hds (x := vu) rfl (wpAny_bind (wpAny_field hos hds (x := .none) rfl (wpAny_pure ?_)))))))
  refine wpAny_bind (slicePart_none ?_)
  show wpAny _ _ (if ((1 : Int) == 0) = true then _ else _) _ _ s
  rw [if_neg (by decide)]
  refine wpAny_bind (slicePart_ pl (wpAny_bind (slicePart_ pu (wpAny_bind (wpAny_pure ?_)))))
  show wpAny _ _ (match Builtin.Slice.sliceAdjust lo hi 1 (n : Int) with | (lo, hi) => pure (lo, (1 : Int), Builtin.Slice.slicePlaces lo hi 1)) _ _ s
  rw [adjust_gen lo hi n]
  show wpAny _ _ (pure (((sIx n 0 lo : Nat) : Int), (1 : Int), Builtin.Slice.slicePlaces ((sIx n 0 lo : Nat) : Int) ((sIx n n hi : Nat) : Int) 1)) _ _ s
  rw [places_gen]
  exact wpAny_pure h
theorem pick_gen (xs : Array Value) (i k : Nat) : ((List.range k).filterMap fun (m : Nat) => xs[((i : Int) + (m : Int) * 1).toNat]?).toArray = ((xs.toList.drop i).take k).toArray := by
  have e : (fun (m : Nat) => xs[((i : Int) + (m : Int) * 1).toNat]?) = fun m => xs[i + m]? := by
    funext m
    have : ((i : Int) + (m : Int) * 1).toNat = i + m := by lia
    rw [this]
  rw [e]
  have := pick_run xs i k
  rw [List.filterMap_map] at this
  have e2 : ((fun x => xs[x]?) ∘ fun x => i + x) = fun m => xs[i + m]? := rfl
  rw [e2] at this
  rw [this]

theorem getItem_tuple_cut {t sl : Addr} {items : Array Value} {vl vu : Value} {lo hi : Option Int} {Q : Value → Shared → Prop} (ht : IsTup s.heap t items) (hs : s.heap.IsSliceOf sl vl vu .none) (pl : IsPart vl lo) (pu : IsPart vu hi)
    (hw : ¬ (sIx items.size 0 lo = 0 ∧ sIx items.size items.size hi = items.size))
    (h : Q (.ref s.heap.objs.size) { s with heap := s.heap.push { cls := .type "tuple", data := .seq ((items.toList.drop (sIx items.size 0 lo)).take (sIx items.size items.size hi - sIx items.size 0 lo)).toArray } })
    (hsz : items.size ≤ sizeLine) : wpAny (model prog w) A (getItem (.ref t) (.ref sl)) Q E s := by
  have htake : sizeOk (.seq ((items.toList.drop (sIx items.size 0 lo)).take (sIx items.size items.size hi - sIx items.size 0 lo)).toArray) := by
    show ((items.toList.drop (sIx items.size 0 lo)).take (sIx items.size items.size hi - sIx items.size 0 lo)).toArray.size ≤ sizeLine
    rw [List.size_toArray, List.length_take, List.length_drop, Array.length_toList]
    exact Nat.le_trans (Nat.le_trans (Nat.min_le_right _ _) (Nat.sub_le _ _)) hsz
  have hj : sIx items.size items.size hi ≤ items.size := sIx_le _ _ (Nat.le_refl _) hi
  obtain ⟨os, hos, hcs, hds⟩ := id hs
  have hTs : s.TypeIs (.ref sl) "slice" := ⟨os, hos, hcs⟩
  unfold getItem
  try with_reducible refine wpAny_holding ?_
  first | refine wpAny_bind (wpAny_pure ?_) | skip
  refine wpAny_bind (wpAny_sequenceKey ht.typeIs (by decide) ?_)
  refine wpAny_bind (wpAny_callSpecial?_slot (name := Str.ofString "__getitem__") ht.typeIs PyProof.Rows.slot_tuple_getitem
    (wpAny_call_entry PyProof.Rows.slot_tuple_getitem ht.typeIs entry_tuple_getitem ?_ (args_tuple_getitem _ _)))
  show wpAny _ _ (Builtin.Tuple.tupleItemsOf (.ref t) >>= _) _ _ s
  refine wpAny_bind (tupleItemsOf_ ht ?_)
  refine wpAny_bind (wpAny_typeOf hTs ?_)
  rw [if_pos (by decide)]
  refine wpAny_bind (sliceApplied_gen hs pl pu ?_)
  have hno : ¬ ((((sIx items.size 0 lo : Nat) : Int) == 0 && (1 : Int) == 1 && (sIx items.size items.size hi - sIx items.size 0 lo) == items.size) = true) := by
    intro q
    rw [Bool.and_eq_true, Bool.and_eq_true] at q
    have q1 : ((sIx items.size 0 lo : Nat) : Int) = 0 := eq_of_beq q.1.1
    have q2 : sIx items.size items.size hi - sIx items.size 0 lo = items.size := eq_of_beq q.2
    exact hw ⟨by lia, by lia⟩
  show wpAny _ _ (if (((sIx items.size 0 lo : Nat) : Int) == 0 && (1 : Int) == 1 && (sIx items.size items.size hi - sIx items.size 0 lo) == items.size) = true then _ else _) _ _ s
  rw [if_neg hno, pick_gen]
  first
    | exact wpAny_bind (m := Builtin.Tuple.tupleExact _) (wpAny_newObj_type (wpAny_pure ⟨_, rfl, wpAny_pure h⟩) htake)
    | exact wpAny_bind (m := Builtin.Tuple.tupleExact _) (wpAny_newObj_type (wpAny_bind (wpAny_pure (wpAny_pure ⟨_, rfl, wpAny_pure h⟩))) htake)
    | exact wpAny_bind (wpAny_bind (m := Builtin.Tuple.tupleExact _) (wpAny_newObj_type (wpAny_pure (wpAny_pure ⟨_, rfl, wpAny_pure h⟩)) htake))
    | exact wpAny_bind (wpAny_bind (m := Builtin.Tuple.tupleExact _) (wpAny_newObj_type (wpAny_pure ⟨_, rfl, wpAny_pure h⟩) htake))
end
end HT

namespace L2
open PySem PySem.Spec PyProof.Rows

/-! ### the parts of a slice -/
abbrev TO := St → Hp → (Option Int → Hp → Prop) → Prop
/-- a slice's part (left out, or an int) -/
def PO (X : Cx) (e : Option Expr) (t : TO) : Prop :=
  ∀ (pins : List (Addr × Obj)) (s : Shared) (σ : St) (H : Hp) (Q : Option Int → Hp → Prop), Inv X pins σ H s → t σ H Q →
    wpAny (model X.prog X.w) X.A (evalPart e X.env) (fun u s' => ∃ o H', Inv X pins σ H' s' ∧ IsPart u o ∧ Q o H') X.xe s
def tNoPart : TO := fun _ H Q => Q none H
def tPart (t : TE) : TO := fun σ H Q => t σ H fun x H1 => ∃ i, x = .int i ∧ Q (some i) H1

section
variable {X : Cx} {e : Expr} {te : TE} {lo hi : Option Expr} {tl th : TO} {pos p2 : Pos}

theorem po_none : PO X none tNoPart := by
  intro pins s σ H Q I h
  rw [evalPart_none]
  exact wpAny_pure ⟨none, H, I, .none, h⟩
theorem po_some (h : PE X e te) : PO X (some e) (tPart te) := by
  intro pins s σ H Q I hw
  rw [evalPart_some]
  refine thn (h pins s σ H _ I hw) fun u s1 ⟨x, H1, I1, r1, q1⟩ => ?_
  obtain ⟨i, rfl, q⟩ := q1
  obtain ⟨t, rfl⟩ := r1
  exact ⟨some i, H1, I1, .int i t, q⟩

/-- what a slice of a value is, by values: the slice object stands at sl -/
def SlR (X : Cx) (r : V → Option Int → Option Int → Hp → VK → Prop) : Prop :=
  ∀ (pins : List (Addr × Obj)) (s : Shared) (σ : St) (H : Hp) (x : V) (v vl vu : Value) (lo hi : Option Int) (sl : Addr) (Q : VK), Inv X pins σ H s → RelV x v → s.heap.IsSliceOf sl vl vu .none → IsPart vl lo → IsPart vu hi → r x lo hi H Q →
    ∃ T id, typeLookup (.type T) "__getitem__" = pure (some (.builtin id)) ∧ s.TypeIs v T ∧ wpAny (model X.prog X.w) X.A (getItem v (.ref sl)) (EP X pins σ Q) X.xe s
theorem SlR.or {r r' : V → Option Int → Option Int → Hp → VK → Prop} (h : SlR X r) (h' : SlR X r') : SlR X (fun x lo hi H Q => r x lo hi H Q ∨ r' x lo hi H Q) := by
  intro pins s σ H x v vl vu lo hi sl Q I rx hs pl pu q
  rcases q with q | q
  · exact h pins s σ H x v vl vu lo hi sl Q I rx hs pl pu q
  · exact h' pins s σ H x v vl vu lo hi sl Q I rx hs pl pu q
def tSl (r : V → Option Int → Option Int → Hp → VK → Prop) (te : TE) (tl th : TO) : TE := fun σ H Q => te σ H fun x H1 => tl σ H1 fun l H2 => th σ H2 fun u H3 => r x l u H3 Q
/-- a[lo:hi], any a -/
theorem pe_slice {r : V → Option Int → Option Int → Hp → VK → Prop} (hr : SlR X r) (he : PE X e te) (hl : PO X lo tl) (hu : PO X hi th) : PE X (.Subscript e (.Slice lo hi none p2) pos) (tSl r te tl th) := by
  intro pins s σ H Q I h
  refine Subscript_ (thn (he pins s σ H _ I h) fun v s1 ⟨x, H1, I1, r1, q1⟩ => ?_)
  refine wpAny_Slice (thn (hl pins s1 σ H1 _ I1 q1) fun vl s2 ⟨l, H2, I2, pl, q2⟩ => thn (hu pins s2 σ H2 _ I2 q2) fun vu s3 ⟨u, H3, I3, pu, q3⟩ => ?_)
  rw [evalPart_none]
  refine wpAny_pure ?_
  have I4 : Inv X pins σ H3 { s3 with heap := s3.heap.push { cls := .type "slice", data := .fields #[vl, vu, .none] } } := I3.kept (t' := s3.toks) fun b ob q => Heap.get?_push_of_some _ q
  obtain ⟨T, id, hT, ht, hg⟩ := hr pins { s3 with heap := s3.heap.push { cls := .type "slice", data := .fields #[vl, vu, .none] } } σ H3 x v vl vu l u s3.heap.objs.size Q I4 r1 (Heap.IsSliceOf.new ..) pl pu q3
  show wpAny (model X.prog X.w) X.A (subscriptTail e (.Slice lo hi none p2) v (.ref s3.heap.objs.size)) (EP X pins σ Q) X.xe { s3 with heap := s3.heap.push { cls := .type "slice", data := .fields #[vl, vu, .none] } }
  exact tail_any (ops := [.ref s3.heap.objs.size, v]) ht hT hg (by with_unfolding_all rfl)

/-- the items of xs[lo:hi] -/
def cutV (xs : List V) (lo hi : Option Int) : List V := (xs.drop (HT.sIx xs.length 0 lo)).take (HT.sIx xs.length xs.length hi - HT.sIx xs.length 0 lo)
theorem cutV_length (xs : List V) (lo hi : Option Int) : (cutV xs lo hi).length ≤ xs.length := by
  unfold cutV
  rw [List.length_take, List.length_drop]
  exact Nat.le_trans (Nat.min_le_right _ _) (Nat.sub_le _ _)
/-- t[lo:hi], not the whole of it (the whole would be t itself) -/
inductive rSlT (K : PySem.W.Frag) (x : V) (lo : Option Int) (hi : Option Int) (H : Hp) (Q : VK) : Prop
  | mk (a : _) (xs : _) (h1 : x = .ref a) (h2 : SqT K H a xs) (h3 : ¬ (HT.sIx xs.length 0 lo = 0 ∧ HT.sIx xs.length xs.length hi = xs.length)) (h4 : ∀ p, H p = none → Q (.ref p) (upd H p (.tup (cutV xs lo hi)))) : rSlT K x lo hi H Q
theorem sl_tup : SlR X (rSlT X.K) := by
  intro pins s σ H x v vl vu lo hi sl Q I rx hs pl pu h
  obtain ⟨a, xs, rfl, hx, hw, q⟩ := h
  cases rx
  obtain ⟨its, r, ht, hz⟩ := I.tuple hx
  have hlen : its.toArray.size = xs.length := by rw [List.size_toArray]; exact r.length.symm
  refine ⟨"tuple", _, PyProof.Rows.slot_tuple_getitem.lookup, ht.typeIs, ?_⟩
  refine HT.getItem_tuple_cut ht hs pl pu (by rw [hlen]; exact hw) ?_ (by rw [hlen]; exact hz)
  rw [hlen]
  refine ⟨.ref s.heap.objs.size, _, I.laid (t' := s.toks) (o := .tup (cutV xs lo hi)) (fun b ob q => Heap.get?_push_of_some _ q) (Nat.le_refl _) ?_, rfl, q _ (I.hok.fresh (Nat.le_refl _))⟩
  exact ⟨Nat.le_trans (cutV_length xs lo hi) hz, _, (r.drop (HT.sIx xs.length 0 lo)).take (HT.sIx xs.length xs.length hi - HT.sIx xs.length 0 lo), IsTup.new _ _⟩

/-! ### t < u, t + u -/
/-- t + u, t not empty: u empty gives t itself -/
inductive rCatT (K : PySem.W.Frag) (x : V) (y : V) (H : Hp) (Q : VK) : Prop
  | mk (a : _) (b : _) (xs : _) (ys : _) (h1 : x = .ref a) (h2 : y = .ref b) (h3 : SqT K H a xs) (h4 : SqT K H b ys) (h5 : xs ≠ []) (h6 : xs.length + ys.length ≤ sizeLine) (h7 : (ys = [] → Q (.ref a) H)) (h8 : (ys ≠ [] → ∀ p, H p = none → Q (.ref p) (upd H p (.tup (xs ++ ys))))) : rCatT K x y H Q
theorem Vals.nil_iff {xs : List V} {us : List Value} (r : Vals xs us) : us = [] ↔ xs = [] := by
  cases r with
  | nil => simp
  | cons _ _ => simp
theorem op_catT : OpR X (binaryOp .Add) (rCatT X.K) := by
  intro pins s σ H x y v u Q I rx ry h
  obtain ⟨a, b, xs, ys, rfl, rfl, ha, hb, hx, hz, q1, q2⟩ := h
  cases rx
  cases ry
  obtain ⟨its, r1, p1, _⟩ := I.tuple ha
  obtain ⟨its2, r2, p2, _⟩ := I.tuple hb
  refine HT.cat_tup p1 p2 (fun z => hx (r1.nil_iff.mp z)) (fun z => ⟨.ref a, H, I, rfl, q1 (r2.nil_iff.mp z)⟩) (fun z => ?_) (by rw [← r1.length, ← r2.length]; exact hz)
  refine ⟨.ref s.heap.objs.size, _, I.laid (t' := s.toks) (o := .tup (xs ++ ys)) (fun b ob q => Heap.get?_push_of_some _ q) (Nat.le_refl _) ?_, rfl, q2 (fun w => z (r2.nil_iff.mpr w)) _ (I.hok.fresh (Nat.le_refl _))⟩
  exact ⟨by rw [List.length_append]; exact hz, _, r1.append r2, IsTup.new _ _⟩
end
end L2

namespace L2
open PySem PySem.Spec PyProof.Rows

/-! ### places -/
/-- the place that an index of any sign means -/
def ixN (n : Nat) (i : Int) : Option Nat := if 0 ≤ i then (if i < n then some i.toNat else none) else if -(n : Int) ≤ i then some (i + n).toNat else none
def atI {α : Type} (xs : List α) (i : Int) : Option α := (ixN xs.length i).bind fun j => xs[j]?
theorem ixN_seq {n : Nat} {i : Int} {j : Nat} (h : ixN n i = some j) : seqIndex? i n = some j ∧ j < n ∧ -(n : Int) ≤ i ∧ i < n := by
  unfold ixN at h
  by_cases h0 : 0 ≤ i
  · rw [if_pos h0] at h
    by_cases h1 : i < n
    · rw [if_pos h1] at h
      have e : i.toNat = j := Option.some.inj h
      exact ⟨by rw [seqIndex_of h0 h1, e], by lia, by lia, h1⟩
    · rw [if_neg h1] at h; cases h
  · rw [if_neg h0] at h
    by_cases h1 : -(n : Int) ≤ i
    · rw [if_pos h1] at h
      have e : (i + n).toNat = j := Option.some.inj h
      exact ⟨by rw [seqIndex_neg (by lia) h1, e], by lia, h1, by lia⟩
    · rw [if_neg h1] at h; cases h
theorem atI_get {α : Type} {xs : List α} {i : Int} {v : α} (h : atI xs i = some v) : ∃ j, seqIndex? i xs.length = some j ∧ xs[j]? = some v ∧ j < xs.length ∧ -(xs.length : Int) ≤ i ∧ i < xs.length := by
  unfold atI at h
  cases e : ixN xs.length i with
  | none => rw [e] at h; cases h
  | some j =>
    rw [e] at h
    obtain ⟨h1, h2, h3, h4⟩ := ixN_seq e
    exact ⟨j, h1, h, h2, h3, h4⟩
theorem atI_nat {α : Type} {xs : List α} {j : Nat} {v : α} (h : xs[j]? = some v) : atI xs (j : Int) = some v := by
  have hj : j < xs.length := (List.getElem?_eq_some_iff.mp h).1
  have e : ixN xs.length (j : Int) = some j := by
    unfold ixN
    rw [if_pos (by lia), if_pos (by lia)]; simp
  unfold atI; rw [e]; exact h
/-! ### what may be subscripted -/
/-- what stands as an index of a plain subscript -/
def PlainIx (b : Expr) : Prop := ∀ o i, subscripted b false o i = operate [o, i] (getItem o i)
/-- a subscript by values -/
def IxR (X : Cx) (r : R2) : Prop :=
  ∀ (value slice : Expr) (pins : List (Addr × Obj)) (s : Shared) (σ : St) (H : Hp) (x y : V) (v u : Value) (Q : VK), Inv X pins σ H s → RelV x v → RelV y u → r x y H Q →
    subscripted slice false v u = operate [v, u] (getItem v u) → wpAny (model X.prog X.w) X.A (subscriptTail value slice v u) (EP X pins σ Q) X.xe s
/-- a call of a builtin's method by values: the receiver, the arguments -/
def MtR (X : Cx) (id : String) (r : V → List V → Hp → VK → Prop) : Prop :=
  ∀ (pins : List (Addr × Obj)) (s : Shared) (σ : St) (H : Hp) (x : V) (xs : List V) (v : Value) (us : List Value) (Q : VK), Inv X pins σ H s → RelV x v → Vals xs us → r x xs H Q →
    wpAny (model X.prog X.w) X.A (call (.builtin id) (v :: us)) (EP X pins σ Q) X.xe s
section
variable {X : Cx} {a b : Expr} {ta tb : TE} {pos : Pos}
theorem IxR.or {r r' : R2} (h : IxR X r) (h' : IxR X r') : IxR X (fun x y H Q => r x y H Q ∨ r' x y H Q) := by
  intro value slice pins s σ H x y v u Q I rx ry q hs
  rcases q with q | q
  · exact h value slice pins s σ H x y v u Q I rx ry q hs
  · exact h' value slice pins s σ H x y v u Q I rx ry q hs
/-- a[b] -/
theorem pe_ix {r : R2} (hr : IxR X r) (ha : PE X a ta) (hb : PE X b tb) (hs : PlainIx b) : PE X (.Subscript a b pos) (tOp r ta tb) := by
  intro pins s σ H Q I h
  exact Subscript_ (binT ha hb I h fun v u s2 x y H2 I2 rx ry q => hr a b pins s2 σ H2 x y v u Q I2 rx ry q (hs _ _))

inductive rIxL (K : PySem.W.Frag) (x : V) (y : V) (H : Hp) (Q : VK) : Prop
  | mk (p : _) (xs : _) (i : _) (v : _) (h1 : x = .ref p) (h2 : y = .int i) (h3 : SqL K H p xs) (h4 : atI xs i = some v) (h5 : Q v H) : rIxL K x y H Q
inductive rIxT (K : PySem.W.Frag) (x : V) (y : V) (H : Hp) (Q : VK) : Prop
  | mk (p : _) (xs : _) (i : _) (v : _) (h1 : x = .ref p) (h2 : y = .int i) (h3 : SqT K H p xs) (h4 : atI xs i = some v) (h5 : Q v H) : rIxT K x y H Q
inductive rIxS (x : V) (y : V) (H : Hp) (Q : VK) : Prop
  | mk (z : _) (i : _) (c : _) (h1 : x = .str z) (h2 : y = .int i) (h3 : z.length ≤ sizeLine) (h4 : atI z.cps.toList i = some c) (h5 : Q (.str ⟨#[c]⟩) H) : rIxS x y H Q
theorem ix_list : IxR X (rIxL X.K) := by
  intro value slice pins s σ H x y v u Q I rx ry h hs
  obtain ⟨p, xs, i, z, rfl, rfl, hq, he, q⟩ := h
  cases rx
  obtain ⟨t, rfl⟩ := ry
  obtain ⟨its, r, pl, hz⟩ := I.list hq
  obtain ⟨j, h1, h2, h3, h4, h5⟩ := atI_get he
  obtain ⟨w, ew, rw'⟩ := r.get h2
  have hl := r.length
  have hn := line63
  have fin : EP X pins σ Q w s := ⟨z, H, I, rw', q⟩
  by_cases h0 : 0 ≤ i
  · have hj : i.toNat = j := by
      rw [seqIndex_of h0 h5] at h1
      exact Option.some.inj h1
    exact item_listR pl.isList h0 (by lia) (by rw [hj]; simpa using ew) fin hs
  · have hj : (i + (its.toArray.size : Int)).toNat = j := by
      rw [seqIndex_neg (by lia) h4] at h1
      rw [List.size_toArray, ← hl]
      exact Option.some.inj h1
    exact subscriptTail_builtinR (x := w) pl.isList.typeIs slot_list_getitem.lookup
      (wpAny_getItem_list_neg (Q := fun r s' => r = w ∧ EP X pins σ Q r s') pl.isList (by lia) (by rw [List.size_toArray] <;> lia) (by lia) (by rw [hj]; simpa using ew) ⟨rfl, fin⟩) hs
theorem ix_tup : IxR X (rIxT X.K) := by
  intro value slice pins s σ H x y v u Q I rx ry h hs
  obtain ⟨p, xs, i, z, rfl, rfl, hq, he, q⟩ := h
  cases rx
  obtain ⟨t, rfl⟩ := ry
  obtain ⟨its, r, pl, hz⟩ := I.tuple hq
  obtain ⟨j, h1, h2, h3, h4, h5⟩ := atI_get he
  obtain ⟨w, ew, rw'⟩ := r.get h2
  have hl := r.length
  have hn := line63
  have fin : EP X pins σ Q w s := ⟨z, H, I, rw', q⟩
  exact subscriptTail_builtinR (x := w) pl.typeIs slot_tuple_getitem.lookup
    (getItem_tuple (j := j) (Q := fun r s' => r = w ∧ EP X pins σ Q r s') pl (by lia) (by lia) (by rw [List.size_toArray, ← hl]; exact h1) (by simpa using ew) ⟨rfl, fin⟩) hs
theorem ix_str : IxR X rIxS := by
  intro value slice pins s σ H x y v u Q I rx ry h hs
  obtain ⟨z, i, c, rfl, rfl, hz, he, q⟩ := h
  obtain ⟨t, rfl⟩ := rx
  obtain ⟨t', rfl⟩ := ry
  obtain ⟨j, h1, h2, h3, h4, h5⟩ := atI_get he
  have hl : z.cps.toList.length = z.length := by simp [Str.length]
  rw [hl] at h1 h4 h5
  have hn := line63
  exact tail_any (typeIs_str s z t) slot_str_getitem.lookup (getItem_str (c := c) (by
    have e1 : decide (i < -(2 ^ 63 : Int)) = false := decide_eq_false (by lia)
    have e2 : decide (i ≥ 2 ^ 63) = false := decide_eq_false (by lia)
    rw [e1, e2, Bool.or_false]) (by rw [h1]; simpa using h2) ⟨.str ⟨#[c]⟩, H, I.tok _, ⟨_, rfl⟩, q⟩) hs
/-- list, tuple or str -/
def rIx (K : PySem.W.Frag) : R2 := fun x y H Q => rIxL K x y H Q ∨ rIxT K x y H Q ∨ rIxS x y H Q
theorem ix_seq : IxR X (rIx X.K) := ix_list.or (ix_tup.or ix_str)

/-! ### xs[i] = v, any sign -/
/-- the list's object behind a store -/
theorem mapSeq_set (its : List Value) (n j : Nat) (u : Value) : Obj.mapSeq (·.setIfInBounds j u) { cls := .type "list", data := .seq its.toArray n } = { cls := .type "list", data := .seq (its.set j u).toArray n } := by
  simp [Obj.mapSeq]
theorem Inv.lst {pins : List (Addr × Obj)} {σ : St} {H : Hp} {s : Shared} {p : Addr} {xs : List V} (I : Inv X pins σ H s) (h : H p = some (.lst xs)) :
    ∃ (its : List Value) (n : Nat), Vals xs its ∧ s.heap.get? p = some { cls := .type "list", data := .seq its.toArray n } ∧ xs.length ≤ sizeLine := by
  obtain ⟨z, its, n, r, e⟩ := I.hok p _ h
  exact ⟨its, n, r, e, z⟩
/-- the list at p is written by an update of its object -/
theorem Inv.lstUpd {pins : List (Addr × Obj)} {σ : St} {H : Hp} {s : Shared} {p : Addr} {xs ys : List V} {its its' : List Value} {n n' : Nat} {f : Obj → Obj} (I : Inv X pins σ H s) (h : H p = some (.lst xs))
    (ho : s.heap.get? p = some { cls := .type "list", data := .seq its.toArray n }) (hf : f { cls := .type "list", data := .seq its.toArray n } = { cls := .type "list", data := .seq its'.toArray n' }) (r : Vals ys its') (hz : ys.length ≤ sizeLine) (t : Nat) :
    Inv X pins σ (upd H p (.lst ys)) { s with heap := s.heap.update p f, toks := t } := by
  have e : (s.heap.update p f).get? p = some { cls := .type "list", data := .seq its'.toArray n' } := by
    rw [Heap.get?_update_self f ho (by rw [hf] <;> rfl), hf]
  refine I.write (x := p) (e := p) (by rw [h]; trivial) (.inl rfl) (fun b u hb q => (Heap.get?_update_other _ _ (Ne.symm hb)).trans q) ⟨_, e⟩ ?_
  exact ⟨hz, its', n', r, e⟩
inductive rSetL (o : V) (i : V) (v : V) (H : Hp) (Q : (Hp → Prop)) : Prop
  | mk (p : _) (xs : _) (k : _) (j : _) (h1 : o = .ref p) (h2 : i = .int k) (h3 : H p = some (.lst xs)) (h4 : ixN xs.length k = some j) (h5 : Q (upd H p (.lst (xs.set j v)))) : rSetL o i v H Q
theorem set_list : PSet X rSetL := by
  intro pins s σ H o i v ov iv u Q I ro ri rv h
  obtain ⟨p, xs, k, j, rfl, rfl, hp, hj, q⟩ := h
  cases ro
  obtain ⟨t, rfl⟩ := ri
  obtain ⟨its, n, r, ho, hz⟩ := I.lst hp
  obtain ⟨h1, h2, h3, h4⟩ := ixN_seq hj
  have hl := r.length
  have hn := line63
  have I' : Inv X pins σ (upd H p (.lst (xs.set j v))) { s with heap := s.heap.update p (Obj.mapSeq (·.setIfInBounds j u)) } :=
    I.lstUpd hp ho (mapSeq_set its n j u) (r.set rv j) (by rw [List.length_set]; exact hz) s.toks
  by_cases h0 : 0 ≤ k
  · have hk : k.toNat = j := by
      rw [seqIndex_of h0 h4] at h1
      exact Option.some.inj h1
    exact PySem.W.ki_setAt ho h0 (by lia) (by rw [List.size_toArray, ← hl]; exact h4) (by rw [hk]; exact ⟨_, I', q⟩)
  · have hk : (k + (its.toArray.size : Int)).toNat = j := by
      rw [seqIndex_neg (by lia) h3] at h1
      rw [List.size_toArray, ← hl]
      exact Option.some.inj h1
    exact PySem.W.ki_setBack ho (by lia) (by rw [List.size_toArray, ← hl]; exact h3) (by lia) (by rw [hk]; exact ⟨_, I', q⟩)

/-! ### slices -/
theorem slice_bounds (lo hi : Option Int) (n : Nat) : (sliceBounds lo hi none n).1 = ((HT.sIx n 0 lo : Nat) : Int) ∧ (sliceBounds lo hi none n).2.1 = ((HT.sIx n n hi : Nat) : Int) ∧ (sliceBounds lo hi none n).2.2 = 1 := by
  have key : ∀ (i : Int) (d : Nat), max 0 (min (if i < 0 then i + (n : Int) else i) (n : Int)) = ((HT.sIx n d (some i) : Nat) : Int) := by
    intro i d
    rw [← HT.clip_eq]
    by_cases h : i < 0
    · rw [if_pos h, if_pos h, Int.min_eq_left (by lia), Int.max_comm]
    · rw [if_neg h, if_neg h, Int.max_eq_right (Int.le_min.mpr ⟨by lia, by lia⟩)]
  refine ⟨?_, ?_, rfl⟩
  · cases lo with
    | none => simp [sliceBounds, HT.sIx]
    | some i => exact key i 0
  · cases hi with
    | none => simp [sliceBounds, HT.sIx]
    | some i => exact key i n
theorem slicePick_cut (its : List Value) (lo hi : Option Int) : slicePick its.toArray lo hi none = ((its.drop (HT.sIx its.length 0 lo)).take (HT.sIx its.length its.length hi - HT.sIx its.length 0 lo)).toArray := by
  obtain ⟨h1, h2, h3⟩ := slice_bounds lo hi its.toArray.size
  unfold slicePick
  rw [h1, h2, h3]
  simp only [sliceRange_one, pick_run, List.size_toArray] <;> rfl
/-- xs[lo:hi] of a list: a new list -/
inductive rSlL (K : PySem.W.Frag) (x : V) (lo : Option Int) (hi : Option Int) (H : Hp) (Q : VK) : Prop
  | mk (a : _) (xs : _) (h1 : x = .ref a) (h2 : SqL K H a xs) (h3 : ∀ p, H p = none → Q (.ref p) (upd H p (.lst (cutV xs lo hi)))) : rSlL K x lo hi H Q
theorem sl_list : SlR X (rSlL X.K) := by
  intro pins s σ H x v vl vu lo hi sl Q I rx hs pl pu h
  obtain ⟨a, xs, rfl, hx, q⟩ := h
  cases rx
  obtain ⟨its, r, ht, hz⟩ := I.list hx
  have hlen := r.length
  refine ⟨"list", _, slot_list_getitem.lookup, ht.isList.typeIs, ?_⟩
  refine wpAny_getItem_list_slice ht.isList hs pl pu .none (by simp) ?_ (by rw [List.size_toArray] <;> lia)
  rw [slicePick_cut, ← hlen]
  refine ⟨.ref s.heap.objs.size, _, I.laid (t' := s.toks) (o := .lst (cutV xs lo hi)) (fun b ob q => Heap.get?_push_of_some _ q) (Nat.le_refl _) ?_, rfl, q _ (I.hok.fresh (Nat.le_refl _))⟩
  exact ⟨Nat.le_trans (cutV_length xs lo hi) hz, _, 0, (r.drop (HT.sIx xs.length 0 lo)).take (HT.sIx xs.length xs.length hi - HT.sIx xs.length 0 lo), Heap.get?_push_size _ rfl⟩

/-! ### in, not in: flat items -/
def flatV : V → Bool
  | .non => true
  | .bl _ => true
  | .int _ => true
  | .str _ => true
  | _ => false
/-- == of flat values -/
def eqV : V → V → Bool
  | .non, .non => true
  | .bl a, .bl b => a == b
  | .bl a, .int b => (if a then 1 else 0) == b
  | .int a, .bl b => a == (if b then 1 else 0)
  | .int a, .int b => a == b
  | .str a, .str b => a == b
  | _, _ => false
theorem eqAt_V {A : Around} {s : Shared} {y x : V} {u v : Value} (ry : RelV y u) (rx : RelV x v) (fy : flatV y = true) (fx : flatV x = true) : SeqAt.EqAt A s u v (eqV y x) := by
  cases y with
  | non =>
    cases ry
    cases x with
    | non => cases rx; exact SeqAt.EqAt.same _
    | bl b => cases rx; exact SeqAt.EqAt.none_bool b
    | int b => obtain ⟨t, rfl⟩ := rx; exact SeqAt.EqAt.none_int b t
    | str b => obtain ⟨t, rfl⟩ := rx; exact SeqAt.EqAt.none_str b t
    | _ => exact absurd (show false = true from fx) Bool.false_ne_true
  | bl a =>
    cases ry
    cases x with
    | non => cases rx; exact SeqAt.EqAt.bool_none a
    | bl b => cases rx; exact SeqAt.EqAt.bool_bool a b
    | int b => obtain ⟨t, rfl⟩ := rx; exact SeqAt.EqAt.bool_int a b t
    | str b => obtain ⟨t, rfl⟩ := rx; exact SeqAt.EqAt.bool_str a b t
    | _ => exact absurd (show false = true from fx) Bool.false_ne_true
  | int a =>
    obtain ⟨t', rfl⟩ := ry
    cases x with
    | non => cases rx; exact SeqAt.EqAt.int_none a t'
    | bl b => cases rx; exact SeqAt.EqAt.int_bool a t' b
    | int b => obtain ⟨t, rfl⟩ := rx; exact SeqAt.EqAt.int_int a t' b t
    | str b => obtain ⟨t, rfl⟩ := rx; exact SeqAt.EqAt.int_str a t' b t
    | _ => exact absurd (show false = true from fx) Bool.false_ne_true
  | str a =>
    obtain ⟨t', rfl⟩ := ry
    cases x with
    | non => cases rx; exact SeqAt.EqAt.str_none a t'
    | bl b => cases rx; exact SeqAt.EqAt.str_bool a t' b
    | int b => obtain ⟨t, rfl⟩ := rx; exact SeqAt.EqAt.str_int a t' b t
    | str b => obtain ⟨t, rfl⟩ := rx; exact SeqAt.EqAt.str_str a t' b t
    | _ => exact absurd (show false = true from fx) Bool.false_ne_true
  | _ => exact absurd (show false = true from fy) Bool.false_ne_true
/-- the items' answers, read off the values (a value's own answer does not lean on its token) -/
def eqU (x : V) (u : Value) : Bool := match u with
  | .none => eqV .non x
  | .bool b => eqV (.bl b) x
  | .int i _ => eqV (.int i) x
  | .str z _ => eqV (.str z) x
  | _ => false
theorem eqU_of {x y : V} {u : Value} (r : RelV y u) (f : flatV y = true) : eqU x u = eqV y x := by
  cases y with
  | non => cases r; rfl
  | bl b => cases r; rfl
  | int i => obtain ⟨t, rfl⟩ := r; rfl
  | str z => obtain ⟨t, rfl⟩ := r; rfl
  | _ => exact absurd (show false = true from f) Bool.false_ne_true
theorem any_eqU {x : V} : ∀ {xs : List V} {us : List Value}, Vals xs us → xs.all flatV = true → us.any (eqU x) = xs.any fun y => eqV y x
  | _, _, .nil, _ => rfl
  | y :: xs, u :: us, .cons r t, f => by
    rw [List.all_cons, Bool.and_eq_true] at f
    rw [List.any_cons, List.any_cons, eqU_of r f.1, any_eqU t f.2]
theorem mem_eqAt {A : Around} {s : Shared} {x : V} {v : Value} (rx : RelV x v) (fx : flatV x = true) : ∀ {xs : List V} {us : List Value}, Vals xs us → xs.all flatV = true → ∀ u ∈ us, SeqAt.EqAt A s u v (eqU x u)
  | _, _, .nil, _ => fun u hu => by cases hu
  | y :: xs, u :: us, .cons r t, f => fun u' hu => by
    rw [List.all_cons, Bool.and_eq_true] at f
    rcases List.mem_cons.mp hu with rfl | hu
    · rw [eqU_of r f.1]; exact eqAt_V r rx f.1 fx
    · exact mem_eqAt rx fx t f.2 u' hu
def inV (x : V) (xs : List V) : Bool := xs.any fun y => eqV y x
/-- x in a list or tuple of flat items -/
inductive rIn (K : PySem.W.Frag) (neg : Bool) (x : V) (y : V) (H : Hp) (Q : VK) : Prop
  | mk (p : _) (xs : _) (h1 : y = .ref p) (h2 : (SqL K H p xs ∨ SqT K H p xs)) (h3 : flatV x = true) (h4 : xs.all flatV = true) (h5 : Q (.bl (if neg then !inV x xs else inV x xs)) H) : rIn K neg x y H Q
theorem op_notIn_seq : OpR X (compareOp .NotIn) (rIn X.K true) := by
  intro pins s σ H x y v u Q I rx ry h
  obtain ⟨p, xs, rfl, hq, fx, fs, q⟩ := h
  cases ry
  rcases hq with hq | hq
  · obtain ⟨its, r, pl, hz⟩ := I.list hq
    refine SeqAt.notIn_listAt (eqU x) pl.isList (fun w hw => mem_eqAt rx fx r fs w (by simpa using hw)) ⟨.bl _, H, I, rfl, ?_⟩
    rw [show its.toArray.any (eqU x) = its.any (eqU x) by simp, any_eqU r fs]
    exact q
  · obtain ⟨its, r, pl, hz⟩ := I.tuple hq
    refine SeqAt.notIn_tupleAt (eqU x) pl (fun w hw => mem_eqAt rx fx r fs w (by simpa using hw)) ⟨.bl _, H, I, rfl, ?_⟩
    rw [show its.toArray.any (eqU x) = its.any (eqU x) by simp, any_eqU r fs]
    exact q
/-! ### len, list(x), tuple(x) of any list or tuple that is read -/
theorem call_len_seq : CallR X (.builtin "len") (fun xs H Q => ∃ p ys, xs = [.ref p] ∧ (SqL X.K H p ys ∨ SqT X.K H p ys) ∧ Q (.int ys.length) H) := by
  intro pins s σ H xs us Q I r h
  obtain ⟨p, ys, rfl, hq, q⟩ := h
  obtain ⟨u, rfl, rx⟩ := vals1 r
  cases rx
  have hn := line63
  rcases hq with hq | hq
  · obtain ⟨its, r', pl, hz⟩ := I.list hq
    have hlen := r'.length
    exact Calls.call_len_list pl.isList (by simp only [List.size_toArray] <;> lia) ⟨.int ys.length, H, I.tok _, ⟨s.toks + 1, by rw [List.size_toArray, hlen]⟩, q⟩
  · obtain ⟨its, r', pl, hz⟩ := I.tuple hq
    have hlen := r'.length
    exact len_tuple pl (by simp only [List.size_toArray] <;> lia) ⟨.int ys.length, H, I.tok _, ⟨s.toks + 1, by rw [List.size_toArray, hlen]⟩, q⟩
theorem call_list_of : CallR X (.type "list") (fun xs H Q => ∃ p ys, xs = [.ref p] ∧ (SqL X.K H p ys ∨ SqT X.K H p ys) ∧ ∀ l, H l = none → Q (.ref l) (upd H l (.lst ys))) := by
  intro pins s σ H xs us Q I r h
  obtain ⟨p, ys, rfl, hq, q⟩ := h
  obtain ⟨u, rfl, rx⟩ := vals1 r
  cases rx
  have fin : ∀ (its : List Value), Vals ys its → ys.length ≤ sizeLine → ∀ (h' : Heap) (c' : Nat), (∀ b o', s.heap.get? b = some o' → h'.get? b = some o') →
      h'.get? s.heap.objs.size = some { cls := .type "list", dict := none, data := .seq its.toArray c', slots := #[] } → EP X pins σ Q (.ref s.heap.objs.size) { s with heap := h' } := fun its r' hz h' c' kp e =>
    ⟨.ref s.heap.objs.size, _, I.laid (t' := s.toks) kp (Nat.le_refl _) (show ObjOk X.prog X.w _ h' _ (.lst ys) from ⟨hz, its, c', r', e⟩), rfl, q _ (I.hok.fresh (Nat.le_refl _))⟩
  rcases hq with hq | hq
  · obtain ⟨its, r', pl, hz⟩ := I.list hq
    have hlen := r'.length
    obtain ⟨o, ho, hc, n, hd⟩ := pl.isList
    exact call_list_seq p (.inl rfl) ho hc hd (fun h' c' kp e => fin its r' hz h' c' kp e) (by simp only [List.size_toArray] <;> lia)
  · obtain ⟨its, r', pl, hz⟩ := I.tuple hq
    have hlen := r'.length
    obtain ⟨o, ho, hc, n, hd⟩ := pl
    exact call_list_seq p (.inr rfl) ho hc hd (fun h' c' kp e => fin its r' hz h' c' kp e) (by simp only [List.size_toArray] <;> lia)
theorem call_tuple_of : CallR X (.type "tuple") (fun xs H Q => ∃ p ys, xs = [.ref p] ∧ ((SqL X.K H p ys ∧ ∀ l, H l = none → Q (.ref l) (upd H l (.tup ys))) ∨ (SqT X.K H p ys ∧ Q (.ref p) H))) := by
  intro pins s σ H xs us Q I r h
  obtain ⟨p, ys, rfl, h⟩ := h
  obtain ⟨u, rfl, rx⟩ := vals1 r
  cases rx
  rcases h with ⟨hq, q⟩ | ⟨hq, q⟩
  · obtain ⟨its, r', pl, hz⟩ := I.list hq
    have hlen := r'.length
    refine call_tuple_list pl.isList (fun h' kp => ?_) (by simp only [List.size_toArray] <;> lia)
    have I1 : Inv X pins σ H { s with heap := h' } := I.kept (t' := s.toks) kp
    have I2 : Inv X pins σ (upd H h'.objs.size (.tup ys)) { s with heap := h'.push { cls := .type "tuple", data := .seq its.toArray } } :=
      I1.laid (t' := s.toks) (fun b o e => Heap.get?_push_of_some _ e) (Nat.le_refl _) (show ObjOk X.prog X.w _ _ _ (.tup ys) from ⟨hz, its, r', IsTup.new _ _⟩)
    exact ⟨.ref h'.objs.size, _, I2, rfl, q _ (I1.hok.fresh (Nat.le_refl _))⟩
  · obtain ⟨its, r', pl, hz⟩ := I.tuple hq
    exact call_tuple_same pl ⟨.ref p, H, I, rfl, q⟩

/-! ### the call of a builtin's method: o.m(..) -/
/-- the value is of that builtin type -/
def tyV (K : PySem.W.Frag) (T : String) (x : V) (H : Hp) : Prop := match x with
  | .str _ => T = "str"
  | .int _ => T = "int"
  | .ref p => (T = "list" ∧ ∃ xs, SqL K H p xs) ∨ (T = "tuple" ∧ ∃ o, K.lookup p = some o ∧ o.cls = .type "tuple" ∧ o.dict = none) ∨
      (T = "dict" ∧ ((∃ kvs, H p = some (.dK kvs)) ∨ ∃ kvs, H p = some (.dT kvs))) ∨ (T = "set" ∧ ∃ S n, H p = some (.set S n))
  | _ => False
theorem tyV_is {pins : List (Addr × Obj)} {σ : St} {H : Hp} {s : Shared} {T : String} {x : V} {v : Value} (I : Inv X pins σ H s) (r : RelV x v) (ty : tyV X.K T x H) :
    s.TypeIs v T ∧ ∀ a, v = .ref a → ∃ ob, s.heap.get? a = some ob ∧ ob.dict = none := by
  cases x with
  | str z =>
    obtain ⟨t, rfl⟩ := r
    cases (show T = "str" from ty)
    exact ⟨typeIs_str s z t, fun _ e => nomatch e⟩
  | int i =>
    obtain ⟨t, rfl⟩ := r
    cases (show T = "int" from ty)
    exact ⟨typeIs_int s i t, fun _ e => nomatch e⟩
  | ref p =>
    cases r
    rcases ty with ⟨rfl, xs, hq⟩ | ⟨rfl, o, hk, hc, hd⟩ | ⟨rfl, hk⟩ | ⟨rfl, S, n, hk⟩
    · obtain ⟨its, _, pl, _⟩ := I.list hq
      refine ⟨pl.isList.typeIs, fun a e => ?_⟩
      cases e
      obtain ⟨o, n, e, c, hd, _⟩ := pl
      exact ⟨o, e, hd⟩
    · refine ⟨⟨o, I.kIn p o hk, hc⟩, fun a e => ?_⟩
      cases e
      exact ⟨o, I.kIn _ o hk, hd⟩
    · have z : ∃ o, s.heap.get? p = some o ∧ o.ExactDict := by
        rcases hk with ⟨kvs, hk⟩ | ⟨kvs, hk⟩
        · obtain ⟨_, _, _, _, o, _, _, e, ex, _⟩ := I.hok p _ hk
          exact ⟨o, e, ex⟩
        · obtain ⟨_, _, _, _, o, _, _, e, ex, _⟩ := I.hok p _ hk
          exact ⟨o, e, ex⟩
      obtain ⟨o, e, ex⟩ := z
      refine ⟨⟨o, e, ex.1⟩, fun a e2 => ?_⟩
      cases e2
      exact ⟨o, e, ex.2.1⟩
    · obtain ⟨o, _, _, _, e, ex, _⟩ := I.hok p _ hk
      refine ⟨⟨o, e, ex.1⟩, fun a e2 => ?_⟩
      cases e2
      exact ⟨o, e, ex.2.1⟩
  | _ => exact False.elim ty
def tBM0 (K : PySem.W.Frag) (T : String) (r : V → List V → Hp → VK → Prop) (to : TE) : TE := fun σ H Q => to σ H fun x H1 => tyV K T x H1 ∧ r x [] H1 Q
def tBM (K : PySem.W.Frag) (T : String) (r : V → List V → Hp → VK → Prop) (to : TE) (t : TA) : TE := fun σ H Q => to σ H fun x H1 => tyV K T x H1 ∧ t σ H1 fun xs H2 => r x xs H2 Q
variable {o e : Expr} {es : List Expr} {to : TE} {t : TA} {name : Str} {apos cpos : Pos} {T id : String} {r : V → List V → Hp → VK → Prop}
theorem pe_bm0 (pa : PlainAttrs T) (slot : Slot T name id) (hty : typeOf (.builtin id) = pure (.type "method_descriptor")) (hm : MtR X id r) (ho : PE X o to)
    (hbase : attributeBase o name X.env (eval o X.env) = eval o X.env := by rfl) (hline : (apos.endLine == cpos.line) = true := by rfl) {K : PySem.W.Frag} (eK : X.K = K := by rfl) : PE X (.Call (.Attribute o name apos) [] [] cpos) (tBM0 K T r to) := by
  subst eK
  intro pins s σ H Q I h
  refine wpAny_Call_method0_late hbase hline (thn (ho pins s σ H _ I h) fun v s1 ⟨x, H1, I1, r1, ty, q1⟩ => ?_)
  obtain ⟨h1, h2⟩ := tyV_is I1 r1 ty
  exact ⟨T, id, pa, slot, hty, h1, h2, Calls.callWith_builtin rfl (PySem.evalArgs_none (hm pins s1 σ H1 x [] v [] Q I1 r1 .nil q1))⟩
theorem pe_bm (pa : PlainAttrs T) (slot : Slot T name id) (hty : typeOf (.builtin id) = pure (.type "method_descriptor")) (hm : MtR X id r) (ho : PE X o to) (ha : PA X (e :: es) t)
    (hbase : attributeBase o name X.env (eval o X.env) = eval o X.env := by rfl)
    (hfew : ((backTo cpos (starEach (e :: es) X.env)).all (fun x => !x.1) && (backToKw cpos (keywordEach [] X.env)).all (fun x => x.1.isSome)
      && decide ((e :: es).length + ([] : List Keyword).length + (if ([] : List Keyword).isEmpty then 0 else 1) < 30)) = true := by rfl)
    (hline : (apos.endLine == cpos.line) = true := by rfl) (hs : starEach (e :: es) X.env = (false, eval e X.env) :: starEach es X.env := by rfl) (hplain : (backTo cpos (starEach es X.env)).any (·.1) = false := by rfl) {K : PySem.W.Frag} (eK : X.K = K := by rfl) :
    PE X (.Call (.Attribute o name apos) (e :: es) [] cpos) (tBM K T r to t) := by
  subst eK
  intro pins s σ H Q I h
  refine wpAny_Call_method_late hbase hfew hline rfl (thn (ho pins s σ H _ I h) fun v s1 ⟨x, H1, I1, r1, ty, q1⟩ => ?_)
  obtain ⟨h1, h2⟩ := tyV_is I1 r1 ty
  refine ⟨T, id, pa, slot, hty, h1, h2, ?_⟩
  have hA := ha cpos pins s1 σ H1 _ I1 q1
  rw [hs] at hA ⊢
  refine Calls.callWith_builtin (by show (false || (backTo cpos (starEach es X.env)).any (·.1)) = false; rw [hplain] <;> rfl) (Calls.evalArgs_plain ?_)
  exact thn hA fun us s2 ⟨vs, H2, I2, r2, q2⟩ => hm pins s2 σ H2 x vs v us Q I2 r1 r2 q2
/- xs.append(e), list.index on a module's tuple .. are MtR facts of 06m -/
end
end L2

namespace L2
open PySem PySem.Spec PyProof.Rows

def MtM (X : Cx) (id : String) (r : V → List V → Hp → VK → Prop) : Prop :=
  ∀ (pins : List (Addr × Obj)) (s : Shared) (σ : St) (H : Hp) (x : V) (xs : List V) (v : Value) (us : List Value) (Q : VK), Inv X pins σ H s → RelV x v → Vals xs us → r x xs H Q →
    wpAny (model X.prog X.w) X.A (call (.builtin id) (v :: us)) (EP X pins σ Q) X.xe s

/-! ### lists of values -/
theorem Vals.one {x : V} {us : List Value} (h : Vals [x] us) : ∃ u, us = [u] ∧ RelV x u := by
  cases h with
  | cons r t => cases t; exact ⟨_, rfl, r⟩
theorem Vals.zero : ∀ {us : List Value}, Vals [] us → us = []
  | _, .nil => rfl
theorem Vals.reverse {xs : List V} {us : List Value} (h : Vals xs us) : Vals xs.reverse us.reverse := by
  induction h with
  | nil => exact .nil
  | cons r t ih => rw [List.reverse_cons, List.reverse_cons]; exact Vals.append ih (.cons r .nil)
theorem Vals.rep {xs : List V} {us : List Value} (h : Vals xs us) : ∀ k : Nat, Vals (List.replicate k xs).flatten (List.replicate k us).flatten
  | 0 => .nil
  | k + 1 => by
    rw [List.replicate_succ, List.replicate_succ, List.flatten_cons, List.flatten_cons]
    exact Vals.append h (Vals.rep h k)
theorem foldl_rep (its : List Value) : ∀ (k : Nat) (acc : List Value),
    List.foldl (fun x1 x2 => x1 ++ x2) acc.toArray (List.replicate k its.toArray) = (acc ++ (List.replicate k its).flatten).toArray
  | 0, acc => by simp
  | k + 1, acc => by
    have e : acc.toArray ++ its.toArray = (acc ++ its).toArray := by simp
    have e2 : (acc ++ its) ++ (List.replicate k its).flatten = acc ++ (List.replicate (k + 1) its).flatten := by
      rw [List.replicate_succ, List.flatten_cons, List.append_assoc]
    rw [← e2, ← foldl_rep its k (acc ++ its), ← e, List.replicate_succ, List.foldl_cons]

section
variable {X : Cx} {pins : List (Addr × Obj)} {σ : St} {H : Hp} {s : Shared} {l b : Addr} {xs ys zs : List V}

/-! ### the two steps: a tracked list is rewritten, a new list is laid -/
theorem Inv.lset {its its' : List Value} {n : Nat} {f : Array Value → Array Value} {t' : Nat} (I : Inv X pins σ H s) (hH : H l = some (.lst xs))
    (e : s.heap.get? l = some { cls := .type "list", data := .seq its.toArray n }) (hf : f its.toArray = its'.toArray) (hv : Vals ys its') (hz : ys.length ≤ sizeLine) :
    Inv X pins σ (upd H l (.lst ys)) { s with heap := s.heap.update l (Obj.mapSeq f), toks := t' } := by
  have q := PySem.IsL.update e f
  rw [hf] at q
  refine I.write (x := l) (e := l) (by rw [hH]; exact trivial) (.inl rfl) (fun b' u hb hu => (Heap.get?_update_other s.heap (Obj.mapSeq f) (Ne.symm hb)).trans hu) ⟨_, q⟩ ?_
  exact ⟨hz, its', _, hv, q⟩
theorem Inv.lnew {its : List Value} {t' : Nat} (I : Inv X pins σ H s) (hv : Vals ys its) (hz : ys.length ≤ sizeLine) :
    Inv X pins σ (upd H s.heap.objs.size (.lst ys)) { s with heap := s.heap.push { cls := .type "list", data := .seq its.toArray }, toks := t' } :=
  I.laid (fun _ _ q => Heap.get?_push_of_some _ q) (Nat.le_refl _) ⟨hz, its, 0, hv, Heap.get?_push_size _ rfl⟩
theorem Inv.fresh (I : Inv X pins σ H s) : H s.heap.objs.size = none := I.hok.fresh (Nat.le_refl _)
theorem Inv.lstM (I : Inv X pins σ H s) (hH : H l = some (.lst xs)) : xs.length ≤ sizeLine ∧ ∃ (its : List Value) (n : Nat), Vals xs its ∧ xs.length = its.length ∧ s.heap.get? l = some { cls := .type "list", data := .seq its.toArray n } := by
  obtain ⟨z, its, n, r, e⟩ := I.hok l _ hH
  exact ⟨z, its, n, r, r.length, e⟩

theorem notLongL {n : Nat} (h : n ≤ sizeLine) : Builtin.List.listTooLong n = false := by
  unfold Builtin.List.listTooLong
  exact decide_eq_false (by lia)
end

section
variable {X : Cx}

/-! ### methods -/
inductive rAppend (x : V) (vs : List V) (H : Hp) (Q : VK) : Prop
  | mk (l : _) (xs : _) (y : _) (h1 : x = .ref l) (h2 : vs = [y]) (h3 : H l = some (.lst xs)) (h4 : xs.length < sizeLine) (h5 : Q .non (upd H l (.lst (xs ++ [y])))) : rAppend x vs H Q
theorem mt_append : MtM X "list.append" rAppend := by
  intro pins s σ H x vs v us Q I rx rv h
  obtain ⟨l, xs, y, rfl, rfl, hH, hz, q⟩ := h
  cases rx
  obtain ⟨u, rfl, ru⟩ := rv.one
  obtain ⟨z, its, n, r, hl, e⟩ := I.lstM hH
  refine call_meets F.slot_list_append ⟨_, e, rfl⟩ F.entry_list_append (F.args_list_append_2 _ _) (PySem.list_append l its.toArray n u (by rw [List.size_toArray]; lia)) ⟨e, ?_⟩
  refine ⟨.non, _, I.lset (its' := its ++ [u]) hH e (by simp) (r.append (.cons ru .nil)) ?_, rfl, q⟩
  rw [List.length_append, List.length_singleton]
  lia

inductive rExtend (x : V) (vs : List V) (H : Hp) (Q : VK) : Prop
  | mk (l : _) (b : _) (xs : _) (zs : _) (h1 : x = .ref l) (h2 : vs = [.ref b]) (h3 : H l = some (.lst xs)) (h4 : H b = some (.lst zs)) (h5 : xs.length + zs.length ≤ sizeLine) (h6 : Q .non (upd H l (.lst (xs ++ zs)))) : rExtend x vs H Q
theorem mt_extend : MtM X "list.extend" rExtend := by
  intro pins s σ H x vs v us Q I rx rv h
  obtain ⟨l, b, xs, zs, rfl, rfl, hH, hB, hz, q⟩ := h
  cases rx
  obtain ⟨u, rfl, ru⟩ := rv.one
  cases ru
  obtain ⟨z, its, n, r, hl, e⟩ := I.lstM hH
  obtain ⟨z2, its2, n2, r2, hl2, e2⟩ := I.lstM hB
  have hsz : its.toArray.size + its2.toArray.size ≤ sizeLine := by rw [List.size_toArray, List.size_toArray]; lia
  have hlong : ¬ (!its.toArray.isEmpty && Builtin.List.listTooLong (its.toArray.size + its2.toArray.size)) = true := by
    rw [notLongL hsz, Bool.and_false]
    exact Bool.false_ne_true
  refine call_meets F.slot_list_extend ⟨_, e, rfl⟩ F.entry_list_extend (F.args_list_extend_2 _ _)
    (AutoSeq1.list_extend_list_list_0 l its.toArray n b its2.toArray n2 hlong (by rw [List.size_toArray]; lia) (by lia)) ⟨e, e2, ?_⟩
  refine ⟨.non, _, I.lset (its' := its ++ its2) hH e (by simp) (r.append r2) ?_, rfl, q⟩
  rw [List.length_append]
  lia

inductive rReverse (x : V) (vs : List V) (H : Hp) (Q : VK) : Prop
  | mk (l : _) (xs : _) (h1 : x = .ref l) (h2 : vs = []) (h3 : H l = some (.lst xs)) (h4 : Q .non (upd H l (.lst xs.reverse))) : rReverse x vs H Q
theorem mt_reverse : MtM X "list.reverse" rReverse := by
  intro pins s σ H x vs v us Q I rx rv h
  obtain ⟨l, xs, rfl, rfl, hH, q⟩ := h
  cases rx
  have hus := rv.zero
  subst hus
  obtain ⟨z, its, n, r, hl, e⟩ := I.lstM hH
  refine call_meets F.slot_list_reverse ⟨_, e, rfl⟩ F.entry_list_reverse (F.args_list_reverse_1 _) (AutoSeq1.list_reverse_list_0 l its.toArray n (by rw [List.size_toArray]; lia)) ⟨e, ?_⟩
  refine ⟨.non, _, I.lset (its' := its.reverse) hH e (by simp) r.reverse ?_, rfl, q⟩
  rw [List.length_reverse]
  lia

/-! ### list + list, list += list, list * int -/
inductive rCat (x : V) (y : V) (H : Hp) (Q : VK) : Prop
  | mk (l : _) (b : _) (xs : _) (zs : _) (h1 : x = .ref l) (h2 : y = .ref b) (h3 : H l = some (.lst xs)) (h4 : H b = some (.lst zs)) (h5 : xs.length + zs.length ≤ sizeLine) (h6 : ∀ p, H p = none → Q (.ref p) (upd H p (.lst (xs ++ zs)))) : rCat x y H Q
theorem op_cat : OpR X (binaryOp .Add) rCat := by
  intro pins s σ H x y v u Q I rx ry h
  obtain ⟨l, b, xs, zs, rfl, rfl, hH, hB, hz, q⟩ := h
  cases rx
  cases ry
  obtain ⟨z, its, n, r, hl, e⟩ := I.lstM hH
  obtain ⟨z2, its2, n2, r2, hl2, e2⟩ := I.lstM hB
  refine PySem.P.add_list e e2 ?_ (by rw [List.size_toArray, List.size_toArray]; lia)
  have ea : its.toArray ++ its2.toArray = (its ++ its2).toArray := by simp
  rw [ea]
  exact ⟨.ref _, _, I.lnew (t' := s.toks) (r.append r2) (by rw [List.length_append]; lia), rfl, q _ I.fresh⟩
/-- a list times an int (a negative one is nothing) -/
inductive rRep (x : V) (y : V) (H : Hp) (Q : VK) : Prop
  | mk (l : _) (k : _) (xs : _) (h1 : x = .ref l) (h2 : y = .int k) (h3 : H l = some (.lst xs)) (h4 : -(2 ^ 63) ≤ k) (h5 : k < 2 ^ 63) (h6 : xs.length * k.toNat ≤ sizeLine) (h7 : ∀ p, H p = none → Q (.ref p) (upd H p (.lst (List.replicate k.toNat xs).flatten))) : rRep x y H Q
theorem len_rep {α : Type} (xs : List α) (k : Nat) : (List.replicate k xs).flatten.length = k * xs.length := by
  induction k with
  | zero => simp
  | succ k ih => rw [List.replicate_succ, List.flatten_cons, List.length_append, ih, Nat.succ_mul, Nat.add_comm]
theorem op_rep : OpR X (binaryOp .Mult) rRep := by
  intro pins s σ H x y v u Q I rx ry h
  obtain ⟨l, k, xs, rfl, rfl, hH, h1, h2, hz, q⟩ := h
  cases rx
  obtain ⟨t, rfl⟩ := ry
  obtain ⟨z, its, n, r, hl, e⟩ := I.lstM hH
  have hlen : its.toArray.size * k.toNat ≤ sizeLine := by rw [List.size_toArray, ← hl]; exact hz
  have hcap : ¬ its.toArray.size * k.toNat > (2 ^ 63 - 1) / 8 := by
    have : (sizeLine : Nat) ≤ (2 ^ 63 - 1) / 8 := by decide
    lia
  have hfit : ¬ (!Builtin.List.listFitsIndex k) = true := by
    rw [fitsIndex_both h1 h2]
    exact Bool.false_ne_true
  have hlong : ¬ Builtin.List.listTooLong (its.toArray.size * k.toNat) = true := by
    rw [notLongL hlen]
    exact Bool.false_ne_true
  have hnew : List.foldl (fun x1 x2 => x1 ++ x2) #[] (List.replicate (if its.toArray.isEmpty = true then 0 else k.toNat) its.toArray) = (List.replicate k.toNat its).flatten.toArray := by
    have f0 : ∀ m : Nat, List.foldl (fun x1 x2 => x1 ++ x2) #[] (List.replicate m its.toArray) = (List.replicate m its).flatten.toArray := fun m => by
      have := foldl_rep its m []
      rw [List.nil_append] at this
      exact this
    rw [f0]
    cases its with
    | nil => simp
    | cons a r' => rw [if_neg (by simp)]
  refine wpAny_binaryOp_repeat_ref (T := "list") (U := "int") (by decide) ⟨_, e, rfl⟩ (fun s' => typeIs_int s' k t) noFill_list_mul F.fills_int_mul F.slot_int_rmul repeat_list F.slot_int_index.lookup
    (call_meets F.slot_int_rmul (typeIs_int s k t) F.entry_int_rmul (F.args_int_rmul_2 _ _) (int___rmul___int_list k t l its.toArray n)
      ⟨e, rfl, ⟨_, e, rfl⟩, call_meets F.slot_list_mul ⟨_, e, rfl⟩ F.entry_list_mul (F.args_list_mul_2 _ _) (AutoListH.list___mul___list_int_3 l its.toArray n k t hfit hcap hlong) ⟨e, ?_⟩⟩)
  rw [hnew]
  exact ⟨.ref _, _, I.lnew (t' := s.toks) (r.rep k.toNat) (by rw [len_rep, Nat.mul_comm]; exact hz), rfl, q _ I.fresh⟩

/-! ### del xs[i] -/
end

/-! ### xs[a:b] = ys -/
section
variable {prog : Program} {w : World} {A : Around} {E : Value → Shared → Prop} {s : Shared}
set_option maxRecDepth 100000 in
end

section
variable {X : Cx}
end
end L2

namespace Att
open PySem PySem.W PySem.Calls PyProof.Rows

/-! ### the script -/
theorem ints_of_wellAll {P : Params} {h : Heap} : ∀ (ns : List Int) (vs : List Value), WellAll P h vs (ns.map WData.int) → IntsAre vs ns := by
  intro ns
  induction ns with
  | nil =>
    intro vs w
    rw [List.map_nil] at w
    cases w
    exact .nil
  | cons n ns ih =>
    intro vs w
    rw [List.map_cons] at w
    cases w with
    | cons a b =>
      cases a
      exact .cons _ _ (ih _ b)

theorem script_of {l : OpenLaw} {n : Nat} (hn : l.most = some n) {P : Params} {h : Heap} {args : List WData} {vals : List Value}
    (hpre : l.row.toRowW.claim.pre args = true) (hwl : WellAll P h vals args) :
    ∃ a vs ns, vals = [Value.ref a] ∧ args = [WData.list (ns.map WData.int)] ∧ h.get? a = some { cls := .type "list", data := .seq vs.toArray } ∧ IntsAre vs ns ∧ ns.length ≤ n := by
  have hsh : WShape.hasAll [] args [.list .int] = true := (pre_splitW hpre).1
  have hc : l.pre.holds [] { args := args } = true := (pre_splitW hpre).2
  obtain ⟨d, r, rfl, h1, h2⟩ := hasAllW_cons hsh
  obtain rfl := hasAllW_nil h2
  obtain ⟨xs, rfl, h3⟩ := hasW_list h1
  obtain ⟨ns, rfl⟩ := items_int h3
  have hlen : ns.length ≤ n := by
    unfold OpenLaw.pre at hc
    have h4 : (WTm.not (.lt (.lit (.int (n : Int))) (.len (.arg 0)))).holds [] { args := [.list (ns.map .int)] } = true := by
      have h4 := (holds_andW hc).1
      rw [hn] at h4
      exact h4
    have h5 := condW_of h4 (w_not (w_lt w_lit (w_len_list (w_arg rfl))))
    rw [List.length_map] at h5
    refine Nat.le_of_not_lt fun q => ?_
    have q' : (n : Int) < ((ns.length : Nat) : Int) := by lia
    first
      | (rw [decide_eq_true q'] at h5; exact absurd h5 (by decide))
      | (simp at h5; lia)
  cases hwl with
  | cons w1 w2 =>
    cases w2
    cases w1 with
    | list ho hall => exact ⟨_, _, ns, rfl, rfl, ho, ints_of_wellAll ns _ hall, hlen⟩

theorem post_true (l : OpenLaw) (args : List WData) : l.row.toRowW.claim.post args (.bool true) args = true :=
  postW_of (r := l.row.toRowW) (X := (true == true))
    (show WShape.has [] (.bool true) .bool = true by first | rfl | decide | simp [WShape.has, WShape.arms, WShape.armsAll])
    (show (WTm.eq .res (.lit (.bool true))).value [] { args := args, res := some (.bool true), after := args } = some (.bool (true == true)) from w_eq_bool (w_res rfl) w_lit) rfl

/-! ### the attachment: holds_open's last premise (the goal 'hc' behind k_head) from a wpAny of the law's body -/
/-- the same from a codeAny of the CALL (for a layer whose function contracts speak of calls) -/
theorem attach_call {l : OpenLaw} {n : Nat} {q : Program} {loose : List Str} {XP : (Str → Option Value) → Heap → Prop} {YP : World → Heap → Prop} {d : DefRec}
    (hn : l.most = some n) (hdf : d.params.defaults = [])
    (call : ∀ (w : World) (s₀ s₁ : Shared) (mg mb : Str → Option Value) (fa : Addr) (o : Obj) (pm cd doc : Value) (a : Addr) (vs : List Value) (ns : List Int),
      Ground q loose [] XP w s₀ mg mb s₁.heap → YP w s₁.heap →
      s₁.heap.get? fa = some o → o.data = .func (docDef d.name d.params d.body d.scope pm cd doc) → s₁.heap.CodeRec cd d.name → mg d.name = some (.ref fa) →
      s₁.heap.get? a = some { cls := .type "list", data := .seq vs.toArray } → IntsAre vs ns → ns.length ≤ n → s₁.gens = #[] →
      codeAny (model l.prog w) callerA (.call (.ref fa) ⟨[.ref a], []⟩) (fun r s' => r = .ok (.ret (.bool true)) ∧ OldK s₁.heap s'.heap ∧ s'.os = s₁.os ∧ AllBare s'.gens) s₁) :
    WalkO q loose XP YP l.row.toRowW d [] (fun f vs => PySem.call f vs) := by
  intro w s₀ s₁ mg mb G Y fa o pm cd doc dV kV ho hd hcd hD hmg hg args vals as hpre hlay hrd hwl hlo
  obtain rfl : dV = .none := Dflts.none hD hdf
  obtain rfl : kV = .none := Dflts.noKw hD
  obtain ⟨a, vs, ns, rfl, rfl, hobj, hints, hlen⟩ := script_of hn hpre hwl
  refine enter_call (codeAny_mono (call w s₀ s₁ mg mb fa o pm cd doc a vs ns G Y ho (fd_plain hd) hcd hmg hobj hints hlen hg) fun r s' hq => ?_)
  obtain ⟨rfl, h2, h3, h4⟩ := hq
  exact ⟨.inl ⟨.bool true, .bool true, [], rfl, fun _ => rfl, .bool true, post_true l _, fun _ => ⟨List.Pairwise.nil, fun _ hm => (nomatch hm)⟩⟩, h2, h3, h4⟩

/-! ### rules over ANY heap (no ledger) from facts about the written part K: the library's own take a ledger (News) for what they write -/
section
variable {prog : Program} {w : World} {A : Around} {E : Value → Shared → Prop} {s : Shared} {K : Frag}

/-! the whole heap as the ledger: makes every rule that writes through a ledger a rule over any heap -/
def ledger (h : Heap) (L d : Addr) : List (Addr × Obj) := (List.range h.objs.size).filterMap fun a => if a = L ∨ a = d then none else (h.get? a).map fun o => (a, o)
end
end Att

namespace L2
open PySem PySem.Spec PyProof.Rows

theorem vals_ints {vs : List Value} {ns : List Int} (h : IntsAre vs ns) : Vals (ns.map V.int) vs := by
  induction h with
  | nil => exact .nil
  | cons n t h ih => exact .cons ⟨t, rfl⟩ ih

/-- nothing is tracked but the script, known to the object (or it is an object of the module) -/
def Only (H : Hp) : Prop := ∀ b, H b = none ∨ ∃ o xs, H b = some (.frz o (.lst xs))

/-- THE HEAD: the law's promise, at the heap behind the top. F, the promise of the law's def, may use that base is part of the heap (so K.In base, base.Ns mainGlobals mg stand in Mod) -/
theorem law_call {P : Program} {w : World} {K : PySem.W.Frag} {mg mb : Str → Option Value} {CX : CXT} {k : Nat} {fa a : Addr} {fd : FuncData} {x : Str} {sp : Sp} {s₁ : Shared} {vs : List Value} {ns : List Int}
    (KX : K.In s₁.heap) (hns : s₁.heap.Ns mainGlobals mg) (hb : s₁.heap.Ns builtinsNs mb) (hbb : ∀ x : Str, x ≠ "__name__" → mb x = bootBuiltins x) (hlim : s₁.heap.NoLimit) (hsee : s₁.heap.NoSeer) (hg : s₁.gens = #[])
    (ha : s₁.heap.get? a = some { cls := .type "list", data := .seq vs.toArray }) (hi : IntsAre vs ns) (hl : ns.length ≤ sizeLine) (hr : Room k callerA)
    (F : ∀ base : Heap, K.In base → base.Ns mainGlobals mg → FnOk P w K mg base CX k fa fd [x] sp) (hbind : ∀ (s : Shared) (u : Value), BindsTo s fd ⟨[u], []⟩ [(x, u)])
    (hsp : ∀ H : Hp, Only H → SqL K H a (ns.map V.int) → sp [.ref a] H (fun v _ => v = .bl true) fun _ _ _ => False)
    (hCX : ∀ H e s', CX [] H s₁ (fun _ _ _ => False) e s' → False) :
    codeAny (model P w) callerA (.call (.ref fa) ⟨[.ref a], []⟩) (fun r s' => r = .ok (.ret (.bool true)) ∧ OldK s₁.heap s'.heap ∧ s'.os = s₁.os ∧ AllBare s'.gens) s₁ := by
  have rv := vals_ints hi
  have lenV := hi.length
  -- from an abstract heap in which nothing but the script may be tracked
  have core : ∀ H : Hp, Only H → SqL K H a (ns.map V.int) → HOk P w H s₁.heap → (∀ b, H b ≠ none → b = a) → (H a ≠ none → K.lookup a = none) →
      codeAny (model P w) callerA (.call (.ref fa) ⟨[.ref a], []⟩) (fun r s' => r = .ok (.ret (.bool true)) ∧ OldK s₁.heap s'.heap ∧ s'.os = s₁.os ∧ AllBare s'.gens) s₁ := by
    intro H hO hS hok hA hK
    have base_of : ∀ {b : Addr} {o : Obj}, s₁.heap.get? b = some o → H b = none → (hidT s₁.heap H).get? b = some o := fun e n => hidT_get e n
    have noA : ∀ {b : Addr} {o : Obj} {es : Array DictEntry} {ep : Nat}, s₁.heap.get? b = some o → o.data = .dict es ep → H b = none := fun {b o es ep} e d => by
      cases q : H b with
      | none => rfl
      | some u =>
        have e' : b = a := hA b (by rw [q]; simp)
        subst e'
        rw [ha] at e; cases e
        have d' : Data.seq vs.toArray _ = Data.dict es ep := d
        cases d'
    have nsK : ∀ {b : Addr} {m : Str → Option Value}, s₁.heap.Ns b m → (hidT s₁.heap H).Ns b m := fun {b m} ⟨o, es, ep, e, d, r⟩ => ⟨o, es, ep, base_of e (noA e d), d, r⟩
    have hKb : K.In (hidT s₁.heap H) := fun b o e => base_of (KX b o e) (by
      cases q : H b with
      | none => rfl
      | some u =>
        have e' : b = a := hA b (by rw [q]; simp)
        subst e'
        rw [hK (by rw [q]; simp)] at e; cases e)
    have seerK : (hidT s₁.heap H).NoSeer := ⟨let ⟨mc, x, y⟩ := hsee.statics; ⟨mc, nsK x, y⟩, let ⟨mm, x, y⟩ := hsee.mods; ⟨mm, nsK x, y⟩, let ⟨mi, x, y⟩ := hsee.imp; ⟨mi, nsK x, y⟩, by
      obtain ⟨mg', bm, ob, x, y, z, u, v⟩ := hsee.main
      refine ⟨mg', bm, ob, nsK x, y, base_of z ?_, u, v⟩
      cases q : H bm with
      | none => rfl
      | some o =>
        have e' : bm = a := hA bm (by rw [q]; simp)
        subst e'
        rw [ha] at z
        cases z
        have u' : Value.type "list" = Value.type "module" := u
        exact absurd u' (by decide)⟩
    have hM : Mod K mg (hidT s₁.heap H) := ⟨hKb, nsK hns, ⟨mb, nsK hb, hbb⟩, let ⟨mc, h1, h2⟩ := hlim; ⟨mc, nsK h1, h2⟩, seerK⟩
    have e0 : Env0 P w K mg (hidT s₁.heap H) callerA [] s₁ H := ⟨rfl, hM, fun b o e => of_hidT e, Nat.le_of_eq (hidT_size _ _), trivial, fun b hb => absurd (show b ∈ ([] : List Addr) from hb) (by simp), hok, .of_eq hg⟩
    refine codeAny_mono ((F _ hKb (nsK hns)).run callerA [] s₁ H ⟨[.ref a], []⟩ [.ref a] [.ref a] _ _ hr e0 (hbind s₁ (.ref a)) (.cons rfl .nil) (hsp H hO hS)) fun r s' h => ?_
    cases r with
    | error e => exact (hCX H e s' h).elim
    | ok fl =>
      cases fl with
      | next => exact False.elim h
      | brk => exact False.elim h
      | cont => exact False.elim h
      | ret u =>
        obtain ⟨v, H', os, bare, un, hok', r', q⟩ := h
        have q' : v = .bl true := q
        subst q'
        obtain rfl : u = Value.bool true := r'
        refine ⟨rfl, OldK.of_keep fun b o e => ?_, os, bare⟩
        cases q : H b with
        | none => exact un.keep b o e q (by intro z; exact absurd (show b ∈ ([] : List Addr) from z) (by simp)) (by simp)
        | some u =>
          rcases hO b with z | ⟨ob, xs, z⟩
          · rw [q] at z; cases z
          · have z2 := un.frzs b ob _ z
            obtain ⟨e1, _⟩ := hok b _ z
            obtain ⟨e2, _⟩ := hok' b _ z2
            rw [e] at e1; cases e1
            exact e2
  cases hk : K.lookup a with
  | some o =>
    -- the script is one of the module's own objects
    have e := KX a o hk
    rw [ha] at e
    cases e
    refine core (fun _ => none) (fun _ => .inl rfl) (.inr ⟨_, vs.toArray, _, hk, rfl, rfl, rfl, by rw [List.size_toArray, lenV]; exact hl, by simpa using rv⟩) (fun b u z => by have z' : (none : Option HO) = some u := z; cases z') (fun b z => absurd rfl z) fun z => absurd rfl z
  | none =>
    refine core (fun b => if b = a then some (.frz { cls := .type "list", data := .seq vs.toArray } (.lst (ns.map V.int))) else none) (fun b => ?_) (.inl (.inr ⟨{ cls := .type "list", data := .seq vs.toArray }, if_pos rfl⟩)) (fun b u z => ?_) (fun b z => ?_) fun _ => hk
    · by_cases hb : b = a
      · exact .inr ⟨_, _, if_pos hb⟩
      · exact .inl (if_neg hb)
    · by_cases hb : b = a
      · have z' := (if_pos hb).symm.trans z
        cases z'
        subst hb
        exact ⟨ha, by rw [List.length_map]; exact hl, vs, _, rv, ha⟩
      · have z' := (if_neg hb).symm.trans z
        cases z'
    · by_cases hb : b = a
      · exact hb
      · exact absurd (if_neg hb) z
end L2

namespace L2
open PySem PySem.Spec PyProof.Rows

/-- the goal that k_head leaves (case hc), from the law's promise. F gives the function object fd (K's own) once, then the promise over every base -/
theorem walk_of {l : PySem.W.OpenLaw} {n k : Nat} {q : Program} {loose : List Str} {XP : (Str → Option Value) → Heap → Prop} {YP : World → Heap → Prop} {d : DefRec} {K : Params → PySem.W.Frag} {CX : World → CXT} {sp : World → Sp} {x : Str}
    (hI : importsNone q = true) (hn : l.most = some n) (hn2 : n ≤ sizeLine) (hdf : d.params.defaults = []) (hr : Room k callerA)
    (hY : ∀ (w : World) (h : Heap), YP w h → (K w.params).In h)
    (F : ∀ (w : World) (mg : Str → Option Value) (fa : Addr) (h : Heap), (K w.params).In h → h.Ns mainGlobals mg → mg d.name = some (.ref fa) →
      ∃ fd : FuncData, (∀ (s : Shared) (u : Value), BindsTo s fd ⟨[u], []⟩ [(x, u)]) ∧
        ∀ base : Heap, (K w.params).In base → base.Ns mainGlobals mg → FnOk l.prog w (K w.params) mg base (CX w) k fa fd [x] (sp w))
    (hsp : ∀ (w : World) (H : Hp) (a : Addr) (ns : List Int), ns.length ≤ n → Only H → SqL (K w.params) H a (ns.map V.int) → sp w [.ref a] H (fun v _ => v = .bl true) fun _ _ _ => False)
    (hCX : ∀ (w : World) (H : Hp) (s : Shared) (e : Value) (s' : Shared), CX w [] H s (fun _ _ _ => False) e s' → False) :
    PySem.W.WalkO q loose XP YP l.row.toRowW d [] (fun f vs => PySem.call f vs) := by
  refine Att.attach_call hn hdf fun w s₀ s₁ mg mb fa o pm cd doc a vs ns G Y ho hd hcd hmg hobj hints hlen hg => ?_
  have KX := hY w _ Y
  obtain ⟨fd, hb, hF⟩ := F w mg fa _ KX G.T.g hmg
  exact law_call KX G.T.g G.T.b G.T.builtins G.T.nolimit (G.T.seer hI) hg hobj hints (Nat.le_trans hlen hn2) hr hF hb (fun H hO hS => hsp w H a ns hlen hO hS) fun H e s' => hCX w H s₁ e s'
end L2

/-! SHORT WORDS over the layer: a def of the text, its body, what a loop and a test want. -/
namespace L2
open PySem PySem.Spec PyProof.Rows

/-! ### the text by places -/
def defArgs (s : Stmt) : Arguments := match s with
  | .FunctionDef _ a _ _ _ _ _ _ _ _ => a
  | _ => { posonlyargs := [], args := [], vararg := none, kwonlyargs := [], kw_defaults := [], kwarg := none, defaults := [] }
def defBody (s : Stmt) : List Stmt := match s with
  | .FunctionDef _ _ b _ _ _ _ _ _ _ => b
  | _ => []
def defScope (s : Stmt) : Scope := match s with
  | .FunctionDef _ _ _ _ _ _ sc _ _ _ => sc
  | _ => { kind := .function, names := [], isGenerator := false, isCoroutine := false }

/-! ### no exception leaves a def -/
abbrev CX0 : CXT := fun _ _ _ _ _ _ => False
abbrev E0 : XK := fun _ _ _ => False
theorem pass0 {X : Cx} : Passes CX0 X E0 := fun _ _ _ _ _ _ _ h => h.elim

/-! ### a def (or method) of the text as it stands behind the top -/
structure Fun (K : PySem.W.Frag) (x qual : Str) (st : Stmt) (f : Addr) (fd : FuncData) : Prop where
  ex : ∃ (oc : Value) (od : Option Addr) (kV doc pm : Value) (an : Option Addr) (cdv ct : Value) (osl : Array (Option Value)),
    fd = PySem.W.fnOf x qual (defArgs st) (defBody st) (defScope st) .none kV doc pm an cdv ct ∧ K.lookup f = some ⟨oc, od, .func fd, osl⟩ ∧ PySem.W.codeIn K cdv qual = true
  kp : PySem.W.keepIn K (.ref f) = true
section
variable {P : Program} {w : World} {K : PySem.W.Frag} {mg : Str → Option Value} {base : Heap}
/-- THE RULE for a def: its body as a term of rules, and the reading of that term -/
theorem Fun.ok {x qual : Str} {st : Stmt} {f : Addr} {fd : FuncData} {N ps : List Str} {k : Nat} {sp : Sp} (F : Fun K x qual st f fd) (S : FnScope N ps (defScope st)) (len : ∀ vs H Q E, sp vs H Q E → vs.length = ps.length)
    (hbody : ∀ (cdv : Value) (A : Around) (outer : List Env) (s : Shared) (H : Hp) (vs : List V) (Q : VK) (E : XK), Room k (A.deeper (envOfC qual (defScope st) s.heap.objs.size f cdv)) → sp vs H Q E →
      ∃ t, PSs (cxOf CX0 P w K mg base N qual (defScope st) f cdv A outer s H E).nox (defBody st) t ∧ t { nx := fun _ H' => Q .non H', rt := Q } (start N vs) H) : FnOk P w K mg base CX0 (k + 1) f fd ps sp := by
  obtain ⟨oc, od, kV, doc, pm, an, cdv, ct, osl, rfl, lk, hcd⟩ := F.ex
  refine fn_of lk hcd S len fun A outer s H vs Q E hr hsp => ?_
  obtain ⟨t, h, q⟩ := hbody cdv A outer s H vs Q E hr hsp
  exact ⟨t, h.nox, q⟩
/-- how its arguments bind (no defaults): h is «fun _ _ _ _ _ _ us hl => match us, hl with | [_, _], _ => rfl», one _ a parameter -/
theorem Fun.binds {x qual : Str} {st : Stmt} {f : Addr} {fd : FuncData} {ps : List Str} (F : Fun K x qual st f fd)
    (h : ∀ (kV doc pm : Value) (an : Option Addr) (cdv ct : Value) (us : List Value), us.length = ps.length → bindArgs (PySem.W.fnOf x qual (defArgs st) (defBody st) (defScope st) .none kV doc pm an cdv ct) ⟨us, []⟩ = pure (ps.zip us)) : Binds K fd ps [] := by
  obtain ⟨oc, od, kV, doc, pm, an, cdv, ct, osl, rfl, lk, hcd⟩ := F.ex
  exact .all (h kV doc pm an cdv ct)
theorem fun_mk {x qual : Str} {st : Stmt} {f : Addr} {oc : Value} {od an : Option Addr} {osl : Array (Option Value)} {kV doc pm cdv ct : Value} (l : K.lookup f = some ⟨oc, od, .func (PySem.W.fnOf x qual (defArgs st) (defBody st) (defScope st) .none kV doc pm an cdv ct), osl⟩)
    (c : PySem.W.codeIn K cdv qual = true) (k : PySem.W.keepIn K (.ref f) = true) : Fun K x qual st f (PySem.W.fnOf x qual (defArgs st) (defBody st) (defScope st) .none kV doc pm an cdv ct) := ⟨⟨oc, od, kV, doc, pm, an, cdv, ct, osl, rfl, l, c⟩, k⟩
end
theorem small1000 {n : Nat} (h : n ≤ 1000) : n < sizeLine := Nat.lt_of_le_of_lt h (by decide)

/-! ### expressions in short: the name that stands in the i-th slot -/
section
variable {X : Cx}
theorem pv (i : Nat) {x : Str} {pos : Pos} (hN : X.N[i]? = some x := by rfl) (hv : Vis X.env.scope x := by first | exact Or.inl rfl | exact Or.inr (Or.inl rfl) | exact Or.inr (Or.inr rfl)) (hd : (x == ("__debug__" : Str)) = false := by decide)
    (hcd : (x == ("__classdict__" : Str)) = false := by decide) : PE X (.Name x pos) (tVar i) := pe_var hN hv hd hcd
end

/-! ### tests -/
theorem iteF {A B : Prop} (h : B) : if false = true then A else B := by
  rw [if_neg Bool.false_ne_true]
  exact h
theorem iteT {A B : Prop} (h : A) : if true = true then A else B := by
  rw [if_pos rfl]
  exact h
theorem ite2 {c A B : Prop} [Decidable c] (h1 : c → A) (h2 : ¬ c → B) : if c then A else B := by
  by_cases h : c
  · rw [if_pos h]
    exact h1 h
  · rw [if_neg h]
    exact h2 h
/-! ### heaps -/
/-- all that was tracked is as it was -/
def Same (H H' : Hp) : Prop := ∀ b o, H b = some o → H' b = some o
theorem Same.refl (H : Hp) : Same H H := fun _ _ h => h
theorem Same.trans {H H1 H2 : Hp} (a : Same H H1) (b : Same H1 H2) : Same H H2 := fun c o h => b c o (a c o h)
theorem Same.free {H H' : Hp} (e : Same H H') {l : Addr} (h : H' l = Option.none) : H l = Option.none := by
  cases q : H l with
  | none => rfl
  | some o =>
    rw [e l o q] at h
    cases h
theorem Same.seq {K : PySem.W.Frag} {H H' : Hp} {a : Addr} {xs : List V} (e : Same H H') (h : SqL K H a xs) : SqL K H' a xs := by
  rcases h with (h | ⟨o, h⟩) | h
  · exact .inl (.inl (e _ _ h))
  · exact .inl (.inr ⟨o, e _ _ h⟩)
  · exact .inr h

end L2

namespace L2
open PySem PySem.Spec PyProof.Rows
/-! ### lists of pairs as tables -/
section
variable {κ : Type} [DecidableEq κ]
def valV (kvs : List (κ × V)) (k : κ) : Option V := (kvs.find? fun kv => decide (kv.1 = k)).map (·.2)
/-- in its place, or at the end -/
def putK (kvs : List (κ × V)) (k : κ) (v : V) : List (κ × V) :=
  if (kvs.any fun kv => decide (kv.1 = k)) = true then kvs.map (fun kv => if kv.1 = k then (kv.1, v) else kv) else kvs ++ [(k, v)]
theorem valV_pos {p : κ × V} {r : List (κ × V)} {k : κ} (e : p.1 = k) : valV (p :: r) k = some p.2 := by simp [valV, List.find?_cons, e]
theorem valV_neg {p : κ × V} {r : List (κ × V)} {k : κ} (e : ¬ p.1 = k) : valV (p :: r) k = valV r k := by simp [valV, List.find?_cons, e]
theorem valV_any (k : κ) : ∀ kvs : List (κ × V), (kvs.any fun kv => decide (kv.1 = k)) = (valV kvs k).isSome
  | [] => rfl
  | p :: r => by
    rw [List.any_cons]
    by_cases e : p.1 = k
    · simp only [valV_pos e, decide_eq_true e, Bool.true_or, Option.isSome_some]
    · rw [valV_neg e, decide_eq_false e, Bool.false_or]; exact valV_any k r
theorem valV_map (k j : κ) (y : V) : ∀ kvs : List (κ × V), valV (kvs.map fun kv => if kv.1 = k then (kv.1, y) else kv) j = (valV kvs j).map fun x => if j = k then y else x
  | [] => rfl
  | p :: r => by
    have ih := valV_map k j y r
    rw [List.map_cons]
    by_cases h : p.1 = k
    · rw [if_pos h]
      by_cases e : p.1 = j
      · rw [valV_pos (p := (p.1, y)) e, valV_pos e, Option.map_some, if_pos (e.symm.trans h)]
      · rw [valV_neg (p := (p.1, y)) e, valV_neg e, ih]
    · rw [if_neg h]
      by_cases e : p.1 = j
      · rw [valV_pos (p := p) e, valV_pos e, Option.map_some, if_neg (fun z => h (e.trans z))]
      · rw [valV_neg (p := p) e, valV_neg e, ih]
theorem valV_snoc (k j : κ) (y : V) : ∀ kvs : List (κ × V), valV kvs k = none → valV (kvs ++ [(k, y)]) j = if j = k then some y else valV kvs j
  | [], _ => by
    by_cases e : k = j
    · rw [if_pos e.symm]; exact valV_pos (p := (k, y)) e
    · rw [if_neg (fun z => e z.symm)]; exact valV_neg (p := (k, y)) e
  | p :: r, hn => by
    rw [List.cons_append]
    have hk : ¬ p.1 = k := fun z => by rw [valV_pos z] at hn; cases hn
    rw [valV_neg hk] at hn
    have ih := valV_snoc k j y r hn
    by_cases e : p.1 = j
    · rw [valV_pos e, valV_pos e, if_neg (fun z => hk (e.trans z))]
    · rw [valV_neg e, valV_neg e, ih]
theorem valV_put (kvs : List (κ × V)) (k j : κ) (y : V) : valV (putK kvs k y) j = if j = k then some y else valV kvs j := by
  unfold putK
  by_cases a : (kvs.any fun kv => decide (kv.1 = k)) = true
  · rw [if_pos a, valV_map]
    rw [valV_any] at a
    by_cases e : j = k
    · obtain ⟨x, hx⟩ := Option.isSome_iff_exists.mp a
      rw [if_pos e, e, hx, Option.map_some, if_pos rfl]
    · rw [if_neg e]
      cases valV kvs j with
      | none => rfl
      | some x => rw [Option.map_some, if_neg e]
  · rw [if_neg a]
    refine valV_snoc k j y kvs ?_
    rw [valV_any] at a
    cases q : valV kvs k with
    | none => rfl
    | some x => rw [q] at a; exact (a rfl).elim
theorem length_putK (kvs : List (κ × V)) (k : κ) (v : V) : (putK kvs k v).length ≤ kvs.length + 1 := by
  unfold putK
  split
  · rw [List.length_map]; lia
  · rw [List.length_append, List.length_cons, List.length_nil]; lia
theorem RelO.isSome_eq {o : Option V} {u : Option Value} (r : RelO o u) : o.isSome = u.isSome := by
  cases o with
  | none => cases u with
    | none => rfl
    | some _ => exact (show False from r).elim
  | some _ => cases u with
    | none => exact (show False from r).elim
    | some _ => rfl
/-- raw tables of the same keys -/
theorem KV.val {kvs : List (κ × V)} {vs : List (κ × Value)} (r : KV kvs vs) (k : κ) : RelO (valV kvs k) (valueAt vs k) := by
  unfold KV at r
  induction r with
  | nil => exact True.intro
  | @cons p q ps qs h t ih =>
    obtain ⟨h1, h2⟩ := h
    by_cases e : p.1 = k
    · have e' : q.1 = k := h1.symm.trans e
      have b : valueAt (q :: qs) k = some q.2 := by simp [valueAt, List.find?_cons, e']
      rw [valV_pos e, b]; exact h2
    · have e' : ¬ q.1 = k := fun z => e (h1.trans z)
      have b : valueAt (q :: qs) k = valueAt qs k := by simp [valueAt, List.find?_cons, e']
      rw [valV_neg e, b]; exact ih
theorem KV.any {kvs : List (κ × V)} {vs : List (κ × Value)} (r : KV kvs vs) (k : κ) : (kvs.any fun kv => decide (kv.1 = k)) = vs.any fun kv => decide (kv.1 = k) := by
  unfold KV at r
  induction r with
  | nil => rfl
  | cons h t ih => rw [List.any_cons, List.any_cons, ih, h.1]
theorem KV.repl {kvs : List (κ × V)} {vs : List (κ × Value)} (r : KV kvs vs) (k : κ) {y : V} {u : Value} (ry : RelV y u) :
    KV (kvs.map fun kv => if kv.1 = k then (kv.1, y) else kv) (vs.map fun kv => if kv.1 = k then (kv.1, u) else kv) := by
  unfold KV at r ⊢
  induction r with
  | nil => exact .nil
  | @cons p q ps qs h t ih =>
    rw [List.map_cons, List.map_cons]
    refine .cons ?_ ih
    obtain ⟨h1, h2⟩ := h
    by_cases e : p.1 = k
    · rw [if_pos e, if_pos (h1.symm.trans e)]; exact ⟨h1, ry⟩
    · rw [if_neg e, if_neg (fun z => e (h1.trans z))]; exact ⟨h1, h2⟩
theorem KV.put {kvs : List (κ × V)} {vs : List (κ × Value)} (r : KV kvs vs) (k : κ) {y : V} {u : Value} (ry : RelV y u) : KV (putK kvs k y) (stored vs k u) := by
  unfold putK stored
  rw [r.any k]
  by_cases e : (vs.any fun kv => decide (kv.1 = k)) = true
  · rw [if_pos e, if_pos e]; exact r.repl k ry
  · rw [if_neg e, if_neg e]; exact Paired.snoc r ⟨rfl, ry⟩
theorem KV.length {kvs : List (κ × V)} {vs : List (κ × Value)} (r : KV kvs vs) : kvs.length = vs.length := Paired.length r
end


/-! ### a tracked dict, its keys ints and texts or tuples of these -/
theorem kV_is {P : Program} {w : World} {k : Key} {u : Value} (r : RelV (kV k) u) : (mixKind P w).is k u = true := by
  cases k with
  | inl i => obtain ⟨t, e⟩ := (show ∃ t, u = Value.int i t from r); subst e; exact mixKind_int P w i t
  | inr x => obtain ⟨t, e⟩ := (show ∃ t, u = Value.str x t from r); subst e; exact mixKind_str P w x t
theorem items_are {P : Program} {w : World} : ∀ {ks : List Key} {us : List Value}, Vals (ks.map kV) us → ItemsAre (mixKind P w) ks us
  | [], _, r => by rw [List.map_nil] at r; cases r; exact .nil
  | k :: ks, _, r => by
    rw [List.map_cons] at r
    cases r with
    | cons h t => exact .cons (kV_is h) (items_are t)

/-- raw entries of a dict with tuple keys -/
abbrev KT (H : Hp) : List (List Key × V) → List (List Key × Addr × Value) → Prop := Paired fun p q => p.1 = q.1 ∧ H q.2.1 = some (.tup (p.1.map kV)) ∧ RelV p.2 q.2.2
theorem KT.val {H : Hp} {kvs : List (List Key × V)} {xs : List (List Key × Addr × Value)} (r : KT H kvs xs) (k : List Key) : RelO (valV kvs k) ((atKey xs k).map (·.2)) := by
  induction r with
  | nil => exact True.intro
  | @cons p q ps qs h t ih =>
    obtain ⟨h1, _, h2⟩ := h
    by_cases e : p.1 = k
    · have e' : q.1 = k := h1.symm.trans e
      have b : atKey (q :: qs) k = some q.2 := by simp [atKey, List.find?_cons, e']
      rw [valV_pos e, b]; exact h2
    · have e' : ¬ q.1 = k := fun z => e (h1.trans z)
      have b : atKey (q :: qs) k = atKey qs k := by simp [atKey, List.find?_cons, e']
      rw [valV_neg e, b]; exact ih
theorem KT.repl {H : Hp} {kvs : List (List Key × V)} {xs : List (List Key × Addr × Value)} (r : KT H kvs xs) (k : List Key) {y : V} {u : Value} (ry : RelV y u) :
    KT H (kvs.map fun kv => if kv.1 = k then (kv.1, y) else kv) (xs.map (putAt k u)) := by
  induction r with
  | nil => exact .nil
  | @cons p q ps qs h t ih =>
    rw [List.map_cons, List.map_cons]
    refine .cons ?_ ih
    obtain ⟨h1, h2, h3⟩ := h
    unfold putAt
    by_cases e : p.1 = k
    · rw [if_pos e, if_pos (h1.symm.trans e)]; exact ⟨h1, h2, ry⟩
    · rw [if_neg e, if_neg (fun z => e (h1.trans z))]; exact ⟨h1, h2, h3⟩
theorem KT.put {H : Hp} {kvs : List (List Key × V)} {xs : List (List Key × Addr × Value)} (r : KT H kvs xs) (k : List Key) {b : Addr} {y : V} {u : Value} (hb : H b = some (.tup (k.map kV))) (ry : RelV y u) :
    KT H (putK kvs k y) (storedH xs k b u) := by
  have e : (kvs.any fun kv => decide (kv.1 = k)) = (atKey xs k).isSome := by
    rw [valV_any, (r.val k).isSome_eq, Option.isSome_map]
  unfold putK storedH
  rw [e]
  by_cases q : (atKey xs k).isSome = true
  · rw [if_pos q, if_pos q]; exact r.repl k ry
  · rw [if_neg q, if_neg q]; exact Paired.snoc r ⟨rfl, hb, ry⟩
theorem KT.keeps {H H' : Hp} {kvs : List (List Key × V)} {xs : List (List Key × Addr × Value)} (r : KT H kvs xs) (ht : ∀ b ys, H b = some (.tup ys) → H' b = some (.tup ys)) : KT H' kvs xs :=
  Paired.mapP r fun _ _ z => ⟨z.1, ht _ _ z.2.1, z.2.2⟩

section
variable {P : Program} {w : World} {H : Hp} {h : Heap} {a : Addr}
theorem rd_of {u : HO} (ok : HOk P w H h) (e : Rd H a u) : ObjOk P w H h a u := e.ok ok
theorem dk_rd {kvs : List (Key × V)} (ok : HOk P w H h) (e : Rd H a (.dK kvs)) : kvs.length ≤ sizeLine ∧ (a == sysModules) = false ∧ ∃ vs, KV kvs vs ∧ h.DictOf (mixKind P w) a vs :=
  show ObjOk P w H h a (.dK kvs) from rd_of ok e
theorem dk_of {kvs : List (Key × V)} (ok : HOk P w H h) (e : H a = some (.dK kvs)) : kvs.length ≤ sizeLine ∧ (a == sysModules) = false ∧ ∃ vs, KV kvs vs ∧ h.DictOf (mixKind P w) a vs := dk_rd ok (.inl e)
/-- a tracked tuple of ints and texts is a key -/
theorem key_of {ks : List Key} (ok : HOk P w H h) (e : H a = some (.tup (ks.map kV))) : (tupleKind (mixKind P w)).is h ks a := by
  obtain ⟨_, its, r, o, h1, h2, n, h3⟩ := (show ObjOk P w H h a (.tup (ks.map kV)) from ok a _ e)
  exact ⟨o, its.toArray, n, h1, h2, h3, by simpa using items_are r⟩
theorem dt_rd {kvs : List (List Key × V)} (ok : HOk P w H h) (e : Rd H a (.dT kvs)) : kvs.length ≤ sizeLine ∧ (a == sysModules) = false ∧
    ∃ xs, KT H kvs xs ∧ h.DictOfH (tupleKind (mixKind P w)) a xs := by
  obtain ⟨z, y, xs, r, o, es, ep, h1, h2, h3, h4, h5⟩ := (show ObjOk P w H h a (.dT kvs) from rd_of ok e)
  refine ⟨z, y, xs, r, o, es, ep, h1, h2, h3, h4, fun x hx => ?_, h5⟩
  have all : ∀ {l : List (List Key × V)} {m : List (List Key × Addr × Value)}, KT H l m → ∀ x ∈ m, (tupleKind (mixKind P w)).is h x.1 x.2.1 := by
    intro l m q
    induction q with
    | nil => intro x hx; exact nomatch hx
    | @cons p q ps qs hq t ih =>
      intro x hx
      rcases List.mem_cons.mp hx with e | hx
      · subst e
        exact key_of ok (by rw [← hq.1]; exact hq.2.1)
      · exact ih x hx
  exact all r x hx
theorem dt_of {kvs : List (List Key × V)} (ok : HOk P w H h) (e : H a = some (.dT kvs)) : kvs.length ≤ sizeLine ∧ (a == sysModules) = false ∧
    ∃ xs, KT H kvs xs ∧ h.DictOfH (tupleKind (mixKind P w)) a xs := dt_rd ok (.inl e)
end

/-- what the dict at a holds at the key y -/
def DGet (H : Hp) (a : Addr) (y : V) (r : Option V) : Prop :=
  (∃ kvs k, Rd H a (.dK kvs) ∧ y = kV k ∧ r = valV kvs k) ∨ ∃ kvs k b, Rd H a (.dT kvs) ∧ y = .ref b ∧ H b = some (.tup (k.map kV)) ∧ r = valV kvs k
/-- the heap behind a[y] = v -/
def DPut (H : Hp) (a : Addr) (y v : V) (H' : Hp) : Prop :=
  (∃ kvs k, H a = some (.dK kvs) ∧ y = kV k ∧ kvs.length < sizeLine ∧ H' = upd H a (.dK (putK kvs k v))) ∨
  ∃ kvs k b, H a = some (.dT kvs) ∧ y = .ref b ∧ H b = some (.tup (k.map kV)) ∧ kvs.length < sizeLine ∧ H' = upd H a (.dT (putK kvs k v))
theorem DGet.t {H : Hp} {a b : Addr} {kvs : List (List Key × V)} {k : List Key} (e : H a = some (.dT kvs)) (eb : H b = some (.tup (k.map kV))) : DGet H a (.ref b) (valV kvs k) := .inr ⟨kvs, k, b, .inl e, rfl, eb, rfl⟩
theorem DPut.t {H : Hp} {a b : Addr} {kvs : List (List Key × V)} {k : List Key} {v : V} (e : H a = some (.dT kvs)) (eb : H b = some (.tup (k.map kV))) (hl : kvs.length < sizeLine) :
    DPut H a (.ref b) v (upd H a (.dT (putK kvs k v))) := .inr ⟨kvs, k, b, e, rfl, eb, hl, rfl⟩


section
variable {X : Cx} {pins : List (Addr × Obj)} {σ : St} {H : Hp} {s : Shared} {a : Addr} {y v : V} {u r : Value} {o : Option V} {A : Around} {E : Value → Shared → Prop}

theorem Inv.big (I : Inv X pins σ H s) : sysModules < s.heap.objs.size := by
  have h : mainGlobals < s.heap.objs.size := (I.mod.glob.keeps I.bk).lt
  exact Nat.lt_trans (by decide) h

/-- d[y], there -/
theorem d_getItem {Q : Value → Shared → Prop} (hu : A.units + 1 < cLine) (I : Inv X pins σ H s) (g : DGet H a y (some v)) (ry : RelV y u) (h : ∀ w' s', Inv X pins σ H s' → RelV v w' → Q w' s') :
    wpAny (model X.prog X.w) A (getItem (.ref a) u) Q E s := by
  rcases g with ⟨kvs, k, e, ey, l⟩ | ⟨kvs, k, b, e, ey, eb, l⟩
  · subst ey
    obtain ⟨z, hd, vs, rel, dd⟩ := dk_rd I.hok e
    obtain ⟨w', hw, rw'⟩ := RelO.some_of (v := v) (o := valueAt vs k) (by rw [l]; exact rel.val k)
    exact wpAny_getItem_of (kV_is ry) dd.mapOf hw (h w' _ (I.tok _) rw')
  · subst ey
    cases (show u = Value.ref b from ry)
    obtain ⟨z, hd, xs, rel, dd⟩ := dt_rd I.hok e
    obtain ⟨w', hw, rw'⟩ := RelO.some_of (v := v) (o := (atKey xs k).map (·.2)) (by rw [l]; exact rel.val k)
    obtain ⟨p, hp, hp2⟩ := Option.map_eq_some_iff.mp hw
    refine wpAny_getItem_heap (tupleKind_room_in1 hu) (key_of I.hok eb) dd hp ?_
    rw [hp2]
    exact h w' _ (I.tok _) rw'
/-- a dict's object is replaced -/
theorem d_write {h' : Heap} {t' : Nat} {ob : HO} (I : Inv X pins σ H s) (mu : Mut (H a)) (hs : Heap.SameBut a s.heap h') (he : ∃ q, h'.get? a = some q) (new : ObjOk X.prog X.w (upd H a ob) h' a ob) :
    Inv X pins σ (upd H a ob) { s with heap := h', toks := t' } :=
  I.write (x := a) (e := a) mu (.inl rfl) (fun b q hb z => (hs.2 b hb).trans z) he new
theorem dk_new {P : Program} {w : World} {H' : Hp} {h' : Heap} {kvs : List (Key × V)} {vs : List (Key × Value)} (z : kvs.length ≤ sizeLine) (hd : (a == sysModules) = false) (rel : KV kvs vs) (dd : h'.DictOf (mixKind P w) a vs) :
    ObjOk P w H' h' a (.dK kvs) := ⟨z, hd, vs, rel, dd⟩
/-- d[y] = v -/
theorem d_setItem {H' : Hp} {Q : Unit → Shared → Prop} (hu : A.units + 1 < cLine) (I : Inv X pins σ H s) (g : DPut H a y v H') (ry : RelV y u) (rv : RelV v r) (h : ∀ s', Inv X pins σ H' s' → Q () s') :
    wpAny (model X.prog X.w) A (setItem (.ref a) u r) Q E s := by
  rcases g with ⟨kvs, k, e, ey, l, eH⟩ | ⟨kvs, k, b, e, ey, eb, l, eH⟩
  · subst ey eH
    obtain ⟨z, hd, vs, rel, dd⟩ := dk_of I.hok e
    have hz : vs.length ≤ sizeLine := by rw [← rel.length]; exact z
    have hl : (putK kvs k v).length ≤ sizeLine := by have := length_putK kvs k v; lia
    refine wpAny_setItem_pairs (hsz := hz) (kV_is ry) dd fun h' dd' hs => h _ ?_
    have he : ∃ q, h'.get? a = some q := let ⟨q, _, _, hq, _⟩ := dd'; ⟨q, hq⟩
    exact d_write I (by rw [e]; exact True.intro) hs he (dk_new hl hd (rel.put k rv) dd')
  · subst ey eH
    cases (show u = Value.ref b from ry)
    obtain ⟨z, hd, xs, rel, dd⟩ := dt_of I.hok e
    have hz : xs.length ≤ sizeLine := by rw [← Paired.length rel]; exact z
    have hl : (putK kvs k v).length ≤ sizeLine := by have := length_putK kvs k v; lia
    refine wpAny_setItem_heap (hsz := hz) (tupleKind_room_in1 hu) (key_of I.hok eb) dd fun h' dd' hs => h _ ?_
    obtain ⟨q, es, ep, hq, h2, h3, h4, _, h5⟩ := dd'
    refine d_write I (by rw [e]; exact True.intro) hs ⟨q, hq⟩ ⟨hl, hd, _, (rel.put k eb rv).keeps fun c ys ec => ?_, q, es, ep, hq, h2, h3, h4, h5⟩
    rw [upd_ne (ne_of ec e (fun z => nomatch z))]
    exact ec
end

section
variable {X : Cx} {pins : List (Addr × Obj)} {σ : St} {H : Hp} {s : Shared} {a : Addr} {kvs : List (Key × V)} {k : Key} {u : Value} {A : Around} {E : Value → Shared → Prop}
end


/-! ### readings and rules -/
/-- the element of a subscription, not a slice -/
def NoSl (i : Expr) : Prop := ∀ ov iv, subscripted i false ov iv = operate [ov, iv] (getItem ov iv)
theorem subD_of {prog : Program} {w : World} {A : Around} {E : Value → Shared → Prop} {s : Shared} {env : Env} {value slice : Expr} {pos : Pos} {T id : String} {Q : Value → Shared → Prop}
    (hl : typeLookup (.type T) "__getitem__" = pure (some (.builtin id))) (hs : NoSl slice)
    (h : wpAny (model prog w) A (eval value env) (fun o s₁ => wpAny (model prog w) A (eval slice env) (fun i s₂ => s₂.TypeIs o T ∧ wpAny (model prog w) A (getItem o i) Q E s₂) E s₁) E s) :
    wpAny (model prog w) A (eval (.Subscript value slice pos) env) Q E s := by
  refine Subscript_ (wpAny_mono h (fun o s₁ h₁ => wpAny_mono h₁ (fun i s₂ h₂ => ?_) fun _ _ x => x) fun _ _ x => x)
  obtain ⟨hT, h₂⟩ := h₂
  unfold subscriptTail
  refine wpAny_bind ?_
  rw [getitemInPython_of_ne hT.not_modules]
  refine wpAny_bind (wpAny_specialOf hT hl ?_)
  have fin : wpAny (model prog w) A (subscripted slice false o i) (fun r s₃ => wpAny (model prog w) A (letTemporaryGo value o r >>= fun _ => pure r) Q E s₃) E s₂ := by
    rw [hs o i]
    exact wpAny_operating (wpAny_mono h₂ (fun r s₃ h₃ => wpAny_bind (wpAny_letTemporaryGo (wpAny_pure h₃))) fun _ _ x => x)
  first
    | exact wpAny_pure (wpAny_bind fin)
    | exact wpAny_bind (wpAny_pure (wpAny_bind fin))
    | exact wpAny_bind fin

theorem dict_typeIs {X : Cx} {pins : List (Addr × Obj)} {σ : St} {H : Hp} {s : Shared} {a : Addr} {y : V} {o : Option V} (I : Inv X pins σ H s) (g : DGet H a y o) : s.TypeIs (.ref a) "dict" := by
  rcases g with ⟨kvs, k, e, _, _⟩ | ⟨kvs, k, b, e, _, _, _⟩
  · obtain ⟨_, _, vs, _, dd⟩ := dk_rd I.hok e
    exact dd.typeIs
  · obtain ⟨_, _, xs, _, dd⟩ := dt_rd I.hok e
    exact dd.typeIs
/-- d[y] -/
def tDGet (td ty : TE) : TE := fun σ H Q => td σ H fun x H1 => ty σ H1 fun y H2 => ∃ a v, x = .ref a ∧ DGet H2 a y (some v) ∧ Q v H2
/-- d[y] = v -/
def sDPut (td ty tv : TE) : TS := fun D σ H => tv σ H fun v H1 => td σ H1 fun x H2 => ty σ H2 fun y H3 => ∃ a H4, x = .ref a ∧ DPut H3 a y v H4 ∧ D.nx σ H4
section
variable {X : Cx} {o i e value : Expr} {pos pos' tpos : Pos} {td ty tv : TE}
theorem pe_dget (hu : X.A.units + 1 < cLine) (ho : PE X o td) (hi : PE X i ty) (hs : NoSl i) : PE X (.Subscript o i pos) (tDGet td ty) := by
  intro pins s σ H Q I h
  refine subD_of PySem.F.slot_dict_getitem.lookup hs (thn (ho pins s σ H _ I h) fun u s1 ⟨x, H1, I1, rx, q1⟩ => thn (hi pins s1 σ H1 _ I1 q1) fun iv s2 ⟨y, H2, I2, ry, a, v, ex, g, q2⟩ => ?_)
  subst ex
  obtain rfl : u = Value.ref a := rx
  exact ⟨dict_typeIs I2 g, d_getItem hu I2 g ry fun w' s3 I3 rw' => ⟨v, H2, I3, rw', q2⟩⟩
theorem ps_dput (hu : X.A.units + 1 < cLine) (ho : PE X o td) (hi : PE X i ty) (hv : PE X value tv) (hs : swapsWith value (some (.Subscript o i pos')) pos.line X.env = pure false) :
    PS X (.Assign [.Subscript o i pos'] value pos) (sDPut td ty tv) := by
  intro pins s σ H D I h
  refine wpAny_Assign_Subscript (thn (hv pins s σ H _ I h) fun r s1 ⟨v, H1, I1, rv, q1⟩ => thn (ho pins s1 σ H1 _ I1 q1) fun u s2 ⟨x, H2, I2, rx, q2⟩ => thn (hi pins s2 σ H2 _ I2 q2) fun iv s3 ⟨y, H3, I3, ry, a, H4, ex, g, q3⟩ => ?_) hs
  subst ex
  obtain rfl : u = Value.ref a := rx
  exact d_setItem hu I3 g ry rv fun s4 I4 => ⟨σ, H4, I4, q3⟩
end


/-! ### displays -/
theorem dt_empty {P : Program} {w : World} {H : Hp} (h : Heap) (hb : sysModules < h.objs.size) : ObjOk P w H (h.push { cls := .type "dict", data := .dict #[] }) h.objs.size (.dT []) :=
  ⟨Nat.zero_le _, beq_eq_false_iff_ne.mpr (Ne.symm (Nat.ne_of_lt hb)), [], .nil, _, #[], 0, Heap.get?_push_size _ rfl, ⟨rfl, rfl, rfl⟩, rfl, rfl, List.nodup_nil⟩
def tDNewT : TE := fun _ H Q => ∀ p, H p = none → Q (.ref p) (upd H p (.dT []))
section
variable {X : Cx} {pos : Pos}
theorem pe_dnewT : PE X (.Dict [] [] pos) tDNewT := fun pins s σ H Q I h =>
  wpAny_Dict_empty ⟨.ref s.heap.objs.size, _, I.laid (a := s.heap.objs.size) (o := .dT []) (t' := s.toks) (fun _ _ q => Heap.get?_push_of_some _ q) (Nat.le_refl _) (dt_empty s.heap I.big), rfl, h _ (I.hok.fresh (Nat.le_refl _))⟩
end

/-! ### methods -/
/-- a method call o.m(e) of a built-in, with one argument: what must be seen of the text -/
structure M1 (X : Cx) (o : Expr) (m : Str) (apos : Pos) (e : Expr) (cpos : Pos) : Prop where
  base : attributeBase o m X.env (eval o X.env) = eval o X.env
  few : ((backTo cpos (starEach [e] X.env)).all (fun x => !x.1) && (backToKw cpos (keywordEach [] X.env)).all (fun x => x.1.isSome)
    && decide (([e] : List Expr).length + ([] : List Keyword).length + (if ([] : List Keyword).isEmpty then 0 else 1) < 30)) = true
  line : (apos.endLine == cpos.line) = true
  trees : backTo cpos (starEach [e] X.env) = [(false, eval e X.env)]
structure M2 (X : Cx) (o : Expr) (m : Str) (apos : Pos) (e f : Expr) (cpos : Pos) : Prop where
  base : attributeBase o m X.env (eval o X.env) = eval o X.env
  few : ((backTo cpos (starEach [e, f] X.env)).all (fun x => !x.1) && (backToKw cpos (keywordEach [] X.env)).all (fun x => x.1.isSome)
    && decide (([e, f] : List Expr).length + ([] : List Keyword).length + (if ([] : List Keyword).isEmpty then 0 else 1) < 30)) = true
  line : (apos.endLine == cpos.line) = true
  trees : backTo cpos (starEach [e, f] X.env) = [(false, eval e X.env), (false, eval f X.env)]

section
variable {X : Cx} {pins : List (Addr × Obj)} {σ : St} {H : Hp} {s : Shared} {a : Addr} {y d : V} {u r : Value} {o : Option V} {A : Around} {E : Value → Shared → Prop}
end

section
variable {X : Cx} {o e f : Expr} {apos cpos : Pos} {td ty tx : TE}
end

/-! ### dict(d): a copy -/
section
variable {X : Cx} {pins : List (Addr × Obj)} {σ : St} {H : Hp} {s : Shared} {a : Addr} {kvs : List (Key × V)} {A : Around} {E : Value → Shared → Prop}
end


section
variable {X : Cx} {pins : List (Addr × Obj)} {σ : St} {H : Hp} {s : Shared} {a : Addr} {y : V} {u : Value} {A : Around} {E : Value → Shared → Prop}
end
end L2


/-! numbers: the mathematics -/
namespace Nm
/-- the measure that both defs divide by -/
def msr (a b : Int) : Int := if b < 0 then -(Int.gcd a b : Int) else (Int.gcd a b : Int)
theorem gcd_pos {a b : Int} (hb : b ≠ 0) : 0 < Int.gcd a b := Nat.pos_of_ne_zero fun h => hb (Int.gcd_eq_zero_iff.mp h).2
theorem msr_ne {a b : Int} (hb : b ≠ 0) : msr a b ≠ 0 := by
  have := gcd_pos (a := a) hb
  unfold msr; split <;> lia
theorem fdiv_neg_dvd {a g : Int} (h : g ∣ a) : a.fdiv (-g) = -(a / g) := by
  obtain ⟨k, rfl⟩ := h
  by_cases hg : g = 0
  · subst hg; simp
  · rw [Int.mul_ediv_cancel_left _ hg, show g * k = -g * -k by rw [Int.neg_mul_neg], Int.mul_fdiv_cancel_left _ (by lia)]
theorem fdiv_dvd {a g : Int} (h : g ∣ a) : a.fdiv g = a / g := by
  obtain ⟨k, rfl⟩ := h
  by_cases hg : g = 0
  · subst hg; simp
  · rw [Int.mul_ediv_cancel_left _ hg, Int.mul_fdiv_cancel_left _ hg]
theorem top_msr {a b : Int} (hb : b ≠ 0) : a.fdiv (msr a b) = (Rat.divInt a b).num := by
  rw [Rat.num_divInt, Int.gcd_comm b a]
  have d : (Int.gcd a b : Int) ∣ a := Int.gcd_dvd_left ..
  unfold msr
  split
  · rename_i h
    rw [fdiv_neg_dvd d, Int.sign_eq_neg_one_of_neg h, Int.neg_mul, Int.one_mul, Int.neg_ediv_of_dvd d]
  · rw [fdiv_dvd d, Int.sign_eq_one_of_pos (by lia), Int.one_mul]
theorem bottom_msr {a b : Int} (hb : b ≠ 0) : b.fdiv (msr a b) = (Rat.divInt a b).den := by
  rw [Rat.den_divInt, if_neg hb, Int.gcd_comm b a]
  have d : (Int.gcd a b : Int) ∣ b := Int.gcd_dvd_right ..
  rw [Int.natCast_ediv]
  unfold msr
  split
  · rename_i h
    rw [fdiv_neg_dvd d, ← Int.neg_ediv_of_dvd d, Int.ofNat_natAbs_of_nonpos (by lia)]
  · rw [fdiv_dvd d, Int.natAbs_of_nonneg (by lia)]
/-- one turn of the search for the common measure -/
theorem gcd_turn (x y : Int) : Int.gcd y (x % y) = Int.gcd x y := by
  have e : x % y + y * (x / y) = x := Int.emod_add_mul_ediv x y
  have h : Int.gcd (x % y + y * (x / y)) y = Int.gcd (x % y) y := Int.gcd_add_mul_left_left ..
  rw [e] at h
  rw [h, Int.gcd_comm]
theorem abs_if (i : Int) : (if i < 0 then -i else i) = (i.natAbs : Int) := by split <;> lia
theorem num_mul (q : Rat) : ((q.num : Int) : Rat) = q * ((q.den : Int) : Rat) := by
  have hd : ((q.den : Nat) : Int) ≠ 0 := by have := q.den_pos; lia
  have h1 : q = (q.num : Rat) / ((q.den : Int) : Rat) := by
    have := Rat.num_divInt_den q
    rw [Rat.divInt_eq_div] at this
    exact this.symm
  have h0 : (((q.den : Int)) : Rat) ≠ 0 := fun z => hd (by exact_mod_cast z)
  conv => rhs; lhs; rw [h1]
  rw [Rat.div_mul_cancel h0]
theorem den_ne (q : Rat) : ((q.den : Nat) : Int) ≠ 0 := by have := q.den_pos; lia
theorem cast_ne {a : Int} (h : a ≠ 0) : (a : Rat) ≠ 0 := fun z => h (by exact_mod_cast z)
theorem div_eq {t b : Int} {q : Rat} (hb : b ≠ 0) (h : (t : Rat) = q * (b : Rat)) : Rat.divInt t b = q := by
  rw [Rat.divInt_eq_div, h, Rat.mul_div_cancel (cast_ne hb)]
theorem plus_eq (p q : Rat) : Rat.divInt (p.num * q.den + q.num * p.den) (p.den * q.den) = p + q :=
  div_eq (Int.mul_ne_zero (den_ne p) (den_ne q)) (by rw [Rat.intCast_add, Rat.intCast_mul, Rat.intCast_mul, Rat.intCast_mul, num_mul p, num_mul q]; grind)
theorem minus_eq (p q : Rat) : Rat.divInt (p.num * q.den - q.num * p.den) (p.den * q.den) = p - q :=
  div_eq (Int.mul_ne_zero (den_ne p) (den_ne q)) (by rw [Rat.intCast_sub, Rat.intCast_mul, Rat.intCast_mul, Rat.intCast_mul, num_mul p, num_mul q]; grind)
theorem times_eq (p q : Rat) : Rat.divInt (p.num * q.num) (p.den * q.den) = p * q :=
  div_eq (Int.mul_ne_zero (den_ne p) (den_ne q)) (by rw [Rat.intCast_mul, Rat.intCast_mul, num_mul p, num_mul q]; grind)
theorem pow_add (x : Rat) (m : Nat) : ∀ n : Nat, x ^ (m + n) = x ^ m * x ^ n
  | 0 => by rw [Nat.add_zero, Rat.pow_zero]; grind
  | n + 1 => by rw [← Nat.add_assoc, Rat.pow_succ, Rat.pow_succ, pow_add x m n]; grind
end Nm

/-! curves: the mathematics -/
namespace Cv
/-- the height at x -/
def ev : List Rat → Rat → Rat
  | [], _ => 0
  | q :: r, x => q + x * ev r x
/-- without the noughts at the end -/
def strip : List Rat → List Rat
  | [] => []
  | q :: r => if strip r = [] ∧ q = 0 then [] else q :: strip r
theorem ev_strip (x : Rat) : ∀ qs, ev (strip qs) x = ev qs x
  | [] => rfl
  | q :: r => by
    have ih := ev_strip x r
    unfold strip
    split
    · rename_i h
      rw [h.1] at ih
      show (0 : Rat) = q + x * ev r x
      rw [← ih, h.2]; show (0 : Rat) = 0 + x * 0; grind
    · show q + x * ev (strip r) x = _
      rw [ih]; rfl
theorem strip_length : ∀ qs, (strip qs).length ≤ qs.length
  | [] => Nat.le_refl _
  | q :: r => by
    have ih := strip_length r
    unfold strip
    split
    · exact Nat.zero_le _
    · exact Nat.succ_le_succ ih
theorem strip_last : ∀ qs, strip qs ≠ [] → (strip qs)[(strip qs).length - 1]? ≠ some 0
  | [], h => absurd rfl h
  | q :: r, h => by
    have ih := strip_last r
    unfold strip at h ⊢
    split at h
    · exact absurd rfl h
    · rename_i hc
      rw [if_neg hc]
      by_cases e : strip r = []
      · rw [e]
        intro z
        have z' : q = 0 := by simpa using z
        exact hc ⟨e, z'⟩
      · have hl : 0 < (strip r).length := List.length_pos_iff.mpr e
        rw [List.length_cons, show (strip r).length + 1 - 1 = ((strip r).length - 1) + 1 by lia, List.getElem?_cons_succ]
        exact ih e
theorem strip_mem : ∀ qs q, q ∈ strip qs → q ∈ qs
  | [], _, h => h
  | p :: r, q, h => by
    unfold strip at h
    split at h
    · cases h
    · rcases List.mem_cons.mp h with e | e
      · exact e ▸ List.mem_cons_self
      · exact List.mem_cons_of_mem _ (strip_mem r q e)
/-- what the loop from the end finds -/
theorem take_strip : ∀ (qs : List Rat) (w : Nat), (∀ j q, w ≤ j → qs[j]? = some q → q = 0) → (w = 0 ∨ ∃ q, qs[w - 1]? = some q ∧ q ≠ 0) → qs.take w = strip qs
  | [], w, _, _ => by simp [strip]
  | p :: r, 0, h, _ => by
    have ih := take_strip r 0 (fun j q _ e => h (j + 1) q (by lia) (by simpa using e)) (.inl rfl)
    have hp : p = 0 := h 0 p (Nat.le_refl _) rfl
    unfold strip
    rw [← ih, if_pos ⟨rfl, hp⟩]; rfl
  | p :: r, w + 1, h, h2 => by
    have hz : ∀ j q, w ≤ j → r[j]? = some q → q = 0 := fun j q hj e => h (j + 1) q (by lia) (by simpa using e)
    by_cases hw : w = 0
    · subst hw
      have ih := take_strip r 0 hz (.inl rfl)
      rcases h2 with z | ⟨q, e, hq⟩
      · exact absurd z (by lia)
      · have e' : p = q := by simpa using e
        subst e'
        unfold strip
        rw [← ih, if_neg (fun z => hq z.2)]; rfl
    · have ih := take_strip r w hz (by
        rcases h2 with z | ⟨q, e, hq⟩
        · exact absurd z (by lia)
        · refine .inr ⟨q, ?_, hq⟩
          rw [show w + 1 - 1 = (w - 1) + 1 by lia, List.getElem?_cons_succ] at e
          exact e)
      have hne : strip r ≠ [] := by
        rw [← ih]
        rcases h2 with z | ⟨q, e, hq⟩
        · exact absurd z (by lia)
        · rw [show w + 1 - 1 = (w - 1) + 1 by lia, List.getElem?_cons_succ] at e
          intro z
          have hl : 0 < (r.take w).length := by
            rw [List.length_take]
            have := (List.getElem?_eq_some_iff.mp e).1
            lia
          rw [z] at hl; simp at hl
      unfold strip
      rw [← ih, if_neg (fun z => hne (by rw [← ih]; exact z.1))]; rfl
/-- by powers -/
def pw : List Rat → Rat → Rat → Rat
  | [], _, _ => 0
  | q :: r, x, p => q * p + pw r x (p * x)
theorem ev_scale (c x : Rat) : ∀ qs, ev (qs.map (· * c)) x = ev qs x * c
  | [] => by show (0 : Rat) = 0 * c; grind
  | q :: r => by
    show q * c + x * ev (r.map (· * c)) x = (q + x * ev r x) * c
    rw [ev_scale c x r]; grind
theorem ev_snoc (x q : Rat) : ∀ l : List Rat, ev (l ++ [q]) x = ev l x + q * x ^ l.length
  | [] => by show q + x * 0 = 0 + q * x ^ 0; rw [Rat.pow_zero]; grind
  | p :: r => by
    show p + x * ev (r ++ [q]) x = (p + x * ev r x) + q * x ^ (r.length + 1)
    rw [ev_snoc x q r, Rat.pow_succ]; grind
theorem ev_set (x d : Rat) : ∀ (l : List Rat) (i : Nat) (v : Rat), l[i]? = some v → ev (l.set i (v + d)) x = ev l x + d * x ^ i
  | [], _, _, h => by simp at h
  | q :: r, 0, v, h => by
    have e : q = v := by simpa using h
    subst e
    show (q + d) + x * ev r x = (q + x * ev r x) + d * x ^ 0
    rw [Rat.pow_zero]; grind
  | q :: r, i + 1, v, h => by
    show q + x * ev (r.set i (v + d)) x = (q + x * ev r x) + d * x ^ (i + 1)
    rw [ev_set x d r i v (by simpa using h), Rat.pow_succ]; grind
theorem ev_zeros (x : Rat) : ∀ n, ev (List.replicate n 0) x = 0
  | 0 => rfl
  | n + 1 => by
    show (0 : Rat) + x * ev (List.replicate n 0) x = 0
    rw [ev_zeros x n]; grind
/-- whole tops -/
def evI (ts : List Int) (x : Rat) : Rat := ev (ts.map fun t : Int => (t : Rat)) x
theorem evI_set (x : Rat) (l : List Int) (i : Nat) (v d : Int) (h : l[i]? = some v) : evI (l.set i (v + d)) x = evI l x + (d : Rat) * x ^ i := by
  unfold evI
  rw [List.map_set, Rat.intCast_add]
  exact ev_set x _ _ i _ (by rw [List.getElem?_map, h]; rfl)
theorem evI_zeros (x : Rat) (n : Nat) : evI (List.replicate n 0) x = 0 := by
  unfold evI
  rw [List.map_replicate]
  exact ev_zeros x n
theorem evI_take_succ (x : Rat) (l : List Int) (i : Nat) (v : Int) (h : l[i]? = some v) : evI (l.take (i + 1)) x = evI (l.take i) x + (v : Rat) * x ^ i := by
  have hi : i < l.length := (List.getElem?_eq_some_iff.mp h).1
  unfold evI
  rw [List.take_add_one, h]
  show ev ((l.take i ++ [v]).map _) x = _
  rw [List.map_append]
  show ev (_ ++ [(v : Rat)]) x = _
  rw [ev_snoc, List.length_map, List.length_take, Nat.min_eq_left (by lia)]
/-! ### a curve that is nought at more places than it has numbers -/
/-- what is left when the curve, less its height at c, is divided by x - c -/
def quot (c : Rat) : List Rat → List Rat
  | [] => []
  | [_] => []
  | _ :: b :: l => ev (b :: l) c :: quot c (b :: l)
theorem quot_ev (c x : Rat) : ∀ l : List Rat, ev l x = ev l c + (x - c) * ev (quot c l) x
  | [] => by show (0 : Rat) = 0 + _ * 0; grind
  | [a] => by show a + x * 0 = a + c * 0 + (x - c) * 0; grind
  | a :: b :: l => by
    have h := quot_ev c x (b :: l)
    show a + x * ev (b :: l) x = a + c * ev (b :: l) c + (x - c) * (ev (b :: l) c + x * ev (quot c (b :: l)) x)
    rw [h]; grind
theorem quot_length (c : Rat) : ∀ l : List Rat, (quot c l).length = l.length - 1
  | [] => rfl
  | [_] => rfl
  | _ :: b :: l => by
    show (quot c (b :: l)).length + 1 = _
    rw [quot_length c (b :: l)]
    simp
theorem ev_none (x : Rat) : ∀ l : List Rat, (∀ q ∈ l, q = 0) → ev l x = 0
  | [], _ => rfl
  | a :: l, h => by
    show a + x * ev l x = 0
    rw [h a List.mem_cons_self, ev_none x l fun q hq => h q (List.mem_cons_of_mem _ hq)]
    grind
theorem ident : ∀ (n : Nat) (l : List Rat), l.length ≤ n → ∀ s : Nat, (∀ k : Nat, s ≤ k → ev l (k : Rat) = 0) → ∀ q ∈ l, q = 0
  | 0, l, hl, _, _ => by
    have e : l = [] := List.eq_nil_of_length_eq_zero (by lia)
    rw [e]
    exact fun q h => nomatch h
  | n + 1, [], _, _, _ => fun q h => nomatch h
  | n + 1, a :: t, hl, s, h => by
    have hs := h s (Nat.le_refl _)
    have hq : ∀ q ∈ quot (s : Rat) (a :: t), q = 0 := ident n _ (by rw [quot_length]; simp at hl ⊢; lia) (s + 1) fun k hk => by
      have e := quot_ev (s : Rat) (k : Rat) (a :: t)
      rw [h k (by lia), hs] at e
      have e2 : ((k : Rat) - (s : Rat)) * ev (quot (s : Rat) (a :: t)) (k : Rat) = 0 := by grind
      rcases Rat.mul_eq_zero.mp e2 with z | z
      · have z2 : (k : Rat) = (s : Rat) := by grind
        have z3 : k = s := by exact_mod_cast z2
        lia
      · exact z
    have hall : ∀ x, ev (a :: t) x = 0 := fun x => by
      rw [quot_ev (s : Rat) x (a :: t), hs, ev_none x _ hq]; grind
    have ha : a = 0 := by
      have := hall 0
      show a = 0
      have e : ev (a :: t) 0 = a + 0 * ev t 0 := rfl
      rw [e] at this
      grind
    have ht : ∀ q ∈ t, q = 0 := ident n t (by simp at hl; lia) 1 fun k hk => by
      have e := hall (k : Rat)
      have e1 : ev (a :: t) (k : Rat) = a + (k : Rat) * ev t (k : Rat) := rfl
      rw [e1, ha] at e
      have e2 : (k : Rat) * ev t (k : Rat) = 0 := by grind
      rcases Rat.mul_eq_zero.mp e2 with z | z
      · have z3 : k = 0 := by exact_mod_cast z
        lia
      · exact z
    intro q hq'
    rcases List.mem_cons.mp hq' with z | z
    · rw [z]; exact ha
    · exact ht q z
end Cv

/-! own layer, part 1: a list comprehension -/
namespace L2
open PySem PySem.Spec PyProof.Rows

/-! ### the cells that a comprehension closes over -/
theorem closure_ok {env : Env} : ∀ (names : List (Str × NameKind)) (acc : List (Str × Addr)), (∀ x ∈ names, x.2 = .free → ∃ c, env.cells.lookup x.1 = some c) →
    ∃ cl : List (Str × Addr), (forIn (m := Sem) names acc fun x r => do
        if x.2 == .free then pure (ForInStep.yield ((x.1, ← cellOf env x.1) :: r)) else pure (ForInStep.yield r)) = pure cl ∧
      (∀ p ∈ cl, p ∈ acc ∨ env.cells.lookup p.1 = some p.2) ∧ (∀ p ∈ acc, p ∈ cl) ∧ ∀ x ∈ names, x.2 = .free → ∃ c, (x.1, c) ∈ cl
  | [], acc, _ => ⟨acc, rfl, fun _ h => .inl h, fun _ h => h, fun _ h => nomatch h⟩
  | x :: r, acc, h => by
    by_cases hk : x.2 = .free
    · obtain ⟨c, hc⟩ := h x List.mem_cons_self hk
      obtain ⟨cl, e, h1, h2, h3⟩ := closure_ok r ((x.1, c) :: acc) fun y hy => h y (List.mem_cons_of_mem _ hy)
      refine ⟨cl, ?_, fun p hp => ?_, fun p hp => h2 p (List.mem_cons_of_mem _ hp), fun y hy hf => ?_⟩
      · rw [List.forIn_cons]
        have z : (x.2 == NameKind.free) = true := by rw [hk]; rfl
        have cell : cellOf env x.1 = pure c := by unfold cellOf; rw [hc]
        simp only [z, if_true, cell]
        exact e
      · rcases h1 p hp with q | q
        · rcases List.mem_cons.mp q with rfl | q
          · exact .inr hc
          · exact .inl q
        · exact .inr q
      · rcases List.mem_cons.mp hy with rfl | hy
        · exact ⟨c, h2 _ List.mem_cons_self⟩
        · exact h3 y hy hf
    · obtain ⟨cl, e, h1, h2, h3⟩ := closure_ok r acc fun y hy => h y (List.mem_cons_of_mem _ hy)
      refine ⟨cl, ?_, h1, h2, fun y hy hf => ?_⟩
      · rw [List.forIn_cons]
        have z : (x.2 == NameKind.free) = false := by
          cases e : x.2 <;> first | rfl | exact absurd e hk
        simp only [z, Bool.false_eq_true, if_false]
        exact e
      · rcases List.mem_cons.mp hy with rfl | hy
        · exact absurd hf hk
        · exact h3 y hy hf
theorem lookup_of_mem {x : Str} {c : Addr} : ∀ {cl : List (Str × Addr)}, (x, c) ∈ cl → ∃ c', cl.lookup x = some c'
  | [], h => nomatch h
  | (y, d) :: r, h => by
    by_cases e : x = y
    · subst e; exact ⟨d, by simp⟩
    · rcases List.mem_cons.mp h with q | q
      · cases q; exact absurd rfl e
      · obtain ⟨c', q'⟩ := lookup_of_mem q
        refine ⟨c', ?_⟩
        have : (x == y) = false := by simpa using e
        rw [List.lookup_cons, this]
        exact q'
theorem closureFor_ok {scope : Scope} {env : Env} (h : ∀ x ∈ scope.names, x.2 = .free → ∃ c, env.cells.lookup x.1 = some c) :
    ∃ cl : List (Str × Addr), closureFor scope env = pure cl ∧ (∀ x c, cl.lookup x = some c → env.cells.lookup x = some c) ∧ ∀ x ∈ scope.names, x.2 = .free → ∃ c, cl.lookup x.1 = some c := by
  obtain ⟨cl, e, h1, _, h3⟩ := closure_ok scope.names [] h
  refine ⟨cl, ?_, fun x c q => ?_, fun x hx hf => ?_⟩
  · unfold closureFor
    simp only [bind_pure]
    exact e
  · rcases h1 _ (PySem.mem_of_lookup q) with z | z
    · exact nomatch z
    · exact z
  · obtain ⟨c, hc⟩ := h3 x hx hf
    exact lookup_of_mem hc

/-- what stands in the block's table: a name that was free -/
theorem lookup_relabel_free {env : Env} : ∀ {names : List (Str × NameKind)} {x : Str}, names.lookup x = some .free →
    (names.map fun (n, k) => if (k == NameKind.free && env.scope.kind == .function && env.kindOf n == some .cell) then (n, NameKind.cell) else (n, k)).lookup x = some .cell ∨
    (names.map fun (n, k) => if (k == NameKind.free && env.scope.kind == .function && env.kindOf n == some .cell) then (n, NameKind.cell) else (n, k)).lookup x = some .free
  | [], _, h => by simp at h
  | (n, k) :: r, x, h => by
    have ih := @lookup_relabel_free env r x
    show List.lookup x ((if (k == NameKind.free && env.scope.kind == .function && env.kindOf n == some .cell) = true then (n, NameKind.cell) else (n, k)) :: _) = _ ∨ List.lookup x ((if (k == NameKind.free && env.scope.kind == .function && env.kindOf n == some .cell) = true then (n, NameKind.cell) else (n, k)) :: _) = _
    cases hx : x == n with
    | true =>
      simp only [List.lookup_cons, hx] at h
      cases h
      by_cases hc : (NameKind.free == NameKind.free && env.scope.kind == .function && env.kindOf n == some .cell) = true
      · rw [if_pos hc]; simp [List.lookup_cons, hx]
      · rw [if_neg hc]; simp [List.lookup_cons, hx]
    | false =>
      simp only [List.lookup_cons, hx] at h
      by_cases hc : (k == NameKind.free && env.scope.kind == .function && env.kindOf n == some .cell) = true
      · rw [if_pos hc]; simp only [List.lookup_cons, hx]; exact ih h
      · rw [if_neg hc]; simp only [List.lookup_cons, hx]; exact ih h
/-- a name of the block that has a cell was free -/
theorem relabel_free {env : Env} {x : Str} : ∀ {names : List (Str × NameKind)}, (∀ y ∈ names, y.2 ≠ .cell) →
    ((names.map fun (n, k) => if (k == NameKind.free && env.scope.kind == .function && env.kindOf n == some .cell) then (n, NameKind.cell) else (n, k)).lookup x = some .cell ∨
     (names.map fun (n, k) => if (k == NameKind.free && env.scope.kind == .function && env.kindOf n == some .cell) then (n, NameKind.cell) else (n, k)).lookup x = some .free) → (x, NameKind.free) ∈ names
  | [], _, h => by simp at h
  | (n, k) :: r, hc, h => by
    have ih := @relabel_free env x r fun y hy => hc y (List.mem_cons_of_mem _ hy)
    have hk : k ≠ .cell := hc (n, k) List.mem_cons_self
    change List.lookup x ((if (k == NameKind.free && env.scope.kind == .function && env.kindOf n == some .cell) = true then (n, NameKind.cell) else (n, k)) :: _) = _ ∨ List.lookup x ((if (k == NameKind.free && env.scope.kind == .function && env.kindOf n == some .cell) = true then (n, NameKind.cell) else (n, k)) :: _) = _ at h
    cases hx : x == n with
    | true =>
      have e : x = n := by simpa using hx
      subst e
      by_cases hq : (k == NameKind.free && env.scope.kind == .function && env.kindOf x == some .cell) = true
      · have : k = .free := by
          cases k <;> first | rfl | (simp at hq)
        subst this; exact List.mem_cons_self
      · rw [if_neg hq] at h
        simp only [List.lookup_cons, hx] at h
        rcases h with h | h
        · cases h; exact absurd rfl hk
        · cases h; exact List.mem_cons_self
    | false =>
      refine List.mem_cons_of_mem _ (ih ?_)
      by_cases hq : (k == NameKind.free && env.scope.kind == .function && env.kindOf n == some .cell) = true
      · rw [if_pos hq] at h; simpa only [List.lookup_cons, hx] using h
      · rw [if_neg hq] at h; simpa only [List.lookup_cons, hx] using h

/-! ### the block -/
/-- the context of a comprehension's block: its names are the target's, then those that it closes over -/
def cxComp (X : Cx) (N : List Str) (scope : Scope) (cl : List (Str × Addr)) (C : Addr) (s : Shared) (H : Hp) (fp : List Addr) : Cx :=
  { prog := X.prog, w := X.w, K := X.K, mg := X.mg, base := X.base, A := X.A, N := N, s₀ := s, H₀ := H, env := compEnvC scope cl C X.env, outer := X.stack, stack := X.stack, ex := fp,
    fn := fun _ => false, calm := X.calm, pn := [], xe := fun _ _ => False }
/-- the block's slots: nt for the target, then the outer ones at js -/
def cS (nt : Nat) (js : List Nat) (σ : St) : St := List.replicate nt none ++ js.map fun i => σ.getD i none
abbrev lstO (ys : List Value) : Obj := { cls := .type "list", data := .seq ys.toArray ys.length }

theorem compLoop_any {prog : Program} {w : World} {A : Around} {R : Result → Shared → Prop} {s : Shared} {elt target iter : Expr} {ifs : List Expr} {scope : Scope} {pos : Pos} {it acc : Value} {env : Env} (I : Nat → Shared → Prop)
    (turn : ∀ n s, I n s → wpAny (model prog w) A (pyNext it) (fun r s₁ => match r with
      | none => R (.ok .next) s₁
      | some v => wpAny (model prog w) A (letOwnedTupleGo target it v) (fun _ s₁' => wpAny (model prog w) A (assign target env v) (fun _ s₂ =>
          wpAny (model prog w) A (forIn ifs true fun c r => if r = true then do let ok ← isTrue c env (eval c env); pure (ForInStep.yield ok) else pure (ForInStep.yield r)) (fun ok s₃ =>
            if ok = true then wpAny (model prog w) A (eval elt env) (fun x s₄ =>
              wpAny (model prog w) A (call (.builtin "list.append") [acc, x]) (fun _ s₅ => ∃ m, m < n ∧ I m s₅) (fun _ _ => False) s₄) (fun _ _ => False) s₃
            else ∃ m, m < n ∧ I m s₃) (fun _ _ => False) s₂) (fun _ _ => False) s₁') (fun _ _ => False) s₁) (fun _ _ => False) s)
    (n : Nat) (h : I n s) :
    codeAny (model prog w) A (.compLoop (.ListComp elt [⟨target, iter, ifs, 0⟩] scope pos) 0 it acc env) R s := by
  refine codeAny_loop rfl I (fun n s hI => ?_) n h
  show wpAny _ A ((compTurn (.ListComp elt [⟨target, iter, ifs, 0⟩] scope pos) 0 it acc env).onRaise (fun x => do noteFrame x env; theTreesLotGoes x)) _ _ s
  refine wpAny_noted ?_
  rw [compTurn_list]
  refine wpAny_bind (wpAny_standAt (wpAny_bind (wpAny_mono (turn n s hI) (fun r s₁ h₁ => ?_) fun _ _ h' => h'.elim)))
  cases r with
  | none => exact wpAny_pure h₁
  | some v =>
    refine wpAny_bind (wpAny_mono h₁ (fun _ s₁' h₁' => ?_) fun _ _ h' => h'.elim)
    refine wpAny_bind (wpAny_mono h₁' (fun _ s₂ h₂ => wpAny_bind (wpAny_mono h₂ (fun ok s₃ h₃ => ?_) fun _ _ h' => h'.elim)) fun _ _ h' => h'.elim)
    cases ok with
    | false => exact wpAny_pure ⟨rfl, h₃⟩
    | true =>
      exact wpAny_bind (wpAny_bind (wpAny_mono h₃ (fun x s₄ h₄ => wpAny_bind (wpAny_mono h₄ (fun _ s₅ h₅ => wpAny_pure (wpAny_pure ⟨rfl, h₅⟩)) fun _ _ h' => h'.elim)) fun _ _ h' => h'.elim))

/-- the tests of a clause -/
def PTs (X : Cx) (ifs : List Expr) (t : TT) : Prop :=
  ∀ (pins : List (Addr × Obj)) (s : Shared) (σ : St) (H : Hp) (Q : Bool → Hp → Prop), Inv X pins σ H s → t σ H Q →
    wpAny (model X.prog X.w) X.A (forIn ifs true fun c r => if r = true then do let ok ← isTrue c X.env (eval c X.env); pure (ForInStep.yield ok) else pure (ForInStep.yield r)) (TP X pins σ Q) X.xe s
def tYes : TT := fun _ H Q => Q true H
theorem pts_nil {X : Cx} : PTs X [] tYes := fun _ _ _ H _ I h => wpAny_tests_nil ⟨H, I, h⟩
/-- what a comprehension's n turns are to keep -/
structure LcW (J : It) (n nt : Nat) (js : List Nat) (σ : St) (g : TG) (tc : TT) (te : TE) (Fin : List V → Hp → Prop) (W : Nat → List V → Hp → Prop) : Prop where
  go : ∀ i zs H, i < n → W i zs H → J.go i H ∧ zs.length < sizeLine
  step : ∀ i zs H x H', i < n → W i zs H → J.yld i H x H' → g x (cS nt js σ) H' fun σ2 H2 => tc σ2 H2 fun b H3 => if b = true then te σ2 H3 fun y H4 => W (i + 1) (zs ++ [y]) H4 else W (i + 1) zs H3
  stop : ∀ zs H, W n zs H → J.stop n H ∧ zs.length ≤ sizeLine ∧ Fin zs H
@[irreducible] def tLC (wi : TI) (nt : Nat) (js : List Nat) (g : TG) (tc : TT) (te : TE) : TE := fun σ H Q => wi σ H fun J H1 =>
  ∃ (n : Nat) (W : Nat → List V → Hp → Prop), W 0 [] H1 ∧ LcW J n nt js σ g tc te (fun zs H' => ∀ p, H' p = none → Q (.ref p) (upd H' p (.lst zs))) W

theorem lc_of {wi : TI} {nt : Nat} {js : List Nat} {g : TG} {tc : TT} {te : TE} {σ : St} {H : Hp} {Q : VK}
    (h : wi σ H fun J H1 => ∃ (n : Nat) (W : Nat → List V → Hp → Prop), W 0 [] H1 ∧ LcW J n nt js σ g tc te (fun zs H' => ∀ p, H' p = none → Q (.ref p) (upd H' p (.lst zs))) W) : tLC wi nt js g tc te σ H Q := by
  unfold tLC; exact h
theorem lc_to {wi : TI} {nt : Nat} {js : List Nat} {g : TG} {tc : TT} {te : TE} {σ : St} {H : Hp} {Q : VK} (h : tLC wi nt js g tc te σ H Q) :
    wi σ H fun J H1 => ∃ (n : Nat) (W : Nat → List V → Hp → Prop), W 0 [] H1 ∧ LcW J n nt js σ g tc te (fun zs H' => ∀ p, H' p = none → Q (.ref p) (upd H' p (.lst zs))) W := by
  unfold tLC at h; exact h

/-- what the block's names need -/
structure CompOk (X : Cx) (N : List Str) (nt : Nat) (js : List Nat) (scope : Scope) : Prop where
  kind : scope.kind = .function
  nocell : ∀ y ∈ scope.names, y.2 ≠ .cell
  names : ∀ y ∈ scope.names, y.2 = .local → scope.names.lookup y.1 = some .local
  free : ∀ y ∈ scope.names, y.2 = .free → X.env.kindOf y.1 = some .cell ∨ X.env.kindOf y.1 = some .free
  len : N.length = nt + js.length
  outer : ∀ j i, js[j]? = some i → ∃ x, N[nt + j]? = some x ∧ X.N[i]? = some x ∧ scope.names.lookup x = some .free

/-- .. by looking -/
def compOkB (NX : List Str) (sc : Scope) (N : List Str) (nt : Nat) (js : List Nat) (scope : Scope) : Bool :=
  decide (scope.kind = .function) && scope.names.all (fun y => decide (y.2 ≠ .cell)) && scope.names.all (fun y => decide (y.2 ≠ .local) || decide (scope.names.lookup y.1 = some .local)) &&
  scope.names.all (fun y => decide (y.2 ≠ .free) || (decide (sc.names.lookup y.1 = some .cell) || decide (sc.names.lookup y.1 = some .free))) && decide (N.length = nt + js.length) &&
  (List.range js.length).all fun j => match js[j]?, N[nt + j]? with
    | some i, some x => decide (NX[i]? = some x) && decide (scope.names.lookup x = some .free)
    | _, _ => false
theorem CompOk.look {X : Cx} {NX N : List Str} {sc scope : Scope} {nt : Nat} {js : List Nat} (hN : X.N = NX) (hs : X.env.scope = sc) (h : compOkB NX sc N nt js scope = true) : CompOk X N nt js scope := by
  unfold compOkB at h
  simp only [Bool.and_eq_true, List.all_eq_true, Bool.or_eq_true, decide_eq_true_eq] at h
  obtain ⟨⟨⟨⟨⟨h1, h2⟩, h3⟩, h4⟩, h5⟩, h6⟩ := h
  refine ⟨h1, h2, fun y hy hl => (h3 y hy).resolve_left fun z => z hl, fun y hy hf => ?_, h5, fun j i e => ?_⟩
  · have q := (h4 y hy).resolve_left fun z => z hf
    rw [← hs] at q
    exact q
  · have hj : j < js.length := (List.getElem?_eq_some_iff.mp e).1
    have q := h6 j (List.mem_range.mpr hj)
    rw [e] at q
    cases en : N[nt + j]? with
    | none => rw [en] at q; cases q
    | some x =>
      rw [en] at q
      simp only [Bool.and_eq_true, decide_eq_true_eq] at q
      exact ⟨x, rfl, by rw [hN]; exact q.1, q.2⟩

section
variable {X : Cx} {N : List Str} {nt : Nat} {js : List Nat} {scope : Scope} {cl : List (Str × Addr)}
theorem HOk.track {P : Program} {w : World} {H : Hp} {h : Heap} {a : Addr} {o : HO} (x : HOk P w H h) (hn : H a = none) (new : ObjOk P w (upd H a o) h a o) : HOk P w (upd H a o) h := fun b u e => by
  by_cases hb : b = a
  · subst hb; rw [upd_same] at e; cases e; exact new
  · rw [upd_ne hb] at e
    exact (x b u e).stay (fun c v _ q => q) (fun c q => by rw [upd_ne (ne_of_none q hn)]; exact q) fun c xs q => by rw [upd_ne (ne_of_none q hn)]; exact q

/-- the block's entry -/
theorem inv_comp {pins : List (Addr × Obj)} {σ : St} {H : Hp} {s : Shared} {C D : Addr} {h' : Heap} {tk : Nat} {fp : List Addr} {m : Str → Option Value} (I : Inv X pins σ H s) (ok : CompOk X N nt js scope)
    (hcl : ∀ x c, cl.lookup x = some c → X.env.cells.lookup x = some c) (hcl2 : ∀ x ∈ scope.names, x.2 = .free → ∃ c, cl.lookup x.1 = some c)
    (hf : ∀ b ∈ fp, FpOk X pins H b) (ho : ∀ b ∈ fp, ∃ o, s.heap.get? b = some o ∧ ∀ v, o.data ≠ .cell v)
    (hD : s.heap.objs.size ≤ D) (hC : s.heap.objs.size ≤ C) (hDC : D ≠ C) (k : ∀ b o, s.heap.get? b = some o → h'.get? b = some o) (hn : h'.Ns C m) (hd : h'.get? D = some (lstO [])) :
    Inv (cxComp X N scope cl C s H fp) [(D, lstO [])] (cS nt js σ) H { s with heap := h', toks := tk } := by
  have lt : ∀ b ∈ fp, b < s.heap.objs.size := fun b hb => by obtain ⟨o, e, _⟩ := ho b hb; exact Heap.lt_size e
  have frlt : ∀ b ∈ frs X.stack, b < s.heap.objs.size := fun b hb => by
    obtain ⟨_, o, e, _⟩ := I.stack.mem hb
    exact Heap.lt_size e
  refine ⟨⟨I.ok.mod, ok.kind, I.ok.glob, I.ok.blt, hC, fun x y c h1 h2 => I.ok.inj x y c (hcl x c h1) (hcl y c h2), fun x hx => ?_, fun x c hx => absurd hx Bool.false_ne_true, I.ok.hd, I.ok.frames, .inl rfl, fun b hb => ⟨?_, fun x c e => (hf b hb).2.2.2.2.1 x c (hcl x c e)⟩, I.bs,
      Nat.le_trans I.ok.bsz I.sz, fun b o e hb => ?_, fun b hb hs => ?_, I.stack, I.stkFree⟩, rfl, I.bare, Un.kept k, ⟨m, hn, fun j x v h1 h2 h3 => ?_⟩, fun x c e => ?_, I.hok.fresh hC, fun x c e => I.freeC x c (hcl x c e), fun p hp => ?_, I.hok.kept k, ?_⟩
  · obtain ⟨c, hc⟩ := hcl2 (x, .free) (relabel_free ok.nocell hx) rfl
    exact ⟨c, hc⟩
  · exact Nat.ne_of_lt (Nat.lt_of_lt_of_le (lt b hb) hC)
  · rcases (hf b hb).2.2.2.1 with z | z
    · exact I.ok.noex b o e z
    · exact absurd (Nat.lt_of_lt_of_le (Heap.lt_size e) (Nat.le_trans I.ok.bsz z)) (Nat.lt_irrefl _)
  · rcases List.mem_cons.mp (I.stkSub b hs) with z | z
    · exact (hf b hb).2.1 z
    · exact (hf b hb).2.2.1 z
  · change N[j]? = some x at h1
    unfold cS at h2
    by_cases hj : j < nt
    · rw [List.getElem?_append_left (by simpa using hj), List.getElem?_replicate] at h2
      rw [if_pos hj] at h2; cases h2
    · rw [List.getElem?_append_right (by simpa using Nat.not_lt.mp hj), List.length_replicate, List.getElem?_map] at h2
      cases ei : js[j - nt]? with
      | none => rw [ei] at h2; cases h2
      | some i =>
        rw [ei] at h2
        obtain ⟨y, e1, e2, e3⟩ := ok.outer _ i ei
        rw [show nt + (j - nt) = j by lia, h1] at e1
        cases e1
        have hv : σ[i]? = some (some v) := by
          simp only [Option.map_some, Option.some.injEq] at h2
          rw [List.getD_eq_getElem?_getD] at h2
          cases eσ : σ[i]? with
          | none => rw [eσ] at h2; cases h2
          | some z => rw [eσ] at h2; simp at h2; rw [h2]
        obtain ⟨m₀, _, hl⟩ := I.loc
        have kf := ok.free (x, .free) (PySem.mem_of_lookup e3) rfl
        obtain ⟨u, r, l⟩ := hl i x v e2 hv (kf.elim (fun z => .inr (.inl z)) fun z => .inr (.inr z))
        refine ⟨u, r, .inr ⟨lookup_relabel_free e3, ?_⟩⟩
        rcases l with ⟨kl, _⟩ | ⟨_, c, ec, ⟨oc, hoc, hod⟩⟩
        · rcases kf with z | z <;> (rw [z] at kl; cases kl)
        · obtain ⟨c', hc'⟩ := hcl2 (x, .free) (PySem.mem_of_lookup e3) rfl
          have e' := hcl x c' hc'
          rw [ec] at e'
          cases e'
          exact ⟨c, hc', oc, k _ _ hoc, hod⟩
  · obtain ⟨v, oc, hoc, hod⟩ := I.cell x c (hcl x c e)
    exact ⟨v, oc, k _ _ hoc, hod⟩
  · have e : p = (D, lstO []) := by
      have hp' : p ∈ [(D, lstO [])] := hp
      simpa using hp'
    subst e
    refine ⟨hd, I.hok.fresh hD, hDC, fun hb => absurd (Nat.lt_of_lt_of_le (frlt D hb) hD) (Nat.lt_irrefl _), fun v z => by cases z⟩
  · show (cS nt js σ).length = N.length
    unfold cS
    rw [List.length_append, List.length_replicate, List.length_map, ok.len]
end
end L2

/-! own layer, part 2: a list comprehension runs -/
namespace L2
open PySem PySem.Spec PyProof.Rows

/-- the target's store leaves the other slots -/
def Stays (g : TG) (nt : Nat) : Prop := ∀ x σ H Q, g x σ H Q → g x σ H fun σ2 H2 => (σ2.length = σ.length ∧ σ2.drop nt = σ.drop nt) ∧ Q σ2 H2
theorem stays_name {i nt : Nat} (h : i < nt) : Stays (gName i) nt := fun x σ H Q q => ⟨⟨List.length_set, by
  apply List.ext_getElem?
  intro k
  rw [List.getElem?_drop, List.getElem?_drop, List.getElem?_set_ne (by lia)]⟩, q⟩

section
variable {X : Cx} {N : List Str} {nt : Nat} {js : List Nat} {scope : Scope} {elt iter tg : Expr} {ifs : List Expr} {pos : Pos} {g : TG} {tc : TT} {te : TE} {wi : TI}

theorem cS_weak {σ σ2 : St} (hl : σ2.length = (cS nt js σ).length) (hd : σ2.drop nt = (cS nt js σ).drop nt) : ∀ (i : Nat) v, (cS nt js σ)[i]? = some (some v) → σ2[i]? = some (some v) := fun i v e => by
  by_cases hi : i < nt
  · unfold cS at e
    rw [List.getElem?_append_left (by simpa using hi), List.getElem?_replicate, if_pos hi] at e
    cases e
  · have q : ((cS nt js σ).drop nt)[i - nt]? = some (some v) := by rw [List.getElem?_drop, show nt + (i - nt) = i by lia]; exact e
    rw [← hd, List.getElem?_drop, show nt + (i - nt) = i by lia] at q
    exact q

set_option maxHeartbeats 4000000 in
theorem comp_run {pins : List (Addr × Obj)} {σ : St} {H : Hp} {s₂ : Shared} {cl : List (Str × Addr)} {J : It} {fp : List Addr} {it : Addr} {tn : Nat → Heap → Prop} {E : Value → Shared → Prop} {Fin : List V → Hp → Prop} {W : Nat → List V → Hp → Prop} {nn : Nat}
    {RR : Value → Addr → Result → Shared → Prop} (hcalm : X.calm = true) (ok : CompOk X N nt js scope)
    (hcl : ∀ x c, cl.lookup x = some c → X.env.cells.lookup x = some c) (hcl2 : ∀ x ∈ scope.names, x.2 = .free → ∃ c, cl.lookup x.1 = some c)
    (hg : ∀ cl C s H fp, PG (cxComp X N scope cl C s H fp) tg g) (hk : Stays g nt) (hc : ∀ cl C s H fp, PTs (cxComp X N scope cl C s H fp) ifs tc) (he : ∀ cl C s H fp, PE (cxComp X N scope cl C s H fp) elt te)
    (I : Inv X pins σ H s₂) (T : Turn X.prog X.w X.K tg J fp it tn) (st : tn 0 s₂.heap) (hf : ∀ b ∈ fp, FpOk X pins H b) (w0 : W 0 [] H) (lw : LcW J nn nt js σ g tc te Fin W)
    (hRR : ∀ D C s' H' zs m, Inv X pins σ (upd H' D (.lst zs)) s' → s'.heap.Ns C m → H' D = none → (upd H' D (.lst zs)) C = none → C ≠ X.env.locals → X.s₀.heap.objs.size ≤ C → (∀ x c, X.env.cells.lookup x = some c → c ≠ C) →
      (∀ p ∈ X.pn ++ pins, p.1 ≠ C) → Fin zs H' → RR (.ref D) C (.ok .next) s') :
    wpAny (model X.prog X.w) X.A (newList []) (fun acc s₃ => wpAny (model X.prog X.w) X.A (newFunctionEnv scope X.env.globals cl [] X.env.qual none .none (some X.env)) (fun cenv s₄ =>
      codeAny (model X.prog X.w) X.A (.compStart (.ListComp elt [⟨tg, iter, ifs, 0⟩] scope pos) 0 (.ref it) acc { cenv with scope := relabel scope X.env }) (RR acc cenv.locals) s₄) E s₃) E s₂ := by
  refine wpAny_newObj_type (wpAny_newFunctionEnv ok.nocell (by intro y hy; simp at hy) (fun h₁ hns₁ hsb₁ => ?_) ok.kind)
  dsimp only at hns₁ hsb₁ ⊢
  generalize hH2 : s₂.heap.push { cls := .type "list", dict := none, data := .seq ([] : List Value).toArray } = H2 at hns₁ hsb₁ ⊢
  have hC : H2.objs.size = s₂.heap.objs.size + 1 := by rw [← hH2, Heap.size_push]
  have hDC : s₂.heap.objs.size ≠ H2.objs.size := by rw [hC]; exact Nat.ne_of_lt (Nat.lt_succ_self _)
  have hCle : s₂.heap.objs.size ≤ H2.objs.size := by rw [hC]; exact Nat.le_succ _
  have below : ∀ b, b < s₂.heap.objs.size → b ≠ H2.objs.size ∧ b ≠ s₂.heap.objs.size := fun b hb => ⟨by rw [hC]; exact Nat.ne_of_lt (Nat.lt_succ_of_lt hb), Nat.ne_of_lt hb⟩
  have old : ∀ b o, s₂.heap.get? b = some o → h₁.get? b = some o := fun b o e => hsb₁.extBut b o (below b (Heap.lt_size e)).1 (Heap.get?_push_of_some _ (hH2 ▸ Heap.get?_push_of_some _ e))
  have hacc : h₁.get? s₂.heap.objs.size = some (lstO []) := hsb₁.extBut _ _ hDC (Heap.get?_push_of_some _ (hH2 ▸ Heap.get?_push_size _ rfl))
  have ho := T.obj 0 _ st
  have lt : ∀ b ∈ fp, b < s₂.heap.objs.size := fun b hb => by obtain ⟨o, e, _⟩ := ho b hb; exact Heap.lt_size e
  have loop : ∀ s₃ : Shared, s₃ = { s₂ with heap := h₁, toks := s₂.toks + ([] : List (Str × Value)).length } →
      codeAny (model X.prog X.w) X.A (.compLoop (.ListComp elt [⟨tg, iter, ifs, 0⟩] scope pos) 0 (.ref it) (.ref s₂.heap.objs.size) (compEnvC scope cl H2.objs.size X.env)) (RR (.ref s₂.heap.objs.size) H2.objs.size) s₃ := by
    rintro s₃ rfl
    have I0 : Inv (cxComp X N scope cl H2.objs.size s₂ H fp) [(s₂.heap.objs.size, lstO [])] (cS nt js σ) H { s₂ with heap := h₁, toks := s₂.toks + ([] : List (Str × Value)).length } :=
      inv_comp I ok hcl hcl2 hf ho (Nat.le_refl _) hCle hDC old hns₁ hacc
    have fpy : ∀ {H' : Hp} {ys : List Value}, (∀ b ∈ fp, H' b = none) → ∀ b ∈ fp, FpOk (cxComp X N scope cl H2.objs.size s₂ H fp) [(s₂.heap.objs.size, lstO ys)] H' b := fun {H' ys} hn b hb =>
      ⟨hn b hb, (below b (lt b hb)).1, I0.ok.exfs b hb, .inl hb, (I0.ok.exf b hb).2, fun p hp => by
        have hp' : p ∈ [(s₂.heap.objs.size, lstO ys)] := hp
        have e : p = (s₂.heap.objs.size, lstO ys) := by simpa using hp'
        rw [e]; exact Ne.symm (below b (lt b hb)).2⟩
    refine compLoop_any (fun n s' => ∃ i zs ys H', n = nn - i ∧ i ≤ nn ∧ Inv (cxComp X N scope cl H2.objs.size s₂ H fp) [(s₂.heap.objs.size, lstO ys)] (cS nt js σ) H' s' ∧ Vals zs ys ∧ tn i s'.heap ∧ (∀ b ∈ fp, H' b = none) ∧ W i zs H') ?_ nn
      ⟨0, [], [], H, rfl, Nat.zero_le _, I0, .nil, T.keep 0 _ _ st (fun b _ o e => old b o e), fun b hb => (hf b hb).1, w0⟩
    rintro n s' ⟨i, zs, ys, H', hn0, hile, I', rv, st', fr', w'⟩
    by_cases hlt : i < nn
    case neg =>
      have hie : i = nn := Nat.le_antisymm hile (Nat.not_lt.mp hlt)
      rw [hie] at w' st'
      obtain ⟨stop, zl, fin⟩ := lw.stop zs H' w'
      refine thn (T.done (cxComp X N scope cl H2.objs.size s₂ H fp) rfl rfl rfl hcalm nn _ s' _ H' (fun _ _ => False) I' (fpy fr') st' stop) fun r s4 ⟨hr, I4⟩ => ?_
      subst hr
      have zD := (I4.pin (s₂.heap.objs.size, lstO ys) (List.mem_append_right _ (List.mem_singleton.mpr rfl)))
      have u := I4.base
      have u2 : Un (frs X.stack) fp H (upd H' s₂.heap.objs.size (.lst zs)) s₂.heap s4.heap :=
        ⟨u.keep, u.slot, fun b o q n hx => by rw [upd_ne (Nat.ne_of_lt (Heap.lt_size q))]; exact u.free b o q n hx, u.there, fun b xs q => by rw [upd_ne (ne_of_none (u.tups b xs q) zD.2.1)]; exact u.tups b xs q,
         fun b o xs q => by rw [upd_ne (ne_of_none (u.frzs b o xs q) zD.2.1)]; exact u.frzs b o xs q, fun b ps q => by
           obtain ⟨more, e⟩ := u.tbls b ps q
           exact ⟨more, by rw [upd_ne (ne_of_none e zD.2.1)]; exact e⟩⟩
      have hok2 : HOk X.prog X.w (upd H' s₂.heap.objs.size (.lst zs)) s4.heap := HOk.track I4.hok zD.2.1 ⟨zl, ys, _, rv, zD.1⟩
      have I5 : Inv X pins σ (upd H' s₂.heap.objs.size (.lst zs)) s4 := I.call' I4.os u2 hok2 I4.bare fun b hb => ⟨(hf b hb).2.2.2.1, (hf b hb).2.1, (hf b hb).2.2.2.2.1, (hf b hb).2.2.2.2.2⟩
      obtain ⟨m, hn, _⟩ := I4.loc
      refine hRR _ _ s4 H' zs m I5 hn zD.2.1 ?_ ?_ (Nat.le_trans I.sz hCle) ?_ ?_ fin
      · rw [upd_ne (Ne.symm hDC)]; exact I4.free
      · exact Nat.ne_of_gt (Nat.lt_of_lt_of_le I.lt hCle)
      · intro x c e z
        obtain ⟨v, q⟩ := I.cell x c e
        exact absurd (Nat.lt_of_lt_of_le q.lt (by rw [z]; exact hCle)) (Nat.lt_irrefl _)
      · intro p hp z
        exact absurd (Nat.lt_of_lt_of_le (Heap.lt_size (I.pin p hp).1) (by rw [z]; exact hCle)) (Nat.lt_irrefl _)
    case pos =>
      obtain ⟨go, zl⟩ := lw.go i zs H' hlt w'
      have step := lw.step i zs H'
      refine thn (T.item (cxComp X N scope cl H2.objs.size s₂ H fp) rfl rfl rfl hcalm i _ s' _ H' (fun _ _ => False) I' (fpy fr') st' go) fun r s4 ⟨u, hr, h4⟩ => ?_
      subst hr
      refine thn h4 fun _ s5 ⟨x, H5, I5, r5, y5, st5, fr5⟩ => ?_
      have I5' := I5.pinned (fpy fr5) (T.obj _ _ st5)
      refine thn (hg cl _ s₂ H fp _ s5 _ H5 x u _ I5' r5 (hk _ _ _ _ (step x H5 hlt w' y5))) fun _ s6 ⟨σ6, H6, I6, ⟨hl6, hd6⟩, q6⟩ => ?_
      refine thn (hc cl _ s₂ H fp _ s6 σ6 H6 _ I6 q6) fun okb s7 ⟨H7, I7, q7⟩ => ?_
      have frs' : ∀ {H8 : Hp} {σ8 : St} {s8 : Shared}, Inv (cxComp X N scope cl H2.objs.size s₂ H fp) ([(s₂.heap.objs.size, lstO ys)] ++ pinsAt fp s5.heap) σ8 H8 s8 → tn (i + 1) s8.heap ∧ ∀ b ∈ fp, H8 b = none := fun {H8 σ8 s8} I8 =>
        ⟨T.keep _ _ _ st5 fun b hb o e => (I8.pin (b, o) (List.mem_append_right _ (List.mem_append_right _ (mem_pinsAt hb e)))).1, fun b hb => by
          obtain ⟨o, e, d⟩ := T.obj _ _ st5 b hb
          exact (I8.pin (b, o) (List.mem_append_right _ (List.mem_append_right _ (mem_pinsAt hb e)))).2.1⟩
      cases okb with
      | false =>
        rw [if_neg Bool.false_ne_true] at q7 ⊢
        obtain ⟨a1, a2⟩ := frs' I7
        exact ⟨nn - (i + 1), by rw [hn0]; exact Nat.sub_lt_sub_left hlt (Nat.lt_succ_self i), i + 1, zs, ys, H7, rfl, hlt, I7.unpinned.weak (by rw [hl6]) (cS_weak hl6 hd6), rv, a1, a2, q7⟩
      | true =>
        rw [if_pos rfl] at q7 ⊢
        refine thn (he cl _ s₂ H fp _ s7 σ6 H7 _ I7 q7) fun v s8 ⟨y, H8, I8, r8, q8⟩ => ?_
        have zD := (I8.pin (s₂.heap.objs.size, lstO ys) (List.mem_append_right _ (List.mem_append_left _ (List.mem_singleton.mpr rfl))))
        have ylen : ys.length < sizeLine := by rw [← rv.length]; exact zl
        obtain ⟨a1, a2⟩ := frs' I8
        refine append_at (hsz := by rw [List.size_toArray]; exact Nat.le_of_lt ylen) zD.1 fun h9 hs9 hD9 => ?_
        have I8u : Inv (cxComp X N scope cl H2.objs.size s₂ H fp) [] (cS nt js σ) H8 s8 := (I8.pins_of (pins' := []) fun p hp => nomatch hp).weak (by rw [hl6]) (cS_weak hl6 hd6)
        have I9 : Inv (cxComp X N scope cl H2.objs.size s₂ H fp) [] (cS nt js σ) H8 { s8 with heap := h9 } := I8u.turned (t' := s8.toks) (it := s₂.heap.objs.size) (fun b o hb e => hs9.extBut b o hb e) zD.2.1 hDC (.inr (Nat.le_refl _))
          (fun x c e z => by
            obtain ⟨v, q⟩ := I.cell x c (hcl x c e)
            exact absurd (Nat.lt_of_lt_of_le q.lt (by rw [z]; exact Nat.le_refl _)) (Nat.lt_irrefl _)) (fun p hp => nomatch hp)
        refine ⟨nn - (i + 1), by rw [hn0]; exact Nat.sub_lt_sub_left hlt (Nat.lt_succ_self i), i + 1, zs ++ [y], ys ++ [v], H8, rfl, hlt, I9.pins_of (fun p hp => ?_), rv.snoc r8, T.keep _ _ _ a1 fun b hb o e => hs9.extBut b o (below b (lt b hb)).2 e, a2, q8⟩
        have e : p = (s₂.heap.objs.size, lstO (ys ++ [v])) := by simpa using hp
        subst e
        refine ⟨?_, zD.2.1, hDC, zD.2.2.2.1, fun v z => by cases z⟩
        rw [hD9]
        show some ({ cls := .type "list", data := .seq (ys.toArray.push v) (ys.length + 1) } : Obj) = some { cls := .type "list", data := .seq (ys ++ [v]).toArray (ys ++ [v]).length }
        rw [List.length_append, List.length_singleton, List.push_toArray]
  exact codeAny_compStart_list (loop _ rfl) (T.self _ 0 _ _ _ (T.keep 0 _ _ st (fun b _ o e => old b o e)) (loop _ rfl))

/-- [elt for tg in iter if ..] as a value -/
theorem pe_lc (hcalm : X.calm = true) (ok : CompOk X N nt js scope) (hi : PI X tg iter wi) (hg : ∀ cl C s H fp, PG (cxComp X N scope cl C s H fp) tg g) (hk : Stays g nt) (hc : ∀ cl C s H fp, PTs (cxComp X N scope cl C s H fp) ifs tc)
    (he : ∀ cl C s H fp, PE (cxComp X N scope cl C s H fp) elt te) (hs : ∀ x, foldedSetIterable iter X.env x = pure x := by intro _; rfl) : PE X (.ListComp elt [⟨tg, iter, ifs, 0⟩] scope pos) (tLC wi nt js g tc te) := by
  intro pins s σ H Q I h
  obtain ⟨cl, hclos, hcl, hcl2⟩ := closureFor_ok (scope := scope) (env := X.env) fun x hx hf => I.ok.has x.1 (ok.free x hx hf)
  rw [eval_ListComp]
  refine wpAny_comprehension_free (use := none) rfl hs hclos ok.kind ok.names ?_
  refine thn (hi pins s σ H _ I (lc_to h)) fun v s1 h1 => thn h1 fun itv s2 h2 => ?_
  obtain ⟨it, fp, tn, J, H2, e, I2, T, st2, f2, nn, W, w0, lw⟩ := h2
  subst e
  refine comp_run (RR := fun acc C => compPost (model X.prog X.w) X.A X.xe none (EP X pins σ Q) acc C) hcalm ok hcl hcl2 hg hk hc he I2 T st2 f2 w0 lw ?_
  intro D C s' H' zs m I3 hn hDn hCn hCL hC0 hCc hCp fin
  exact ⟨m, hn, fun h'' hs'' => ⟨.ref D, _, I3.turned (t' := s'.toks) (it := C) (fun b o hb e => hs''.extBut b o hb e) hCn hCL (.inr hC0) hCc hCp, rfl, fin D hDn⟩⟩

/-- name = [..], where the store and the leaving of the block change places -/
theorem ps_lc {i : Nat} {y : Str} {py spos : Pos} (hcalm : X.calm = true) (hN : X.N.Nodup) (hi' : X.N[i]? = some y) (hy : X.env.kindOf y = some .local) (ok : CompOk X N nt js scope) (hi : PI X tg iter wi) (hg : ∀ cl C s H fp, PG (cxComp X N scope cl C s H fp) tg g) (hk : Stays g nt)
    (hc : ∀ cl C s H fp, PTs (cxComp X N scope cl C s H fp) ifs tc) (he : ∀ cl C s H fp, PE (cxComp X N scope cl C s H fp) elt te)
    (hsw : swapsWith (.ListComp elt [⟨tg, iter, ifs, 0⟩] scope pos) (some (.Name y py)) spos.line X.env = pure true) (hs : ∀ x, foldedSetIterable iter X.env x = pure x := by intro _; rfl) :
    PS X (.Assign [.Name y py] (.ListComp elt [⟨tg, iter, ifs, 0⟩] scope pos) spos) (tAsg (tLC wi nt js g tc te) (gName i)) := by
  intro pins s σ H D₀ I h
  obtain ⟨cl, hclos, hcl, hcl2⟩ := closureFor_ok (scope := scope) (env := X.env) fun x hx hf => I.ok.has x.1 (ok.free x hx hf)
  rw [exec_Assign_Name_used _ _ _ _ hsw]
  refine wpAny_bind (wpAny_standAt (wpAny_bind ?_))
  show wpAny _ X.A (do let _ ← comprehension (.ListComp elt [⟨tg, iter, ifs, 0⟩] scope pos) scope X.env _ (newList []) false (eval iter X.env) (some (assign (.Name y py) X.env))) _ _ s
  refine wpAny_bind (wpAny_mono (wpAny_comprehension_free (use := some (assign (.Name y py) X.env)) (Q := fun _ s' => SP X pins D₀ .next s') rfl hs hclos ok.kind ok.names
    (thn (hi pins s σ H _ I (lc_to (show tLC wi nt js g tc te σ H fun x H1 => gName i x σ H1 D₀.nx from h))) fun v s1 h1 => thn h1 fun itv s2 h2 => ?_)) (fun _ s' hq => wpAny_pure (wpAny_pure hq)) fun _ _ e => e)
  obtain ⟨it, fp, tn, J, H2, e, I2, T, st2, f2, nn, W, w0, lw⟩ := h2
  subst e
  refine comp_run (RR := fun acc C => compPost (model X.prog X.w) X.A X.xe (some (assign (.Name y py) X.env)) (fun _ s' => SP X pins D₀ .next s') acc C) hcalm ok hcl hcl2 hg hk hc he I2 T st2 f2 w0 lw ?_
  intro D C s' H' zs m I3 hn hDn hCn hCL hC0 hCc hCp fin
  show wpAny _ X.A (assign (.Name y py) X.env (.ref D)) _ _ _
  refine wpAny_assign_Name (store_ok2 (v := .ref D) I3 hN hi' (.inl hy) rfl (fun s3 I4 hsb => ?_) (.inr hy))
  obtain ⟨a, hsb, ha⟩ := hsb
  have haC : C ≠ a := by
    rcases ha with z | z
    · rw [z]; exact hCL
    · exact Ne.symm (hCc y a z)
  refine ⟨m, hn.sameBut hsb haC, fun h'' hs'' => ?_⟩
  exact ⟨_, _, I4.turned (t' := s3.toks) (it := C) (fun b o hb e => hs''.extBut b o hb e) hCn hCL (.inr hC0) hCc hCp, fin D hDn⟩
end

end L2

/-! own layer, part 3: more operations -/
namespace L2
open PySem PySem.Spec PyProof.Rows

/-! ### sizes: an int of at most n bits -/
def Bd (n : Nat) (x : Int) : Prop := x.natAbs < 2 ^ n
theorem Bd.bits {n : Nat} {x : Int} (h : Bd n x) : Builtin.Int.intBits x ≤ n := PySem.intBits_le_iff.mpr h
/-- a product is small enough -/
def MulOk (i j : Int) : Prop := ∃ m n, Bd m i ∧ Bd n j ∧ m + n ≤ 134217728
theorem MulOk.ok {i j : Int} (h : MulOk i j) : IntMulOk i j := by
  obtain ⟨m, n, h1, h2, h3⟩ := h
  exact PySem.IntMulOk.of_le h1.bits h2.bits h3
section
variable {X : Cx}
/-- // by any number but nought: the frames have room for _pylong, and nobody sees it -/
theorem op_fdivX {k : Nat} (hr : Room k X.A) (hT : X.prog.given.tree = none) (hk : 32 ≤ k := by decide)
    (hst : ∃ (env : Env) (l : List Env), X.stack = env :: l ∧ env.scope.isGenerator = false ∧ env.scope.isCoroutine = false ∧ env.builtins = builtinsNs ∧ env.globals = mainGlobals := by exact ⟨_, _, rfl, rfl, rfl, rfl, rfl⟩) :
    OpR X (binaryOp .FloorDiv) (rI (fun _ j => j ≠ 0) fun i j => .int (i.fdiv j)) := by
  intro pins s σ H x y v u Q I rx ry h
  obtain ⟨i, j, rfl, rfl, hc, q⟩ := h
  obtain ⟨t, rfl⟩ := rx
  obtain ⟨t', rfl⟩ := ry
  obtain ⟨env, l, e1, e2, e3, e4, e5⟩ := hst
  have hd : X.A.depth + Builtin.pylongFrames < recursionLimit := by
    have := hr.dp
    have e : Builtin.pylongFrames ≤ 101 := by decide
    lia
  refine floordiv_int hc ⟨.int (i.fdiv j), H, I.tok _, ⟨_, rfl⟩, q⟩ (.inr (PySem.PylongRoom.of I.nolimit hd (PySem.SeerAt.of (I.ok.mod.seer.keeps I.bk) hT (by rw [I.ok.frames, e1]) e2 e3 e4 e5)))
end

/-! ### a def of the text, as a caller takes it -/
structure Fd (P : Program) (w : World) (K : PySem.W.Frag) (mg : Str → Option Value) (base : Heap) (n : Nat) (x : Str) (ps : List Str) (sp : Sp) : Prop where
  ex : ∃ (f : Addr) (fd : FuncData), FnOk P w K mg base CX0 n f fd ps sp ∧ Binds K fd ps [] ∧ PySem.W.keepIn K (.ref f) = true ∧ mg x = some (.ref f)
theorem pe_fn {X : Cx} {n k : Nat} {x : Str} {ps : List Str} {sp : Sp} {e : Expr} {es : List Expr} {t : TA} {p pos : Pos} (F : Fd X.prog X.w X.K X.mg X.base n x ps sp) (hr : Room k X.A) (hg : Gl X x) (ha : PA X (e :: es) t) (hn : n ≤ k := by decide)
    (hdb : (x == ("__debug__" : Str)) = false := by decide) (he : starEach (e :: es) X.env = (false, eval e X.env) :: starEach es X.env := by rfl) (hpl : (backTo pos (starEach es X.env)).any (·.1) = false := by rfl) :
    PE X (.Call (.Name x p) (e :: es) [] pos) (tCall sp [] E0 t) := by
  obtain ⟨f, fd, F1, F2, F3, F4⟩ := F.ex
  exact pe_call F1 (hr.mono hn) hg F4 F3 F2 .nil pass0 ha hdb he hpl
/-! ### == and != of things with things in them -/
/-- what stands at a value, all the way down -/
inductive Rds (K : PySem.W.Frag) (H : Hp) : V → PyData → Prop where
  | non : Rds K H .non .none
  | bl (b : Bool) : Rds K H (.bl b) (.bool b)
  | int (i : Int) : Rds K H (.int i) (.int i)
  | str (x : Str) : Rds K H (.str x) (.str x)
  | lst {a : Addr} {xs : List V} {ds : List PyData} : SqL K H a xs → xs.length = ds.length → (∀ (i : Nat) x d, xs[i]? = some x → ds[i]? = some d → Rds K H x d) → Rds K H (.ref a) (.list ds)
  | tup {a : Addr} {xs : List V} {ds : List PyData} : SqT K H a xs → xs.length = ds.length → (∀ (i : Nat) x d, xs[i]? = some x → ds[i]? = some d → Rds K H x d) → Rds K H (.ref a) (.tuple ds)
theorem readsAll_of {h : Heap} : ∀ {us : List Value} {xs : List V} {ds : List PyData}, Vals xs us → xs.length = ds.length → (∀ (i : Nat) x d u, xs[i]? = some x → ds[i]? = some d → RelV x u → ∃ as, Reads h u d as) → ∃ as, ReadsAll h us ds as
  | [], _, [], .nil, _, _ => ⟨[], .nil⟩
  | [], _, _ :: _, .nil, hl, _ => by simp at hl
  | _ :: _, _, [], .cons _ _, hl, _ => by simp at hl
  | u :: us, x :: xs, d :: ds, .cons r t, hl, hr => by
    obtain ⟨a1, r1⟩ := hr 0 x d u rfl rfl r
    obtain ⟨a2, r2⟩ := readsAll_of (us := us) (xs := xs) (ds := ds) t (by simpa using hl) fun i x' d' u' e1 e2 q => hr (i + 1) x' d' u' (by simpa using e1) (by simpa using e2) q
    exact ⟨_, .cons r1 r2⟩
theorem reads_of {X : Cx} {pins : List (Addr × Obj)} {σ : St} {H : Hp} {s : Shared} (I : Inv X pins σ H s) {x : V} {d : PyData} (r : Rds X.K H x d) : ∀ {u : Value}, RelV x u → ∃ as, Reads s.heap u d as := by
  induction r with
  | non => intro u ru; cases ru; exact ⟨_, .none⟩
  | bl b => intro u ru; cases ru; exact ⟨_, .bool b⟩
  | int i => intro u ru; obtain ⟨t, rfl⟩ := ru; exact ⟨_, .int i t⟩
  | str z => intro u ru; obtain ⟨t, rfl⟩ := ru; exact ⟨_, .str z t⟩
  | lst q hl _ ih =>
    intro u ru
    cases ru
    obtain ⟨its, rv, ⟨o, n, e, c, _, dd⟩, _⟩ := I.list q
    obtain ⟨as, ra⟩ := readsAll_of rv hl fun i x d u e1 e2 rr => ih i x d e1 e2 rr
    exact ⟨_, .list e c dd (by simpa using ra)⟩
  | tup q hl _ ih =>
    intro u ru
    cases ru
    obtain ⟨its, rv, ⟨o, e, c, n, dd⟩, _⟩ := I.tuple q
    obtain ⟨as, ra⟩ := readsAll_of rv hl fun i x d u e1 e2 rr => ih i x d e1 e2 rr
    exact ⟨_, .tuple e c dd (by simpa using ra)⟩
section
variable {X : Cx}
@[irreducible] def rEqD (K : PySem.W.Frag) (neg : Bool) : R2 := fun x y H Q => ∃ d e, Rds K H x d ∧ Rds K H y e ∧ SeqAt.shaped d = true ∧ SeqAt.shaped e = true ∧ Q (.bl (if neg then !PyData.eqv d e else PyData.eqv d e)) H
theorem eqD_of {K : PySem.W.Frag} {neg : Bool} {x y : V} {H : Hp} {Q : VK} (h : ∃ d e, Rds K H x d ∧ Rds K H y e ∧ SeqAt.shaped d = true ∧ SeqAt.shaped e = true ∧ Q (.bl (if neg then !PyData.eqv d e else PyData.eqv d e)) H) : rEqD K neg x y H Q := by
  unfold rEqD; exact h
theorem op_eqD (hu : X.A.units + 64 < cLine) : OpR X (compareOp .Eq) (rEqD X.K false) := by
  intro pins s σ H x y v u Q I rx ry h
  unfold rEqD at h
  obtain ⟨d, e, r1, r2, h1, h2, q⟩ := h
  obtain ⟨as, q1⟩ := reads_of I r1 rx
  obtain ⟨bs, q2⟩ := reads_of I r2 ry
  exact SeqAt.compareEq_shaped q1 q2 h1 h2 hu ⟨.bl _, H, I, rfl, q⟩
theorem op_neD (hu : X.A.units + 64 < cLine) : OpR X (compareOp .NotEq) (rEqD X.K true) := by
  intro pins s σ H x y v u Q I rx ry h
  unfold rEqD at h
  obtain ⟨d, e, r1, r2, h1, h2, q⟩ := h
  obtain ⟨as, q1⟩ := reads_of I r1 rx
  obtain ⟨bs, q2⟩ := reads_of I r2 ry
  exact SeqAt.compareNe_shaped q1 q2 h1 h2 hu ⟨.bl _, H, I, rfl, q⟩
end

/-! ### {} -/
end L2

/-! own layer, part 4: names of built-ins, a small ledger, numbers -/
namespace L2
open PySem PySem.Spec PyProof.Rows
theorem bt_len : bootBuiltins "len" = some (.builtin "len") := by decide +kernel
theorem bt_abs : bootBuiltins "abs" = some (.builtin "abs") := by decide +kernel
theorem bt_isinstance : bootBuiltins "isinstance" = some (.builtin "isinstance") := by decide +kernel
theorem bt_all : bootBuiltins "all" = some (.builtin "all") := by decide +kernel
theorem bt_list : bootBuiltins "list" = some (.type "list") := by decide +kernel
theorem bt_tuple : bootBuiltins "tuple" = some (.type "tuple") := by decide +kernel
theorem bt_int : bootBuiltins "int" = some (.type "int") := by decide +kernel
theorem bt_bool : bootBuiltins "bool" = some (.type "bool") := by decide +kernel
/-! ### a small ledger: what stands where -/
def Fx (H : Hp) (L : List (Addr × HO)) : Prop := ∀ p ∈ L, H p.1 = some p.2
/-- all but a stays as it was; there may be more -/
def Mv (a : Addr) (H H' : Hp) : Prop := ∀ b o, b ≠ a → H b = some o → H' b = some o
theorem Mv.trans {a : Addr} {H H1 H2 : Hp} (x : Mv a H H1) (y : Mv a H1 H2) : Mv a H H2 := fun b o n h => y b o n (x b o n h)
theorem Mv.new {a p : Addr} {H : Hp} {o : HO} (h : H p = none) : Mv a H (upd H p o) := fun b u _ q => by rw [upd_ne (ne_of_none q h)]; exact q
/-- an item of a list of ints -/
theorem at_ints {ns : List Int} {k : Int} (h0 : 0 ≤ k) (h : k < (ns.length : Int)) : ∃ v : Int, atI (ns.map V.int) k = some (.int v) := by
  have hk : k.toNat < ns.length := by lia
  have ek : k = ((k.toNat : Nat) : Int) := by lia
  have q : atI (ns.map V.int) ((k.toNat : Nat) : Int) = some (.int ns[k.toNat]) := atI_nat (by rw [List.getElem?_map, List.getElem?_eq_getElem hk] <;> rfl)
  rw [← ek] at q
  exact ⟨_, q⟩

/-! ### a number -/
def nT (q : Rat) : HO := .tup [.int q.num, .int q.den]
/-- the pen of the draws -/
def Pen (H : Hp) (a : Addr) : Prop := ∃ c0 c1 c2 : Int, H a = some (.lst [.int c0, .int c1, .int c2])
theorem Pen.same {H : Hp} {a p : Addr} {o : HO} (x : Pen H a) (h : H p = none) : Pen (upd H p o) a := by
  obtain ⟨c0, c1, c2, e⟩ := x
  exact ⟨c0, c1, c2, by rw [upd_ne (ne_of_none e h)]; exact e⟩
theorem Pen.put {H : Hp} {a : Addr} {c0 c1 c2 : Int} : Pen (upd H a (.lst [.int c0, .int c1, .int c2])) a := ⟨c0, c1, c2, upd_same⟩

/-- a product: one factor is small, or both are of known size -/
def MulC (i j : Int) : Prop := (-(2 ^ 64) < i ∧ i < 2 ^ 64) ∨ (-(2 ^ 64) < j ∧ j < 2 ^ 64) ∨ MulOk i j
theorem MulC.ok {i j : Int} (h : MulC i j) : IntMulOk i j := by
  rcases h with ⟨h1, h2⟩ | ⟨h1, h2⟩ | h
  · exact .of_left (intBits_le_64 h1 h2)
  · exact .of_right (intBits_le_64 h1 h2)
  · exact h.ok
theorem op_mulC {X : Cx} : OpR X (binaryOp .Mult) (rI MulC fun i j => .int (i * j)) := opI fun _ _ _ _ _ _ _ hc q => mul_int q hc.ok

/-- a alone has changed -/
def OnlyAt (a : Addr) (H H' : Hp) : Prop := ∀ b, b ≠ a → H' b = H b
theorem OnlyAt.mv {a : Addr} {H H' : Hp} (x : OnlyAt a H H') : Mv a H H' := fun b o n h => by rw [x b n]; exact h
theorem OnlyAt.put {a : Addr} {H : Hp} {o : HO} : OnlyAt a H (upd H a o) := fun b n => upd_ne n
theorem Pen.ne {H : Hp} {a p : Addr} {o : HO} (x : Pen H a) (h : H p = some o) (hd : ∀ c0 c1 c2 : Int, o ≠ .lst [.int c0, .int c1, .int c2]) : p ≠ a := by
  obtain ⟨c0, c1, c2, e⟩ := x
  exact ne_of h e (hd c0 c1 c2)
/-- a pen and what else stands -/
structure Lg (a : Addr) (H : Hp) (L : List (Addr × HO)) : Prop where
  fx : Fx H L
  ne : ∀ x ∈ L, x.1 ≠ a
  pen : Pen H a
theorem nT_ne (q : Rat) : ∀ c0 c1 c2 : Int, nT q ≠ .lst [.int c0, .int c1, .int c2] := fun _ _ _ z => by cases z
/-- an item of a written list of ints -/
theorem at_menu {xs : List Int} {i : Int} (h0 : 0 ≤ i) (h : i < (xs.length : Int)) : ∃ v : Int, atI (xs.map V.int) i = some (.int v) ∧ v ∈ xs := by
  have hk : i.toNat < xs.length := by lia
  have ek : i = ((i.toNat : Nat) : Int) := by lia
  have q : atI (xs.map V.int) ((i.toNat : Nat) : Int) = some (.int xs[i.toNat]) := atI_nat (by rw [List.getElem?_map, List.getElem?_eq_getElem hk] <;> rfl)
  rw [← ek] at q
  exact ⟨_, q, List.getElem_mem hk⟩

theorem sq_new {K : PySem.W.Frag} {H : Hp} {a p : Addr} {xs : List V} {o : HO} (hS : SqL K H a xs) (hp : H p = none) : SqL K (upd H p o) a xs := by
  have st : ∀ u, H a = some u → upd H p o a = some u := fun u e => by rw [upd_ne (ne_of_none e hp)]; exact e
  rcases hS with (h | ⟨o, h⟩) | h
  · exact .inl (.inl (st _ h))
  · exact .inl (.inr ⟨o, st _ h⟩)
  · exact .inr h
/-- what the promises of the draws' defs say -/
inductive spDraw (vs : List V) (H : Hp) (Q : VK) (E_3 : XK) : Prop
  | mk (a : Addr) (m : Int) (h1 : vs = [.ref a, .int m]) (h2 : Pen H a) (h3 : 1 ≤ m) (h4 : m < 1073741824) (h5 : ∀ (d : Int) (H' : Hp), 0 ≤ d → d < m → OnlyAt a H H' → Pen H' a → Q (.int d) H') : spDraw vs H Q E_3
inductive spPen (K : PySem.W.Frag) (vs : List V) (H : Hp) (Q : VK) (E_3 : XK) : Prop
  | mk (a : Addr) (ns : List Int) (k : Int) (h1 : vs = [.ref a, .int k]) (h2 : SqL K H a (ns.map V.int)) (h3 : ns.length ≤ 63) (h4 : 0 ≤ k) (h5 : k < 2 ^ 62) (h6 : ∀ (p : Addr) (c0 c1 : Int), H p = none → Q (.ref p) (upd H p (.lst [.int c0, .int c1, .int 0]))) : spPen K vs H Q E_3
inductive spLow (vs : List V) (H : Hp) (Q : VK) (E_3 : XK) : Prop
  | mk (t b : Int) (h1 : vs = [.int t, .int b]) (h2 : b ≠ 0) (h3 : ∀ p, H p = none → Q (.ref p) (upd H p (nT (Rat.divInt t b)))) : spLow vs H Q E_3
inductive spGcd (vs : List V) (H : Hp) (Q : VK) (E_3 : XK) : Prop
  | mk (a b : Int) (h1 : vs = [.int a, .int b]) (h2 : Q (.int (Int.gcd a b)) H) : spGcd vs H Q E_3
/-- a drawn number: its top and bottom are of at most n bits -/
inductive spNum (n : Nat) (vs : List V) (H : Hp) (Q : VK) (E_3 : XK) : Prop
  | mk (a : _) (h1 : vs = [.ref a]) (h2 : Pen H a) (h3 : ∀ (q : Rat) (r : Addr) (H' : Hp), Mv a H H' → Pen H' a → H' r = some (nT q) → Bd n q.num → Bd n q.den → Q (.ref r) H') : spNum n vs H Q E_3
inductive spLaw (K : PySem.W.Frag) (vs : List V) (H : Hp) (Q : VK) (E_3 : XK) : Prop
  | mk (a : Addr) (ns : List Int) (h1 : vs = [.ref a]) (h2 : SqL K H a (ns.map V.int)) (h3 : ns.length ≤ 63) (h4 : ∀ H', Q (.bl true) H') : spLaw K vs H Q E_3
/-- the int in slot i, as a measure -/
def mu (i : Nat) (σ : St) : Nat := match σ[i]? with | some (some (.int y)) => y.toNat | _ => 0

theorem Bd.mono {m n : Nat} {x : Int} (h : Bd m x) (hmn : m ≤ n) : Bd n x := Nat.lt_of_lt_of_le h (Nat.pow_le_pow_right (by decide) hmn)
theorem Bd.num {n : Nat} {t b : Int} (h : Bd n t) : Bd n (Rat.divInt t b).num := by
  unfold Bd at *
  by_cases hb : b = 0
  · subst hb; simp; exact Nat.pos_of_ne_zero (by simp)
  · rw [← Nm.top_msr hb]
    exact Nat.lt_of_le_of_lt (PySem.natAbs_fdiv_le t _) h
theorem Bd.den {n : Nat} {t b : Int} (hb : b ≠ 0) (h : Bd n b) : Bd n (Rat.divInt t b).den := by
  unfold Bd at *
  rw [← Nm.bottom_msr hb]
  exact Nat.lt_of_le_of_lt (PySem.natAbs_fdiv_le b _) h
end L2

/-! own layer, part 5: more of what loops walk, all, lists of truths -/
namespace L2
open PySem PySem.Spec PyProof.Rows
/-! ### reversed(a list) -/
section
variable {X : Cx} {tg : Expr}
end
/-! ### all of a list of truths -/
theorem call_allB {X : Cx} (hc : X.calm = true) : CallR X (.builtin "all") (fun xs H Q => ∃ (a : Addr) (bs : List Bool), xs = [.ref a] ∧ SqL X.K H a (bs.map V.bl) ∧ Q (.bl (bs.all id)) H) := by
  intro pins s σ H xs us Q I r h
  obtain ⟨a, bs, rfl, hq, q⟩ := h
  obtain ⟨u, rfl, rfl⟩ := vals1 r
  obtain ⟨its, rv, p, hz⟩ := I.list hq
  have hl := rv.length
  rw [List.length_map] at hl
  have hlt : a < s.heap.objs.size := by obtain ⟨_, e, _⟩ := p.isList; exact Heap.lt_size e
  refine call_all_walk (wpAny_pyIter_list p.isList ?_)
  refine ⟨s.heap.objs.size, [s.heap.objs.size, a], [s.heap.objs.size], its.toArray.size, _, _, fun i => (bs[i]?).getD true, rfl, Walks.list (A := X.A.in1) (I.ok.hd hc) _ a (Nat.ne_of_lt hlt) its.toArray,
    ⟨⟨_, Heap.get?_push_size _ rfl, rfl, rfl⟩, p.isList.push _⟩, fun i v s' Q' E' hP hQ => ?_, fun h' tk hk => ?_⟩
  · have hP' : its[i]? = some v := by simpa using hP
    have hi : i < bs.length := by rw [hl]; exact (List.getElem?_eq_some_iff.mp hP').1
    obtain ⟨u', hu', ru⟩ := rv.get (i := i) (x := .bl bs[i]) (by rw [List.getElem?_map, List.getElem?_eq_getElem hi]; rfl)
    rw [hP'] at hu'
    cases hu'
    cases ru
    dsimp only at hQ
    rw [List.getElem?_eq_getElem hi, Option.getD_some] at hQ
    exact wpAny_truthy_bool hQ
  · have e : ((List.range its.toArray.size).all fun i => (bs[i]?).getD true) = bs.all id := by
      rw [List.size_toArray, ← hl, Bool.eq_iff_iff, List.all_eq_true, List.all_eq_true]
      constructor
      · intro z b hb
        obtain ⟨i, hi, rfl⟩ := List.getElem_of_mem hb
        have := z i (List.mem_range.mpr hi)
        rw [List.getElem?_eq_getElem hi, Option.getD_some] at this
        exact this
      · intro z i hi
        have hi' := List.mem_range.mp hi
        rw [List.getElem?_eq_getElem hi', Option.getD_some]
        exact z _ (List.getElem_mem hi')
    rw [e]
    exact ⟨.bl _, H, I.kept (fun b o e => hk b o (fun hm => by rw [List.mem_singleton.mp hm] at e; exact Nat.lt_irrefl _ (Heap.lt_size e)) (Heap.get?_push_of_some _ e)), rfl, q⟩
end L2

/-! own layer, part 6: numbers and curves on the heap -/
namespace L2
open PySem PySem.Spec PyProof.Rows
theorem SqT.same {K : PySem.W.Frag} {H H' : Hp} {a : Addr} {xs : List V} (h : SqT K H a xs) (e : Same H H') : SqT K H' a xs := by
  rcases h with (h | ⟨o, h⟩) | h
  · exact .inl (.inl (e _ _ h))
  · exact .inl (.inr ⟨o, e _ _ h⟩)
  · exact .inr h
theorem Same.new {H : Hp} {p : Addr} {o : HO} (h : H p = none) : Same H (upd H p o) := fun b u q => by rw [upd_ne (ne_of_none q h)]; exact q
theorem Same.mv {H H' : Hp} {a : Addr} (h : Same H H') : Mv a H H' := fun b o _ q => h b o q

/-! ### pairs of lists -/
theorem Paired.get {α β : Type} {F : α → β → Prop} : ∀ {l₁ : List α} {l₂ : List β} {i : Nat} {a : α}, Paired F l₁ l₂ → l₁[i]? = some a → ∃ b, l₂[i]? = some b ∧ F a b
  | _, _, _, _, .nil, e => by simp at e
  | _, _, 0, _, .cons h _, e => by simp at e; subst e; exact ⟨_, rfl, h⟩
  | _, _, i + 1, _, .cons _ t, e => by
    obtain ⟨b, h1, h2⟩ := Paired.get (i := i) t (by simpa using e)
    exact ⟨b, by simpa using h1, h2⟩
theorem Paired.get' {α β : Type} {F : α → β → Prop} : ∀ {l₁ : List α} {l₂ : List β} {i : Nat} {b : β}, Paired F l₁ l₂ → l₂[i]? = some b → ∃ a, l₁[i]? = some a ∧ F a b
  | _, _, _, _, .nil, e => by simp at e
  | _, _, 0, _, .cons h _, e => by simp at e; subst e; exact ⟨_, rfl, h⟩
  | _, _, i + 1, _, .cons _ t, e => by
    obtain ⟨b, h1, h2⟩ := Paired.get' (i := i) t (by simpa using e)
    exact ⟨b, by simpa using h1, h2⟩
theorem Paired.take {α β : Type} {F : α → β → Prop} : ∀ {l₁ : List α} {l₂ : List β} (n : Nat), Paired F l₁ l₂ → Paired F (l₁.take n) (l₂.take n)
  | _, _, 0, _ => by simp; exact .nil
  | _, _, _ + 1, .nil => .nil
  | _, _, n + 1, .cons h t => .cons h (Paired.take n t)
theorem Paired.append {α β : Type} {F : α → β → Prop} {l₁ l₁' : List α} {l₂ l₂' : List β} (a : Paired F l₁ l₂) (b : Paired F l₁' l₂') : Paired F (l₁ ++ l₁') (l₂ ++ l₂') := by
  induction a with
  | nil => exact b
  | cons h t ih => exact .cons h ih
theorem Paired.set {α β : Type} {F : α → β → Prop} {a : α} {b : β} (q : F a b) : ∀ {l₁ : List α} {l₂ : List β} (i : Nat), Paired F l₁ l₂ → Paired F (l₁.set i a) (l₂.set i b)
  | _, _, _, .nil => .nil
  | _, _, 0, .cons _ t => .cons q t
  | _, _, i + 1, .cons h t => .cons h (Paired.set q i t)

/-! ### a number, numbers -/
def NumV (K : PySem.W.Frag) (H : Hp) (x : V) (q : Rat) : Prop := ∃ r, x = .ref r ∧ SqT K H r [.int q.num, .int q.den]
abbrev Nums (K : PySem.W.Frag) (H : Hp) : List V → List Rat → Prop := Paired (NumV K H)
theorem NumV.of {K : PySem.W.Frag} {H : Hp} {r : Addr} {q : Rat} (h : H r = some (nT q)) : NumV K H (.ref r) q := ⟨r, rfl, SqT.of h⟩
theorem NumV.same {K : PySem.W.Frag} {H H' : Hp} {x : V} {q : Rat} (h : NumV K H x q) (e : Same H H') : NumV K H' x q := by
  obtain ⟨r, rfl, h⟩ := h
  exact ⟨r, rfl, h.same e⟩
theorem Nums.same {K : PySem.W.Frag} {H H' : Hp} {xs : List V} {qs : List Rat} (h : Nums K H xs qs) (e : Same H H') : Nums K H' xs qs := Paired.mapP h fun _ _ z => z.same e
/-- a pen changes, numbers stay -/
theorem SqT.mv {K : PySem.W.Frag} {H H' : Hp} {a p : Addr} {xs : List V} (h : SqT K H a xs) (pn : Pen H p) (m : Mv p H H') : SqT K H' a xs := by
  obtain ⟨c0, c1, c2, e⟩ := pn
  rcases h with (h | ⟨o, h⟩) | h
  · exact .inl (.inl (m _ _ (ne_of h e (fun z => by cases z)) h))
  · exact .inl (.inr ⟨o, m _ _ (ne_of h e (fun z => by cases z)) h⟩)
  · exact .inr h
theorem NumV.mv {K : PySem.W.Frag} {H H' : Hp} {x : V} {q : Rat} {p : Addr} (h : NumV K H x q) (pn : Pen H p) (m : Mv p H H') : NumV K H' x q := by
  obtain ⟨r, rfl, h⟩ := h
  exact ⟨r, rfl, h.mv pn m⟩
theorem Nums.mv {K : PySem.W.Frag} {H H' : Hp} {xs : List V} {qs : List Rat} {p : Addr} (h : Nums K H xs qs) (pn : Pen H p) (m : Mv p H H') : Nums K H' xs qs := Paired.mapP h fun _ _ z => z.mv pn m
/-- a list is written, numbers stay -/
theorem SqT.put {K : PySem.W.Frag} {H : Hp} {a p : Addr} {xs ys : List V} {o : HO} (h : SqT K H a xs) (hp : H p = some (.lst ys)) : SqT K (upd H p o) a xs := by
  rcases h with (h | ⟨u, h⟩) | h
  · exact .inl (.inl (by rw [upd_ne (ne_of h hp (fun z => by cases z))]; exact h))
  · exact .inl (.inr ⟨u, by rw [upd_ne (ne_of h hp (fun z => by cases z))]; exact h⟩)
  · exact .inr h
theorem NumV.put {K : PySem.W.Frag} {H : Hp} {x : V} {q : Rat} {p : Addr} {ys : List V} {o : HO} (h : NumV K H x q) (hp : H p = some (.lst ys)) : NumV K (upd H p o) x q := by
  obtain ⟨r, rfl, h⟩ := h
  exact ⟨r, rfl, h.put hp⟩
theorem Nums.put {K : PySem.W.Frag} {H : Hp} {xs : List V} {qs : List Rat} {p : Addr} {ys : List V} {o : HO} (h : Nums K H xs qs) (hp : H p = some (.lst ys)) : Nums K (upd H p o) xs qs := Paired.mapP h fun _ _ z => z.put hp
/-- a tuple of numbers; a list of numbers -/
def Crv (K : PySem.W.Frag) (H : Hp) (r : Addr) (qs : List Rat) : Prop := ∃ xs, SqT K H r xs ∧ Nums K H xs qs
theorem Crv.same {K : PySem.W.Frag} {H H' : Hp} {r : Addr} {qs : List Rat} (h : Crv K H r qs) (e : Same H H') : Crv K H' r qs := let ⟨xs, a, b⟩ := h; ⟨xs, a.same e, b.same e⟩
theorem Crv.mv {K : PySem.W.Frag} {H H' : Hp} {r p : Addr} {qs : List Rat} (h : Crv K H r qs) (pn : Pen H p) (m : Mv p H H') : Crv K H' r qs := let ⟨xs, a, b⟩ := h; ⟨xs, a.mv pn m, b.mv pn m⟩
/-! ### == of numbers, of lists and tuples of numbers -/
def nD (q : Rat) : PyData := .tuple [.int q.num, .int q.den]
theorem NumV.rds {K : PySem.W.Frag} {H : Hp} {x : V} {q : Rat} (h : NumV K H x q) : Rds K H x (nD q) := by
  obtain ⟨r, rfl, h⟩ := h
  refine .tup h rfl fun i x d e1 e2 => ?_
  match i with
  | 0 => simp at e1 e2; subst e1; subst e2; exact .int _
  | 1 => simp at e1 e2; subst e1; subst e2; exact .int _
  | i + 2 => simp at e1
theorem nD_eqv (p q : Rat) : PyData.eqv (nD p) (nD q) = decide (p = q) := by
  show (p.num == q.num && (((p.den : Int) == (q.den : Int)) && true)) = _
  rw [Bool.and_true, Bool.eq_iff_iff]
  simp only [Bool.and_eq_true, beq_iff_eq, decide_eq_true_eq]
  constructor
  · rintro ⟨h1, h2⟩
    exact Rat.ext h1 (Int.ofNat.inj h2)
  · rintro rfl
    exact ⟨rfl, rfl⟩
theorem nDs_eqv : ∀ ps qs : List Rat, PyData.eqvAll (ps.map nD) (qs.map nD) = decide (ps = qs)
  | [], [] => rfl
  | [], _ :: _ => rfl
  | _ :: _, [] => rfl
  | p :: ps, q :: qs => by
    show (PyData.eqv (nD p) (nD q) && PyData.eqvAll (ps.map nD) (qs.map nD)) = _
    rw [nD_eqv, nDs_eqv ps qs, Bool.eq_iff_iff]
    simp
theorem nD_shaped (q : Rat) : SeqAt.shaped (nD q) = true := by rfl
theorem Nums.rds {K : PySem.W.Frag} {H : Hp} {xs : List V} {qs : List Rat} (h : Nums K H xs qs) : ∀ (i : Nat) x d, xs[i]? = some x → (qs.map nD)[i]? = some d → Rds K H x d := fun i x d e1 e2 => by
  obtain ⟨q, hq, hn⟩ := Paired.get h e1
  rw [List.getElem?_map, hq] at e2
  cases e2
  exact hn.rds
theorem Nums.rdsT {K : PySem.W.Frag} {H : Hp} {r : Addr} {xs : List V} {qs : List Rat} (h : Nums K H xs qs) (s : SqT K H r xs) : Rds K H (.ref r) (.tuple (qs.map nD)) := .tup s (by rw [h.length, List.length_map]) h.rds
theorem Nums.rdsL {K : PySem.W.Frag} {H : Hp} {r : Addr} {xs : List V} {qs : List Rat} (h : Nums K H xs qs) (s : SqL K H r xs) : Rds K H (.ref r) (.list (qs.map nD)) := .lst s (by rw [h.length, List.length_map]) h.rds
theorem nDs_lay : ∀ qs : List Rat, PyData.canLayAll0 (qs.map nD) = true
  | [] => rfl
  | q :: r => by
    show (PyData.canLay0 (nD q) && PyData.canLayAll0 (r.map nD)) = true
    rw [nDs_lay r]; rfl
theorem nDs_depth : ∀ qs : List Rat, PyData.depthAll (qs.map nD) ≤ 1
  | [] => Nat.zero_le _
  | q :: r => by
    have ih := nDs_depth r
    show max (PyData.depth (nD q)) (PyData.depthAll (r.map nD)) ≤ 1
    exact Nat.max_le.mpr ⟨Nat.le_refl _, ih⟩
theorem nDs_shL (qs : List Rat) : SeqAt.shaped (.list (qs.map nD)) = true := by
  show (PyData.canLayAll0 (qs.map nD) && decide (PyData.depthAll (qs.map nD) + 1 ≤ 64)) = true
  rw [nDs_lay, Bool.true_and]
  exact decide_eq_true (by have := nDs_depth qs; lia)
/-- == of two numbers, of two tuples, two lists of numbers, by their values -/
theorem eqN {K : PySem.W.Frag} {H : Hp} {x y : V} {p q : Rat} {Q : VK} {neg : Bool} (h1 : NumV K H x p) (h2 : NumV K H y q) (h : Q (.bl (if neg then !decide (p = q) else decide (p = q))) H) : rEqD K neg x y H Q :=
  eqD_of ⟨_, _, h1.rds, h2.rds, nD_shaped _, nD_shaped _, by rw [nD_eqv]; exact h⟩
theorem eqL {K : PySem.W.Frag} {H : Hp} {a b : Addr} {xs ys : List V} {ps qs : List Rat} {Q : VK} {neg : Bool} (s1 : SqL K H a xs) (n1 : Nums K H xs ps) (s2 : SqL K H b ys) (n2 : Nums K H ys qs) (h : Q (.bl (if neg then !decide (ps = qs) else decide (ps = qs))) H) : rEqD K neg (.ref a) (.ref b) H Q := by
  refine eqD_of ⟨_, _, n1.rdsL s1, n2.rdsL s2, nDs_shL _, nDs_shL _, ?_⟩
  have e : PyData.eqv (.list (ps.map nD)) (.list (qs.map nD)) = decide (ps = qs) := nDs_eqv ps qs
  rw [e]; exact h

/-! ### a while, by what holds and a measure -/
theorem wh_by {c : TT} {tb : TS} {D : Ends} {σ : St} {H : Hp} (Pv : St → Hp → Prop) (μ : St → Hp → Nat) (h0 : Pv σ H)
    (hs : ∀ σ H, Pv σ H → c σ H fun b H1 => if b = true then ∃ N : St → Hp → Prop, (∀ σ' H', N σ' H' → ∃ m', m' < μ σ H ∧ (m' = μ σ' H' ∧ Pv σ' H')) ∧ tb { D with nx := N, ct := N, bk := D.nx } σ H1 else D.nx σ H1) : tWhile c tb D σ H := by
  refine ⟨fun m σ H => m = μ σ H ∧ Pv σ H, ⟨_, rfl, h0⟩, ?_⟩
  rintro m σ H ⟨rfl, p⟩
  exact hs σ H p
theorem wh_go {tb : TS} {D : Ends} {σ : St} {H1 : Hp} {m : Nat} {Pv : St → Hp → Prop} {μ : St → Hp → Nat}
    (h : tb { D with nx := fun σ' H' => Pv σ' H' ∧ μ σ' H' < m, ct := fun σ' H' => Pv σ' H' ∧ μ σ' H' < m, bk := D.nx } σ H1) :
    ∃ N : St → Hp → Prop, (∀ σ' H', N σ' H' → ∃ m', m' < m ∧ (m' = μ σ' H' ∧ Pv σ' H')) ∧ tb { D with nx := N, ct := N, bk := D.nx } σ H1 :=
  ⟨_, fun _ _ ⟨p, l⟩ => ⟨_, l, rfl, p⟩, h⟩

/-! ### sizes of numbers -/
def RB (n : Nat) (q : Rat) : Prop := Bd n q.num ∧ Bd n (q.den : Int)
theorem Bd.mul {m n : Nat} {x y : Int} (h1 : Bd m x) (h2 : Bd n y) : Bd (m + n) (x * y) := by
  unfold Bd at *
  rw [Int.natAbs_mul, Nat.pow_add]
  exact Nat.mul_lt_mul'' h1 h2
theorem Bd.add {n : Nat} {x y : Int} (h1 : Bd n x) (h2 : Bd n y) : Bd (n + 1) (x + y) := by
  unfold Bd at *
  rw [Nat.pow_succ, Nat.mul_two]
  exact Nat.lt_of_le_of_lt (Int.natAbs_add_le x y) (Nat.add_lt_add h1 h2)
theorem Bd.sub {n : Nat} {x y : Int} (h1 : Bd n x) (h2 : Bd n y) : Bd (n + 1) (x - y) := by
  rw [Int.sub_eq_add_neg]
  exact Bd.add h1 (by unfold Bd; rw [Int.natAbs_neg]; exact h2)
theorem Bd.fdiv {n : Nat} {x y : Int} (h : Bd n x) : Bd n (x.fdiv y) := Nat.lt_of_le_of_lt (PySem.natAbs_fdiv_le x y) h
theorem MulC.bd {m n : Nat} {x y : Int} (h1 : Bd m x) (h2 : Bd n y) (h : m + n ≤ 134217728 := by lia) : MulC x y := .inr (.inr ⟨m, n, h1, h2, h⟩)
theorem RB.mono {m n : Nat} {q : Rat} (h : RB m q) (hmn : m ≤ n) : RB n q := ⟨h.1.mono hmn, h.2.mono hmn⟩
theorem RB.div {m n : Nat} {t b : Int} (h1 : Bd n t) (h2 : Bd n b) (hb : b ≠ 0) : RB n (Rat.divInt t b) := ⟨Bd.num h1, Bd.den hb h2⟩
/-- a tuple that the module holds -/
theorem vals_abs : ∀ {us : List Value} {xs : List V}, us.map absV = xs.map some → (∀ u ∈ us, ∀ x, absV u = some x → RelV x u) → Vals xs us
  | [], [], _, _ => .nil
  | [], _ :: _, e, _ => by simp at e
  | _ :: _, [], e, _ => by simp at e
  | u :: us, x :: xs, e, h => by
    simp only [List.map_cons, List.cons.injEq] at e
    exact .cons (h u List.mem_cons_self x e.1) (vals_abs e.2 fun v hv => h v (List.mem_cons_of_mem _ hv))
theorem absV_rel {u : Value} {x : V} (h : absV u = some x) : RelV x u := by
  cases u <;> first | (cases h; rfl) | (cases h; exact ⟨_, rfl⟩) | cases h
theorem const_num {K : PySem.W.Frag} {H : Hp} {a : Addr} {o : Obj} {vs : Array Value} {n : Nat} {q : Rat} (hk : K.lookup a = some o) (hc : o.cls = .type "tuple") (hd : o.data = .seq vs n) (e : vs.toList.map absV = [some (.int q.num), some (.int (q.den : Int))]) : SqT K H a [.int q.num, .int q.den] := by
  refine .inr ⟨o, vs, n, hk, hc, hd, ?_, vals_abs e fun u _ x h => absV_rel h⟩
  have hl := congrArg List.length e
  simp at hl
  rw [hl]; decide
theorem RB.plus {m n : Nat} {p q : Rat} (h1 : RB m p) (h2 : RB n q) : RB (m + n + 1) (p + q) := by
  rw [← Nm.plus_eq]
  refine ⟨Bd.num (Bd.add (h1.1.mul h2.2) ((h2.1.mul h1.2).mono (by lia))), Bd.den (Int.mul_ne_zero (Nm.den_ne p) (Nm.den_ne q)) ((h1.2.mul h2.2).mono (by lia))⟩
theorem RB.minus {m n : Nat} {p q : Rat} (h1 : RB m p) (h2 : RB n q) : RB (m + n + 1) (p - q) := by
  rw [← Nm.minus_eq]
  refine ⟨Bd.num (Bd.sub (h1.1.mul h2.2) ((h2.1.mul h1.2).mono (by lia))), Bd.den (Int.mul_ne_zero (Nm.den_ne p) (Nm.den_ne q)) ((h1.2.mul h2.2).mono (by lia))⟩
theorem RB.times {m n : Nat} {p q : Rat} (h1 : RB m p) (h2 : RB n q) : RB (m + n) (p * q) := by
  rw [← Nm.times_eq]
  exact ⟨Bd.num (h1.1.mul h2.1), Bd.den (Int.mul_ne_zero (Nm.den_ne p) (Nm.den_ne q)) (h1.2.mul h2.2)⟩
theorem RB.zero {n : Nat} (h : 1 ≤ n) : RB n 0 := ⟨(show Bd 1 0 by unfold Bd; decide).mono h, (show Bd 1 1 by unfold Bd; decide).mono h⟩
theorem RB.one {n : Nat} (h : 1 ≤ n) : RB n 1 := ⟨(show Bd 1 1 by unfold Bd; decide).mono h, (show Bd 1 1 by unfold Bd; decide).mono h⟩
/-- sums, differences, products of two numbers, as the law's own defs and the program's -/
inductive spBin (K : PySem.W.Frag) (g : Rat → Rat → Rat) (vs : List V) (H : Hp) (Q : VK) (E_3 : XK) : Prop
  | mk (x y : V) (p q : Rat) (m n : Nat) (h1 : vs = [x, y]) (h2 : NumV K H x p) (h3 : NumV K H y q) (h4 : RB m p) (h5 : RB n q) (h6 : m + n ≤ 100000000) (h7 : ∀ r, H r = none → Q (.ref r) (upd H r (nT (g p q)))) : spBin K g vs H Q E_3
end L2

/-! own layer, part 7: loops and comprehensions over a list or a tuple -/
namespace L2
open PySem PySem.Spec PyProof.Rows
/-- a list (true) or a tuple (false) -/
def Sq (b : Bool) (K : PySem.W.Frag) (H : Hp) (a : Addr) (xs : List V) : Prop := match b with
  | true => SqL K H a xs
  | false => SqT K H a xs
theorem Sq.same {b : Bool} {K : PySem.W.Frag} {H H' : Hp} {a : Addr} {xs : List V} (h : Sq b K H a xs) (e : Same H H') : Sq b K H' a xs := by
  cases b
  · exact SqT.same h e
  · exact e.seq h
theorem pi_either {X : Cx} {tg l : Expr} {w1 w2 : TI} (h1 : PI X tg l w1) (h2 : PI X tg l w2) : PI X tg l (fun σ H R => w1 σ H R ∨ w2 σ H R) := fun pins s σ H R I h => by
  rcases h with h | h
  · exact h1 pins s σ H R I h
  · exact h2 pins s σ H R I h
abbrev iSeq (K : PySem.W.Frag) (tl : TE) : TI := fun σ H R => iList K tl σ H R ∨ iTup K tl σ H R
theorem for_seq {K : PySem.W.Frag} {b : Bool} {a : Addr} {n : Nat} {xs : List V} {g : TG} {tb : TS} {D : Ends} {σ : St} {H : Hp} (hσ : σ[n]? = some (some (.ref a))) (Pv : Nat → St → Hp → Prop) (h0 : Pv 0 σ H) (hl : ∀ i σ H, i ≤ xs.length → Pv i σ H → Sq b K H a xs)
    (hs : ∀ i x σ H, xs[i]? = some x → Pv i σ H → g x σ H fun σ2 H2 => tb { D with nx := Pv (i + 1), ct := Pv (i + 1), bk := D.nx } σ2 H2) (hd : ∀ σ H, Pv xs.length σ H → D.nx σ H) :
    tFor (iSeq K (tVar n)) g tb D σ H := by
  have q := hl 0 σ H (Nat.zero_le _) h0
  cases b with
  | true => exact .inl ⟨_, hσ, a, rfl, ⟨xs, q⟩, for_list Pv h0 hl hs hd⟩
  | false => exact .inr ⟨_, hσ, a, rfl, ⟨xs, q⟩, for_tup Pv h0 hl hs hd⟩
/-- [e for x in a list or tuple] -/
theorem lc_seq {K : PySem.W.Frag} {b : Bool} {a : Addr} {n : Nat} {js : List Nat} {xs : List V} {te : TE} {σ : St} {H : Hp} {Q : VK} (hσ : σ[n]? = some (some (.ref a))) (Pv : Nat → List V → Hp → Prop) (h0 : Pv 0 [] H)
    (hl : ∀ i zs H, i ≤ xs.length → Pv i zs H → Sq b K H a xs ∧ zs.length = i) (hz : xs.length ≤ sizeLine)
    (hs : ∀ i x zs H, xs[i]? = some x → Pv i zs H → te ((cS 1 js σ).set 0 (some x)) H fun y H4 => Pv (i + 1) (zs ++ [y]) H4) (fin : ∀ zs H', Pv xs.length zs H' → ∀ p, H' p = none → Q (.ref p) (upd H' p (.lst zs))) :
    tLC (iSeq K (tVar n)) 1 js (gName 0) tYes te σ H Q := by
  have q := (hl 0 [] H (Nat.zero_le _) h0).1
  cases b with
  | true =>
    refine lc_of (.inl ⟨_, hσ, a, rfl, ⟨xs, q⟩, xs.length, Pv, h0, ⟨?_, ?_, ?_⟩⟩)
    · intro i zs H' hi p
      have hle := Nat.le_of_lt hi
      obtain ⟨h1, h2⟩ := hl i zs H' hle p
      exact ⟨⟨xs, xs[i], h1, by simp [hi]⟩, by lia⟩
    · rintro i zs H' x H1 hi p ⟨rfl, y⟩
      have hle := Nat.le_of_lt hi
      have hx := y xs (hl i zs _ hle p).1
      exact hs i x zs _ hx p
    · intro zs H' p
      have hle := Nat.le_refl xs.length
      obtain ⟨h1, h2⟩ := hl _ zs H' hle p
      exact ⟨⟨xs, h1, Nat.le_refl _⟩, by lia, fin zs H' p⟩
  | false =>
    refine lc_of (.inr ⟨_, hσ, a, rfl, ⟨xs, q⟩, xs.length, Pv, h0, ⟨?_, ?_, ?_⟩⟩)
    · intro i zs H' hi p
      have hle := Nat.le_of_lt hi
      obtain ⟨h1, h2⟩ := hl i zs H' hle p
      exact ⟨⟨xs, xs[i], h1, by simp [hi]⟩, by lia⟩
    · rintro i zs H' x H1 hi p ⟨rfl, y⟩
      have hle := Nat.le_of_lt hi
      have hx := y xs (hl i zs _ hle p).1
      exact hs i x zs _ hx p
    · intro zs H' p
      have hle := Nat.le_refl xs.length
      obtain ⟨h1, h2⟩ := hl _ zs H' hle p
      exact ⟨⟨xs, h1, Nat.le_refl _⟩, by lia, fin zs H' p⟩

/-! ### the rules that name the written part, by its name -/
section
variable {X : Cx} (K : PySem.W.Frag)
theorem ixT (e : X.K = K := by rfl) : IxR X (rIxT K) := by subst e; exact ix_tup
theorem ixL (e : X.K = K := by rfl) : IxR X (rIxL K) := by subst e; exact ix_list
theorem eqD (hu : X.A.units + 64 < cLine) (e : X.K = K := by rfl) : OpR X (compareOp .Eq) (rEqD K false) := by subst e; exact op_eqD hu
theorem neD (hu : X.A.units + 64 < cLine) (e : X.K = K := by rfl) : OpR X (compareOp .NotEq) (rEqD K true) := by subst e; exact op_neD hu
theorem notInS (e : X.K = K := by rfl) : OpR X (compareOp .NotIn) (rIn K true) := by subst e; exact op_notIn_seq
theorem slL (e : X.K = K := by rfl) : SlR X (rSlL K) := by subst e; exact sl_list
/-- the type of a value: a tuple, a list also where it is the module's or known -/
inductive TyX (K : PySem.W.Frag) (H : Hp) : V → Value → Prop where
  | of {x : V} {t : Value} (h : TyOf K H x t) : TyX K H x t
  | tup {a : Addr} {xs : List V} (h : SqT K H a xs) : TyX K H (.ref a) (.type "tuple")
  | lst {a : Addr} {xs : List V} (h : SqL K H a xs) : TyX K H (.ref a) (.type "list")
inductive cIsi (xs : List V) (H : Hp) (Q : VK) : Prop
  | mk (x : _) (T : _) (t : _) (b : _) (h1 : xs = [x, .ty T]) (h2 : TyX K H x t) (h3 : PySem.W.kitOne K t (.type T) = some b) (h4 : Q (.bl b) H) : cIsi xs H Q
theorem isiK (e : X.K = K := by rfl) : CallR X (.builtin "isinstance") (cIsi K) := by
  subst e
  intro pins s σ H xs us Q I r h
  obtain ⟨x, T, t, b, rfl, ty, e, q⟩ := h
  obtain ⟨u, w', rfl, rx, rT⟩ := vals2 r
  cases rT
  cases ty with
  | of ty => exact isinst_ok I rx ty e fun tk => ⟨.bl b, H, I.tok _, rfl, q⟩
  | tup hq =>
    cases rx
    obtain ⟨its, rv, ⟨o, e1, c, _⟩, _⟩ := I.tuple hq
    exact PySem.W.kia_one PySem.W.kitx_tuple I.kIn ⟨o, e1, c⟩ e (fun z => nomatch z) fun tk => ⟨.bl b, H, I.tok _, rfl, q⟩
  | lst hq =>
    cases rx
    obtain ⟨its, rv, ⟨o, n, e1, c, _⟩, _⟩ := I.list hq
    exact PySem.W.kia_one PySem.W.kitx_list I.kIn ⟨o, e1, c⟩ e (fun z => nomatch z) fun tk => ⟨.bl b, H, I.tok _, rfl, q⟩
inductive cLen (xs : List V) (H : Hp) (Q : VK) : Prop
  | mk (p : _) (ys : _) (h1 : xs = [.ref p]) (h2 : (SqL K H p ys ∨ SqT K H p ys)) (h3 : Q (.int ys.length) H) : cLen xs H Q
theorem lenK (e : X.K = K := by rfl) : CallR X (.builtin "len") (cLen K) := by subst e; exact fun pins s σ H xs us Q I r ⟨p, ys, h1, h2, h3⟩ => call_len_seq pins s σ H xs us Q I r ⟨p, ys, h1, h2, h3⟩
inductive cList (xs : List V) (H : Hp) (Q : VK) : Prop
  | mk (p : _) (ys : _) (h1 : xs = [.ref p]) (h2 : (SqL K H p ys ∨ SqT K H p ys)) (h3 : ∀ l, H l = none → Q (.ref l) (upd H l (.lst ys))) : cList xs H Q
theorem listK (e : X.K = K := by rfl) : CallR X (.type "list") (cList K) := by subst e; exact fun pins s σ H xs us Q I r ⟨p, ys, h1, h2, h3⟩ => call_list_of pins s σ H xs us Q I r ⟨p, ys, h1, h2, h3⟩
inductive cTuple (xs : List V) (H : Hp) (Q : VK) : Prop
  | mk (p : _) (ys : _) (h1 : xs = [.ref p]) (h2 : ((SqL K H p ys ∧ ∀ l, H l = none → Q (.ref l) (upd H l (.tup ys))) ∨ (SqT K H p ys ∧ Q (.ref p) H))) : cTuple xs H Q
theorem tupleK (e : X.K = K := by rfl) : CallR X (.type "tuple") (cTuple K) := by subst e; exact fun pins s σ H xs us Q I r ⟨p, ys, h1, h2⟩ => call_tuple_of pins s σ H xs us Q I r ⟨p, ys, h1, h2⟩
inductive cAll (xs : List V) (H : Hp) (Q : VK) : Prop
  | mk (a : Addr) (bs : List Bool) (h1 : xs = [.ref a]) (h2 : SqL K H a (bs.map V.bl)) (h3 : Q (.bl (bs.all id)) H) : cAll xs H Q
theorem allB (hc : X.calm = true) (e : X.K = K := by rfl) : CallR X (.builtin "all") (cAll K) := by subst e; exact fun pins s σ H xs us Q I r ⟨a, bs, h1, h2, h3⟩ => call_allB hc pins s σ H xs us Q I r ⟨a, bs, h1, h2, h3⟩
variable {tg l : Expr} {tl : TE}
theorem piL (hl : PE X l tl) (e : X.K = K := by rfl) : PI X tg l (iList K tl) := by subst e; exact pi_list hl
theorem piT (hl : PE X l tl) (e : X.K = K := by rfl) : PI X tg l (iTup K tl) := by subst e; exact pi_tup hl
theorem piS (hl : PE X l tl) (e : X.K = K := by rfl) : PI X tg l (iSeq K tl) := by subst e; exact pi_either (pi_list hl) (pi_tup hl)
theorem pgT {es : List Expr} {k : Nat} {t : TGs} {n : Nat} {pos : Pos} (hc : X.calm = true) (h : PGs X es t) (hn : (assignEach es X.env).length = n := by rfl) (hst : (assignEach es X.env).findIdx? (·.1) = none := by rfl) (e : X.K = K := by rfl) : PG X (.Tuple es k pos) (gTup K n t) := by subst e; exact pg_tup hc h hn hst
end
end L2

/-! own layer, part 8: what is a whole number, a number, a curve; comprehensions over a range -/
namespace L2
open PySem PySem.Spec PyProof.Rows
inductive Whole (K : PySem.W.Frag) (H : Hp) : V → Bool → Prop where
  | int (i : Int) : Whole K H (.int i) true
  | bl (b : Bool) : Whole K H (.bl b) false
  | oth {x : V} {t : Value} (ty : TyX K H x t) (h : PySem.W.kitOne K t (.type "int") = some false) : Whole K H x false
inductive spWhole (K : PySem.W.Frag) (vs : List V) (H : Hp) (Q : VK) (E_3 : XK) : Prop
  | mk (x : _) (b : _) (h1 : vs = [x]) (h2 : Whole K H x b) (h3 : Q (.bl b) H) : spWhole K vs H Q E_3
theorem kit_ii (K : PySem.W.Frag) : PySem.W.kitOne K (.type "int") (.type "int") = some true := by kernel_rfl
theorem kit_ib (K : PySem.W.Frag) : PySem.W.kitOne K (.type "int") (.type "bool") = some false := by kernel_rfl
theorem kit_bi (K : PySem.W.Frag) : PySem.W.kitOne K (.type "bool") (.type "int") = some true := by kernel_rfl
theorem kit_bb (K : PySem.W.Frag) : PySem.W.kitOne K (.type "bool") (.type "bool") = some true := by kernel_rfl
theorem kit_tt (K : PySem.W.Frag) : PySem.W.kitOne K (.type "tuple") (.type "tuple") = some true := by kernel_rfl
theorem lc_itr {lo : Int} {n : Nat} {js : List Nat} {te : TE} {σ : St} {H : Hp} {Fin : List V → Hp → Prop} (Pv : Nat → List V → Hp → Prop) (h0 : Pv 0 [] H) (hl : ∀ i zs H, i ≤ n → Pv i zs H → zs.length = i) (hz : n ≤ sizeLine)
    (hs : ∀ i zs H, i < n → Pv i zs H → te ((cS 1 js σ).set 0 (some (.int (lo + i)))) H fun y H4 => Pv (i + 1) (zs ++ [y]) H4) (fin : ∀ zs H', Pv n zs H' → Fin zs H') :
    ∃ (n' : Nat) (W : Nat → List V → Hp → Prop), W 0 [] H ∧ LcW (Itr lo n) n' 1 js σ (gName 0) tYes te Fin W := by
  refine ⟨n, Pv, h0, ⟨?_, ?_, ?_⟩⟩
  · intro i zs H' hi p
    have := hl i zs H' (Nat.le_of_lt hi) p
    exact ⟨hi, by lia⟩
  · rintro i zs H' x H1 hi p ⟨rfl, rfl⟩
    exact hs i zs _ hi p
  · intro zs H' p
    have := hl n zs H' (Nat.le_refl _) p
    exact ⟨Nat.le_refl _, by lia, fin zs H' p⟩
/-- it is a number: True -/
inductive spIsN (K : PySem.W.Frag) (vs : List V) (H : Hp) (Q : VK) (E_3 : XK) : Prop
  | mk (x : _) (q : _) (h1 : vs = [x]) (h2 : NumV K H x q) (h3 : ∀ H', Same H H' → Q (.bl true) H') : spIsN K vs H Q E_3
/-- it is a curve: True -/
def Good (qs : List Rat) : Prop := qs = [] ∨ ∃ q, qs[qs.length - 1]? = some q ∧ q ≠ 0
theorem good_strip (qs : List Rat) : Good (Cv.strip qs) := by
  by_cases h : Cv.strip qs = []
  · exact .inl h
  · have hl : 0 < (Cv.strip qs).length := List.length_pos_iff.mpr h
    have e := List.getElem?_eq_getElem (l := Cv.strip qs) (i := (Cv.strip qs).length - 1) (by lia)
    refine .inr ⟨_, e, fun z => Cv.strip_last qs h ?_⟩
    rw [e, z]
theorem all_rep (n : Nat) : (List.replicate n true).all id = true := by
  rw [List.all_eq_true]
  intro b hb
  exact (List.mem_replicate.mp hb).2
theorem Pen.sm {H H' : Hp} {p : Addr} (h : Pen H p) (e : Same H H') : Pen H' p := let ⟨c0, c1, c2, z⟩ := h; ⟨c0, c1, c2, e _ _ z⟩
theorem rep_nums {K : PySem.W.Frag} {H : Hp} {x : V} {q : Rat} (h : NumV K H x q) : ∀ n : Nat, Nums K H (List.replicate n [x]).flatten (List.replicate n q)
  | 0 => .nil
  | n + 1 => by
    rw [List.replicate_succ, List.flatten_cons, List.replicate_succ]
    exact .cons h (rep_nums h n)
theorem at_plus {ns : List Int} {i : Nat} {t : Int} {k : Int} (h : ns[i]? = some t) (e : k = (i : Int)) : atI (ns.map V.int) k = some (.int t) := by
  subst e
  exact atI_nat (by rw [List.getElem?_map, h]; rfl)
theorem ixN_plus {n i : Nat} {k : Int} (h : i < n) (e : k = (i : Int)) : ixN n k = some i := by
  subst e
  unfold ixN
  rw [if_pos (by lia), if_pos (by lia), Int.toNat_natCast]
theorem Same.put {H H' : Hp} {p : Addr} {o : HO} (h : Same H H') (hp : H p = none) : Same H (upd H' p o) := fun b u q => by rw [upd_ne (ne_of_none q hp)]; exact h b u q
/-- an int below so many times a power -/
def Up (c M : Nat) (t : Int) : Prop := t.natAbs ≤ c * 2 ^ M
theorem Up.bd {c k M : Nat} {t : Int} (h : Up c M t) (hc : c < 2 ^ k) : Bd (M + k) t := by
  unfold Up at h
  unfold Bd
  rw [Nat.pow_add, Nat.mul_comm (2 ^ M)]
  exact Nat.lt_of_le_of_lt h (Nat.mul_lt_mul_of_pos_right hc (Nat.pow_pos (by decide)))
theorem Up.add {c M : Nat} {t d : Int} (h : Up c M t) (hd : Bd M d) : Up (c + 1) M (t + d) := by
  unfold Up at *
  unfold Bd at hd
  rw [Nat.add_mul, Nat.one_mul]
  exact Nat.le_trans (Int.natAbs_add_le t d) (Nat.add_le_add h (Nat.le_of_lt hd))
theorem Up.mono {c c' M : Nat} {t : Int} (h : Up c M t) (hc : c ≤ c') : Up c' M t := Nat.le_trans h (Nat.mul_le_mul_right _ hc)
end L2

/-! own layer, part 9: an exception that leaves a def, raise, and try with one except around a call -/
namespace L2
open PySem PySem.Spec PyProof.Rows
/-- how an exception lies behind a call: it flies over B, and B holds all that is known -/
def CX1 (P : Program) (w : World) : CXT := fun outer H s E e s' => ∃ (ea : Addr) (cls a0 : Value) (B : Heap) (H' : Hp), e = .ref ea ∧ s'.os = s.os ∧ AllBare s'.gens ∧ Un (frs outer) [] H H' s.heap s'.heap ∧ HOk P w H' s'.heap ∧
  Heap.FlyingW B outer ea cls a0 s'.heap ∧ (∀ b o, s.heap.get? b = some o → b ∉ frs outer → ∃ o', B.get? b = some o') ∧ (∀ b u, H' b = some u → ∃ o', B.get? b = some o') ∧ E cls none H'
section
variable {X : Cx} {pins : List (Addr × Obj)} {σ : St} {H H' : Hp} {s s' : Shared} {B : Heap}
end
section
variable {P : Program} {w : World} {K : PySem.W.Frag} {mg : Str → Option Value} {base : Heap} {N : List Str} {qual : Str} {scope : Scope} {f : Addr} {cd : Value} {A : Around} {outer : List Env} {s : Shared} {H : Hp} {E : XK}
end
/-- an own class of exceptions, under ValueError -/
structure XCls (K : PySem.W.Frag) (x : Str) (C : Addr) : Prop where
  ns : PySem.W.nsIn K mainGlobals x = some (some (.ref C))
  ob : ∃ bm N nm q bs hdct sn sub ab col dd k0 k1 k2 k3 k5, K.lookup C = some (excClassObj nm q C N bs bm hdct sn sub ab col dd k0 k1 k2 k3 k5 "ValueError.__new__")
  ex : PySem.W.excIn K C [.type "ValueError", .type "Exception", .type "BaseException", .type "object"] "ValueError.__new__" = true
/-! ### try, with one except, around one call -/
section
variable {X : Cx} {pins : List (Addr × Obj)} {σ : St} {H H' : Hp} {s s' : Shared} {B : Heap}
end
/-! ### isinstance of a caught exception -/
section
open PySem.W PySem.Builtin PySem.Builtin.ObjectAttr PySem.Builtin.Getset_descriptor
variable {prog : Program} {w : World} {A : Around} {E : Value → Shared → Prop} {s : Shared} {K : PySem.W.Frag} {x D : Addr}
/-- what the class answers about its instances' class -/
structure XTy (K : PySem.W.Frag) (D : Addr) : Prop where
  ga : findIn K (.ref D) "__getattribute__" = some (some (.builtin "BaseException.__getattribute__"))
  gt : findIn K (.ref D) "__getattr__" = some none
  ca : findIn K (.ref D) "__class__" = some (some (.builtin "object.__class__"))
  gg : specialIn K (.builtin "object.__class__") "__get__" = some (some (.builtin "getset_descriptor.__get__"))
  tk : takesIn K (.builtin "object.__class__") = some true
  ob : mroIn K D (.type "object") = some true
  be : mroIn K D (.type "BaseException") = some true
  cl : ∃ c d cd sl, K.lookup D = some ⟨c, d, .cls cd, sl⟩
def clsV : V → Option Value
  | .ref a => some (.ref a)
  | .ty T => some (.type T)
  | _ => none
theorem clsV_rel {y : V} {u c : Value} (r : RelV y u) (e : clsV y = some c) : u = c := by
  cases y <;> cases e <;> exact r
theorem clsV_rels : ∀ {ys : List V} {us cs : List Value}, Vals ys us → ys.map clsV = cs.map some → us = cs
  | _, _, [], .nil, _ => rfl
  | _, _, _ :: _, .nil, e => nomatch e
  | _, _, [], .cons _ _, e => nomatch e
  | _, _, c :: cs, .cons r rs, e => by
    injection e with e1 e2
    rw [clsV_rel r e1, clsV_rels rs e2]
end
section
open PySem.W
variable {X : Cx} (K : PySem.W.Frag)
end

/-! ### a def from which an exception may leave, as its text stands and as a caller takes it -/
section
variable {P : Program} {w : World} {K : PySem.W.Frag} {mg : Str → Option Value} {base : Heap}
end
structure FdX (P : Program) (w : World) (K : PySem.W.Frag) (mg : Str → Option Value) (base : Heap) (n : Nat) (x : Str) (ps : List Str) (sp : Sp) : Prop where
  ex : ∃ (f : Addr) (fd : FuncData), FnOk P w K mg base (CX1 P w) n f fd ps sp ∧ Binds K fd ps [] ∧ PySem.W.keepIn K (.ref f) = true ∧ mg x = some (.ref f)
end L2

/-! own layer, part 10: range(a, b, -1) -/
namespace L2
open PySem PySem.Spec PyProof.Rows
/-- lo, lo - 1, .. (n of them) -/
def Itd (lo : Int) (n : Nat) : It := ⟨fun i _ => i < n, fun i H x H' => H' = H ∧ x = .int (lo - i), fun i _ => n ≤ i⟩
theorem turn_down {P : Program} {w : World} {K : PySem.W.Frag} {tg : Expr} (it : Addr) (lo : Int) (n : Nat) : Turn P w K tg (Itd lo n) [it] it (fun i h => IsRangeIter h it (lo + (i : Nat) * (-1)) ((n : Int) - (i : Nat)) (-1)) where
  mem := by simp
  obj := fun i h st b hb => by
    have e : b = it := by simpa using hb
    subst e
    exact ⟨_, st, fun v z => by
      have z' : Data.fields _ = Data.cell v := z
      cases z'⟩
  keep := fun i h h' st k => k it (by simp) _ st
  item := by
    intro X hP hw hK hc i pins s σ H E I hf st hg
    subst hP hw hK
    obtain ⟨f0, f1, f2, f3, f4, f5⟩ := hf it (by simp)
    refine (Walks.range (prog := X.prog) (w := X.w) (I.ok.hd hc) it lo (-1) n).item i s _ _ hg st fun v h' tk hv st' kk => ?_
    obtain ⟨t, rfl⟩ := hv
    have I1 : Inv X pins σ H { s with heap := h', toks := tk } := I.turned (fun b o hb e => kk b o (by simpa using hb) e) f0 f1 f3 f4 f5
    refine ⟨_, rfl, go_of (s := { s with heap := h', toks := tk }) (n := "range_iterator") st' rfl rfl (by decide) ⟨.int (lo - i), H, I1, ⟨t, ?_⟩, ⟨rfl, rfl⟩, st', fun b hb => (hf b hb).1⟩⟩
    rw [show lo + (i : Int) * -1 = lo - i by lia]
  done := by
    intro X hP hw hK hc i pins s σ H E I hf st hg
    subst hP hw hK
    obtain ⟨f0, f1, f2, f3, f4, f5⟩ := hf it (by simp)
    exact wpAny_pyNext_range_end (I.ok.hd hc) st (by have : n ≤ i := hg; lia) fun h' eb => ⟨rfl, I.turned (t' := s.toks) (fun b o hb e => eb b o hb e) f0 f1 f3 f4 f5⟩
  self := fun _ _ _ _ _ st h => wpAny_pyIter_rangeiter st h
theorem size_down (a b : Int) : Builtin.Range.rangeSize a b (-1) = (((a - b).toNat : Nat) : Int) := by
  unfold Builtin.Range.rangeSize
  rw [if_neg (by decide)]
  split
  · rw [show -(-1 : Int) = 1 by decide, Int.ediv_one]; lia
  · lia
section
variable {X : Cx} {tg : Expr}
def iDown (ta : TA) : TI := fun σ H R => ta σ H fun vs H1 => ∃ i j : Int, vs = [.int i, .int j, .int (-1)] ∧ (-1000000 ≤ i ∧ i ≤ 1000000 ∧ -1000000 ≤ j ∧ j ≤ 1000000) ∧ R (Itd i (i - j).toNat) H1
theorem pi_down {a b c : Expr} {ta : TA} {p pos : Pos} (hg : Gl X "range") (hm : X.mg "range" = none) (ha : PA X [a, b, c] ta) (hs : starEach [a, b, c] X.env = [(false, eval a X.env), (false, eval b X.env), (false, eval c X.env)] := by rfl)
    (hs2 : starEach [b, c] X.env = [(false, eval b X.env), (false, eval c X.env)] := by rfl) : PI X tg (.Call (.Name "range" p) [a, b, c] [] pos) (iDown ta) := by
  intro pins s σ H R I h
  refine Call_ (ld_blt I hg hm boot_range (PyProof.Rows.callWith_type1 (thn (ha pos pins s σ H _ I h) fun us s1 ⟨vs, H1, I1, r1, q1⟩ => ?_) (by rw [hs, hs2]) (by rw [hs2]; rfl)))
  obtain ⟨i, j, e, ⟨q1, q2, q3, q4⟩, q⟩ := q1
  subst e
  cases r1 with
  | cons r rr =>
    cases rr with
    | cons r' rr =>
      cases rr with
      | cons r3 rr =>
        cases rr
        obtain ⟨t, rfl⟩ := r
        obtain ⟨t', rfl⟩ := r'
        obtain ⟨t3, rfl⟩ := r3
        have sm : Builtin.Range.small i j (-1) = true := by
          unfold Builtin.Range.small
          rw [size_down]
          simp only [Builtin.Range.rangeFitsLong, Bool.and_eq_true, Bool.or_eq_true, decide_eq_true_eq, beq_iff_eq]
          rw [if_neg (by decide)]
          simp only [Bool.and_eq_true, decide_eq_true_eq]
          lia
        refine call_range_3 (by decide) ?_ (.inl (PyProof.noPylong_small (by lia)))
        refine wpAny_pyIter_range (IsRange.new ..) sm ?_
        have I2 : Inv X pins σ H1 { s1 with heap := s1.heap.push { cls := .type "range", data := .fields #[.int i t, .int j t', .int (-1) t3] }, toks := s1.toks } := I1.kept fun b o e => Heap.get?_push_of_some _ e
        refine ⟨_, [_], _, _, H1, rfl, I2.kept (t' := s1.toks) fun b o e => Heap.get?_push_of_some _ e, turn_down _ i (i - j).toNat, ?_, fun b hb => ?_, q⟩
        · show IsRangeIter _ _ (i + ((0 : Nat) : Int) * (-1)) ((((i - j).toNat : Nat) : Int) - ((0 : Nat) : Int)) (-1)
          rw [show i + ((0 : Nat) : Int) * (-1) = i by lia, show (((i - j).toNat : Nat) : Int) - ((0 : Nat) : Int) = Builtin.Range.rangeSize i j (-1) by rw [size_down]; lia]
          exact Heap.get?_push_size _ rfl
        · have e := List.mem_singleton.mp hb
          subst e
          exact I2.fpOk (Nat.le_refl _) (I2.hok.fresh (Nat.le_refl _))
end
theorem for_down {lo : Int} {n : Nat} {g : TG} {tb : TS} {D : Ends} {σ : St} {H : Hp} (Pv : Nat → St → Hp → Prop) (h0 : Pv 0 σ H)
    (hs : ∀ i σ H, i < n → Pv i σ H → g (.int (lo - i)) σ H fun σ2 H2 => tb { D with nx := Pv (i + 1), ct := Pv (i + 1), bk := D.nx } σ2 H2) (hd : ∀ σ H, Pv n σ H → D.nx σ H) :
    ∃ W : Nat → Nat → St → Hp → Prop, (∃ m, W 0 m σ H) ∧ ∀ i m σ H, W i m σ H →
      ((Itd lo n).stop i H ∧ D.nx σ H) ∨ ((Itd lo n).go i H ∧ ∃ N : St → Hp → Prop, (∀ σ' H', N σ' H' → ∃ m', m' < m ∧ W (i + 1) m' σ' H') ∧ ∀ x H', (Itd lo n).yld i H x H' → g x σ H' fun σ2 H2 => tb { D with nx := N, ct := N, bk := D.nx } σ2 H2) := by
  refine ⟨fun i m σ H => m = n - i ∧ i ≤ n ∧ Pv i σ H, ⟨n, by simp, Nat.zero_le _, h0⟩, ?_⟩
  rintro i m σ H ⟨rfl, hi, p⟩
  by_cases hlt : i < n
  · refine .inr ⟨hlt, Pv (i + 1), fun σ' H' p' => ⟨n - (i + 1), by lia, rfl, hlt, p'⟩, fun x H' y => ?_⟩
    obtain ⟨rfl, rfl⟩ := y
    exact hs i σ _ hlt p
  · have e : i = n := by lia
    subst e
    exact .inl ⟨Nat.le_refl _, hd σ H p⟩
/-- a comprehension over a list that its elements leave as it is -/
theorem lc_lst {K : PySem.W.Frag} {a : Addr} {js : List Nat} {xs : List V} {te : TE} {σ : St} {H : Hp} {Fin : List V → Hp → Prop} (Pv : Nat → List V → Hp → Prop) (h0 : Pv 0 [] H)
    (hl : ∀ i zs H, i ≤ xs.length → Pv i zs H → SqL K H a xs ∧ zs.length = i) (hz : xs.length ≤ sizeLine)
    (hs : ∀ i x zs H, xs[i]? = some x → Pv i zs H → te ((cS 1 js σ).set 0 (some x)) H fun y H4 => Pv (i + 1) (zs ++ [y]) H4) (fin : ∀ zs H', Pv xs.length zs H' → Fin zs H') :
    ∃ (n' : Nat) (W : Nat → List V → Hp → Prop), W 0 [] H ∧ LcW (Itl K a) n' 1 js σ (gName 0) tYes te Fin W := by
  refine ⟨xs.length, Pv, h0, ⟨?_, ?_, ?_⟩⟩
  · intro i zs H' hi p
    obtain ⟨h1, h2⟩ := hl i zs H' (Nat.le_of_lt hi) p
    exact ⟨⟨xs, xs[i], h1, by simp [hi]⟩, by lia⟩
  · rintro i zs H' x H1 hi p ⟨rfl, y⟩
    exact hs i x zs _ (y xs (hl i zs _ (Nat.le_of_lt hi) p).1) p
  · intro zs H' p
    obtain ⟨h1, h2⟩ := hl _ zs H' (Nat.le_refl _) p
    exact ⟨⟨xs, h1, Nat.le_refl _⟩, by lia, fin zs H' p⟩
end L2

/-! own layer, part 11: what stands behind a statement; lists of drawn numbers; whole tops over a bottom -/
namespace L2
open PySem PySem.Spec PyProof.Rows
theorem seq_joinN {i : Nat} {v : V} {c : TT} {t u rest : TS} {D : Ends} {σ : St} {H : Hp} (Pv : St → Hp → Prop) (h : ∀ nx : St → Hp → Prop, (∀ σ' H', Pv σ' H' → nx σ' H') → tIfS c t u { D with nx := nx } (σ.set i (some v)) H) (k : ∀ σ' H', Pv σ' H' → rest D σ' H') : gName i v σ H (tSeq (tIfS c t u) rest D) := h _ k
theorem Bd.neg {n : Nat} {x : Int} (h : Bd n x) : Bd n (-x) := by unfold Bd at *; rw [Int.natAbs_neg]; exact h
theorem rcancel {a c b : Rat} (hb : b ≠ 0) (h : a * b = c * b) : a = c := by
  have h2 : a * b * b⁻¹ = c * b * b⁻¹ := by rw [h]
  rw [Rat.mul_assoc, Rat.mul_assoc, Rat.mul_inv_cancel _ hb, Rat.mul_one, Rat.mul_one] at h2
  exact h2
theorem div_back {b : Int} (hb : b ≠ 0) (t : Int) : Rat.divInt t b * (b : Rat) = (t : Rat) := by
  rw [Rat.divInt_eq_div]
  exact Rat.div_mul_cancel (Nm.cast_ne hb)
theorem ev_over {b : Int} (hb : b ≠ 0) (x : Rat) : ∀ ts : List Int, Cv.ev (ts.map fun t => Rat.divInt t b) x * (b : Rat) = Cv.evI ts x
  | [] => by show (0 : Rat) * _ = 0; grind
  | t :: ts => by
    have ih := ev_over hb x ts
    have e := div_back hb t
    show (Rat.divInt t b + x * Cv.ev (ts.map fun t => Rat.divInt t b) x) * (b : Rat) = (t : Rat) + x * Cv.evI ts x
    rw [← ih, ← e]
    grind
theorem drop_at {α : Type} {l : List α} {n i : Nat} {v : α} (hn : l.length = n) (hi : i < n) (h : l[n - 1 - i]? = some v) : l.drop (n - (i + 1)) = v :: l.drop (n - i) := by
  have hlt : n - (i + 1) < l.length := by rw [hn]; exact Nat.sub_lt (Nat.lt_of_le_of_lt (Nat.zero_le _) hi) (Nat.succ_pos i)
  rw [List.drop_eq_getElem_cons hlt, show n - (i + 1) + 1 = n - i from Nat.succ_pred_eq_of_pos (Nat.sub_pos_of_lt hi)]
  congr 1
  have e : l[n - (i + 1)]? = some v := by rw [show n - (i + 1) = n - 1 - i by rw [Nat.sub_sub, Nat.add_comm]]; exact h
  rw [List.getElem?_eq_getElem hlt] at e
  exact Option.some.inj e
theorem Mv.put' {a l : Addr} {H H' : Hp} {o : HO} (m : Mv a H H') (hl : H l = none) : Mv a H (upd H' l o) := fun b u n q => by rw [upd_ne (ne_of_none q hl)]; exact m b u n q
theorem Mv.free {a l : Addr} {H H' : Hp} (m : Mv a H H') (la : l ≠ a) (h : H' l = none) : H l = none := by
  cases z : H l with
  | none => rfl
  | some u => rw [m l u la z] at h; cases h
theorem Pen.put' {H : Hp} {a l : Addr} {o : HO} (h : Pen H a) (la : l ≠ a) : Pen (upd H l o) a := let ⟨x0, x1, x2, ex⟩ := h; ⟨x0, x1, x2, by rw [upd_ne (Ne.symm la)]; exact ex⟩
theorem Pen.ne' {H : Hp} {a l : Addr} (h : Pen H a) (hl : H l = none) : l ≠ a := let ⟨_, _, _, ex⟩ := h; (ne_of_none ex hl).symm
/-! ### a list of lists of numbers -/
def RowV (K : PySem.W.Frag) (H : Hp) (x : V) (rs : List Rat) : Prop := ∃ a ys, x = .ref a ∧ SqL K H a ys ∧ Nums K H ys rs
abbrev Rows (K : PySem.W.Frag) (H : Hp) : List V → List (List Rat) → Prop := Paired (RowV K H)
end L2

/-! own layer, part 12: x in a list of numbers; points -/
namespace L2
open PySem PySem.Spec PyProof.Rows
section
variable {X : Cx}
/-- x in a list of things, by what stands there -/
@[irreducible] def rInD (K : PySem.W.Frag) (neg : Bool) : R2 := fun x y H Q => ∃ p ds d, y = .ref p ∧ Rds K H (.ref p) (.list ds) ∧ Rds K H x d ∧ SeqAt.shaped (.list ds) = true ∧ SeqAt.shaped d = true ∧ Q (.bl (if neg then !(ds.any fun y => PyData.eqv y d) else ds.any fun y => PyData.eqv y d)) H
theorem inD_of {K : PySem.W.Frag} {neg : Bool} {x y : V} {H : Hp} {Q : VK} (h : ∃ p ds d, y = .ref p ∧ Rds K H (.ref p) (.list ds) ∧ Rds K H x d ∧ SeqAt.shaped (.list ds) = true ∧ SeqAt.shaped d = true ∧ Q (.bl (if neg then !(ds.any fun y => PyData.eqv y d) else ds.any fun y => PyData.eqv y d)) H) : rInD K neg x y H Q := by
  unfold rInD; exact h
theorem inD (K : PySem.W.Frag) {k : Nat} (hr : Room k X.A) (e : X.K = K := by rfl) : OpR X (compareOp .In) (rInD K false) := by
  subst e
  intro pins s σ H x y v u Q I rx ry h
  unfold rInD at h
  obtain ⟨p, ds, d, rfl, r1, r2, h1, h2, q⟩ := h
  cases ry
  obtain ⟨as, q1⟩ := reads_of I r1 (u := .ref p) rfl
  obtain ⟨bs, q2⟩ := reads_of I r2 rx
  exact SeqAt.in_list_reads q1 q2 (SeqAt.canLay_of_shaped h1) (SeqAt.canLay_of_shaped h2) (PyProof.Rows.room_in_shaped h2 (by have := hr.un; lia)) ⟨.bl _, H, I, rfl, q⟩
end
theorem any_nD (q : Rat) : ∀ qs : List Rat, ((qs.map nD).any fun y => PyData.eqv y (nD q)) = decide (q ∈ qs)
  | [] => by simp
  | c :: r => by
    rw [List.map_cons, List.any_cons, nD_eqv, any_nD q r, Bool.eq_iff_iff]
    simp only [Bool.or_eq_true, decide_eq_true_eq, List.mem_cons]
    constructor
    · rintro (h | h)
      · exact .inl h.symm
      · exact .inr h
    · rintro (h | h)
      · exact .inl h.symm
      · exact .inr h
/-- a number in a list of numbers -/
theorem inN {K : PySem.W.Frag} {H : Hp} {x : V} {a : Addr} {xs : List V} {q : Rat} {qs : List Rat} {Q : VK} {neg : Bool} (h1 : NumV K H x q) (s2 : SqL K H a xs) (n2 : Nums K H xs qs) (h : Q (.bl (if neg then !decide (q ∈ qs) else decide (q ∈ qs))) H) : rInD K neg x (.ref a) H Q :=
  inD_of ⟨a, _, _, rfl, n2.rdsL s2, h1.rds, nDs_shL _, nD_shaped _, by rw [any_nD]; exact h⟩
/-! ### points: tuples of numbers in a tuple -/
def PtV (K : PySem.W.Frag) (H : Hp) (x : V) (ps : List Rat) : Prop := ∃ a, x = .ref a ∧ Crv K H a ps
abbrev Pts (K : PySem.W.Frag) (H : Hp) : List V → List (List Rat) → Prop := Paired (PtV K H)
theorem PtV.same {K : PySem.W.Frag} {H H' : Hp} {x : V} {ps : List Rat} (h : PtV K H x ps) (e : Same H H') : PtV K H' x ps := let ⟨a, h1, h2⟩ := h; ⟨a, h1, h2.same e⟩
theorem PtV.mv {K : PySem.W.Frag} {H H' : Hp} {x : V} {ps : List Rat} {p : Addr} (h : PtV K H x ps) (pn : Pen H p) (m : Mv p H H') : PtV K H' x ps := let ⟨a, h1, h2⟩ := h; ⟨a, h1, h2.mv pn m⟩
theorem Pts.same {K : PySem.W.Frag} {H H' : Hp} {xs : List V} {pss : List (List Rat)} (h : Pts K H xs pss) (e : Same H H') : Pts K H' xs pss := Paired.mapP h fun _ _ z => z.same e
theorem Pts.mv {K : PySem.W.Frag} {H H' : Hp} {xs : List V} {pss : List (List Rat)} {p : Addr} (h : Pts K H xs pss) (pn : Pen H p) (m : Mv p H H') : Pts K H' xs pss := Paired.mapP h fun _ _ z => z.mv pn m
/-! ### told numbers -/
structure Told where
  x : Rat
  k : Int
  n : Rat
deriving DecidableEq
def TlV (K : PySem.W.Frag) (H : Hp) (v : V) (t : Told) : Prop := ∃ a rx rn, v = .ref a ∧ SqT K H a [rx, .int t.k, rn] ∧ NumV K H rx t.x ∧ NumV K H rn t.n
abbrev Tls (K : PySem.W.Frag) (H : Hp) : List V → List Told → Prop := Paired (TlV K H)
theorem TlV.same {K : PySem.W.Frag} {H H' : Hp} {x : V} {t : Told} (h : TlV K H x t) (e : Same H H') : TlV K H' x t := let ⟨a, rx, rn, h1, h2, h3, h4⟩ := h; ⟨a, rx, rn, h1, h2.same e, h3.same e, h4.same e⟩
theorem TlV.put {K : PySem.W.Frag} {H : Hp} {x : V} {t : Told} {p : Addr} {ys : List V} {o : HO} (h : TlV K H x t) (hp : H p = some (.lst ys)) : TlV K (upd H p o) x t := let ⟨a, rx, rn, h1, h2, h3, h4⟩ := h; ⟨a, rx, rn, h1, h2.put hp, h3.put hp, h4.put hp⟩
theorem Tls.same {K : PySem.W.Frag} {H H' : Hp} {xs : List V} {ts : List Told} (h : Tls K H xs ts) (e : Same H H') : Tls K H' xs ts := Paired.mapP h fun _ _ z => z.same e
theorem Tls.put {K : PySem.W.Frag} {H : Hp} {xs : List V} {ts : List Told} {p : Addr} {ys : List V} {o : HO} (h : Tls K H xs ts) (hp : H p = some (.lst ys)) : Tls K (upd H p o) xs ts := Paired.mapP h fun _ _ z => z.put hp
end L2

/-! own layer, part 13: xs[::-1] -/
namespace L2
open PySem PySem.Spec PyProof.Rows
section
variable {X : Cx} {e : Expr} {te : TE}
end
/-! ### tuples as targets of a comprehension -/
end L2

/-! own layer, part 14: curves are one where they come to the same; a division is one -/
namespace L2
def addL : List Rat → List Rat → List Rat
  | [], m => m
  | a :: l, [] => a :: l
  | a :: l, b :: m => (a + b) :: addL l m
theorem ev_addL (x : Rat) : ∀ l m, Cv.ev (addL l m) x = Cv.ev l x + Cv.ev m x
  | [], m => by show _ = 0 + _; grind [addL]
  | a :: l, [] => by show _ = _ + 0; rw [addL]; grind
  | a :: l, b :: m => by
    have ih := ev_addL x l m
    show (a + b) + x * Cv.ev (addL l m) x = (a + x * Cv.ev l x) + (b + x * Cv.ev m x)
    rw [ih]; grind
def mulL : List Rat → List Rat → List Rat
  | [], _ => []
  | a :: l, m => addL (m.map (· * a)) (0 :: mulL l m)
theorem ev_mulL (x : Rat) (m : List Rat) : ∀ l, Cv.ev (mulL l m) x = Cv.ev l x * Cv.ev m x
  | [] => by show (0 : Rat) = 0 * _; grind
  | a :: l => by
    have ih := ev_mulL x m l
    show Cv.ev (addL (m.map (· * a)) (0 :: mulL l m)) x = (a + x * Cv.ev l x) * _
    rw [ev_addL, Cv.ev_scale]
    show _ + (0 + x * Cv.ev (mulL l m) x) = _
    rw [ih]; grind
open PySem PySem.Spec PyProof.Rows
/-- a comprehension over a tuple -/
theorem lc_tup {K : PySem.W.Frag} {a : Addr} {js : List Nat} {xs : List V} {te : TE} {σ : St} {H : Hp} {Fin : List V → Hp → Prop} (Pv : Nat → List V → Hp → Prop) (h0 : Pv 0 [] H)
    (hl : ∀ i zs H, i ≤ xs.length → Pv i zs H → SqT K H a xs ∧ zs.length = i) (hz : xs.length ≤ sizeLine)
    (hs : ∀ i x zs H, xs[i]? = some x → Pv i zs H → te ((cS 1 js σ).set 0 (some x)) H fun y H4 => Pv (i + 1) (zs ++ [y]) H4) (fin : ∀ zs H', Pv xs.length zs H' → Fin zs H') :
    ∃ (n' : Nat) (W : Nat → List V → Hp → Prop), W 0 [] H ∧ LcW (Itt K a) n' 1 js σ (gName 0) tYes te Fin W := by
  refine ⟨xs.length, Pv, h0, ⟨?_, ?_, ?_⟩⟩
  · intro i zs H' hi p
    obtain ⟨h1, h2⟩ := hl i zs H' (Nat.le_of_lt hi) p
    exact ⟨⟨xs, xs[i], h1, by simp [hi]⟩, by lia⟩
  · rintro i zs H' x H1 hi p ⟨rfl, y⟩
    exact hs i x zs _ (y xs (hl i zs _ (Nat.le_of_lt hi) p).1) p
  · intro zs H' p
    obtain ⟨h1, h2⟩ := hl _ zs H' (Nat.le_refl _) p
    exact ⟨⟨xs, h1, Nat.le_refl _⟩, by lia, fin zs H' p⟩
end L2

/-! own layer, part 15: heights between two places -/
namespace L2
/-! how many ways there are to take k of n -/
def ch : Nat → Nat → Nat
  | _, 0 => 1
  | 0, _ + 1 => 0
  | n + 1, k + 1 => ch n k + ch n (k + 1)
/-! neighbours added, neighbours meant -/
/-! lists -/
/-! a curve put together with a line, number by number -/
def goL (a b : Rat) : Rat → List Rat → List Rat
  | p, [] => [a * p]
  | p, c :: r => (a * p + b * c) :: goL a b c r
def compL (a b : Rat) : List Rat → List Rat
  | [] => []
  | q :: r => match compL a b r with
    | [] => [q]
    | c :: s => (q + b * c) :: goL a b c s
end L2

/-! own layer, part 16: differences of a curve's heights, and their sums -/
namespace L2
def sd : List Rat → List Rat
  | [] => []
  | [_] => []
  | _ :: p :: r => addL (0 :: sd (p :: r)) (compL 1 1 (p :: r))
theorem cast_next (n : Nat) : ((n + 1 : Nat) : Rat) = ((n : Nat) : Rat) + 1 := by rw [Rat.natCast_add]; rfl
/-- knots j, j + 1, .. with steps c j, c (j + 1), .. -/
def nw (c : Nat → Rat) (x : Rat) : Nat → Nat → Rat
  | _, 0 => 0
  | j, n + 1 => c j + (x - ((j : Nat) : Rat)) * nw c x (j + 1) n
/-! whole heights -/
end L2

/-! own layer, part 17: the least and the greatest of a list of ints, and where one stands -/
namespace L2
open PySem PySem.Spec PyProof.Rows PySem.SeqAt
end L2

/-! own layer, part 18: slopes of curves; curves that are nought at told places -/
namespace L2
/-- the curve of the slopes -/
def dL : List Rat → List Rat
  | [] => []
  | _ :: r => addL r (0 :: dL r)
theorem ev_dL (q : Rat) (r : List Rat) (x : Rat) : Cv.ev (dL (q :: r)) x = Cv.ev r x + x * Cv.ev (dL r) x := by
  show Cv.ev (addL r (0 :: dL r)) x = _
  rw [ev_addL]
  show _ + (0 + x * Cv.ev (dL r) x) = _
  grind
def wL (l : List Rat) (c : Nat) : List Rat := (List.range l.length).map fun j => l.getD j 0 * ((j + c : Nat) : Rat)
theorem wL_cons (a : Rat) (r : List Rat) (c : Nat) : wL (a :: r) c = a * ((c : Nat) : Rat) :: wL r (c + 1) := by
  unfold wL
  show (List.range (r.length + 1)).map _ = _
  rw [List.range_succ_eq_map, List.map_cons, List.map_map]
  refine congr (congrArg List.cons ?_) ?_
  · show a * ((0 + c : Nat) : Rat) = _
    rw [Nat.zero_add]
  · refine List.map_congr_left fun j _ => ?_
    show r.getD j 0 * ((j + 1 + c : Nat) : Rat) = r.getD j 0 * ((j + (c + 1) : Nat) : Rat)
    rw [show j + 1 + c = j + (c + 1) by lia]
theorem ev_wL (x : Rat) : ∀ (l : List Rat) (c : Nat), Cv.ev (wL l c) x = ((c : Nat) : Rat) * Cv.ev l x + x * Cv.ev (dL l) x
  | [], c => by show (0 : Rat) = _ * 0 + x * 0; grind
  | a :: r, c => by
    rw [wL_cons, ev_dL]
    show a * ((c : Nat) : Rat) + x * Cv.ev (wL r (c + 1)) x = ((c : Nat) : Rat) * (a + x * Cv.ev r x) + _
    rw [ev_wL x r (c + 1), cast_next]
    grind
theorem slope_ev (x : Rat) : ∀ l : List Rat, Cv.ev ((List.range (l.length - 1)).map fun j => l.getD (j + 1) 0 * ((j + 1 : Nat) : Rat)) x = Cv.ev (dL l) x
  | [] => rfl
  | q :: r => by
    rw [ev_dL]
    have h := ev_wL x r 1
    have e : ((1 : Nat) : Rat) = 1 := rfl
    rw [e, Rat.one_mul] at h
    rw [← h]
    rfl
/-- the curve about a place -/
def ty (x : Rat) : List Rat → List Rat
  | [] => []
  | q :: r => addL (q :: ty x r) ((ty x r).map (· * x))
theorem ev_ty (x h : Rat) : ∀ l, Cv.ev (ty x l) h = Cv.ev l (x + h)
  | [] => rfl
  | q :: r => by
    have ih := ev_ty x h r
    show Cv.ev (addL (q :: ty x r) ((ty x r).map (· * x))) h = q + (x + h) * Cv.ev r (x + h)
    rw [ev_addL, Cv.ev_scale]
    show (q + h * Cv.ev (ty x r) h) + _ = _
    rw [ih]; grind
theorem getD_addL : ∀ (l m : List Rat) (k : Nat), (addL l m).getD k 0 = l.getD k 0 + m.getD k 0
  | [], m, k => by show m.getD k 0 = 0 + m.getD k 0; grind
  | a :: l, [], k => by show (a :: l).getD k 0 = (a :: l).getD k 0 + 0; grind
  | a :: l, b :: m, 0 => rfl
  | a :: l, b :: m, k + 1 => getD_addL l m k
theorem getD_scale (y : Rat) (l : List Rat) (k : Nat) : (l.map (· * y)).getD k 0 = l.getD k 0 * y := by
  rw [List.getD_eq_getElem?_getD, List.getD_eq_getElem?_getD, List.getElem?_map]
  cases l[k]? with
  | none => show (0 : Rat) = 0 * y; grind
  | some t => rfl
theorem ty_zero (x : Rat) : ∀ l, (ty x l).getD 0 0 = Cv.ev l x
  | [] => rfl
  | q :: r => by
    have ih := ty_zero x r
    show (addL (q :: ty x r) ((ty x r).map (· * x))).getD 0 0 = q + x * Cv.ev r x
    rw [getD_addL, getD_scale, ih]
    show q + _ = _
    grind
theorem ty_one (x : Rat) : ∀ l, (ty x l).getD 1 0 = Cv.ev (dL l) x
  | [] => rfl
  | q :: r => by
    have ih := ty_one x r
    have i0 := ty_zero x r
    rw [ev_dL]
    show (addL (q :: ty x r) ((ty x r).map (· * x))).getD 1 0 = _
    rw [getD_addL, getD_scale, ih]
    show (ty x r).getD 0 0 + _ = _
    rw [i0]; grind
/-- curves that come to the same at all whole places have the same numbers -/
theorem coef_one {l m : List Rat} (h : ∀ k : Nat, Cv.ev l ((k : Nat) : Rat) = Cv.ev m ((k : Nat) : Rat)) (k : Nat) : l.getD k 0 = m.getD k 0 := by
  have z := Cv.ident _ (addL l (m.map (· * (-1)))) (Nat.le_refl _) 0 fun k _ => by
    rw [ev_addL, Cv.ev_scale, h k]; grind
  have e : (addL l (m.map (· * (-1)))).getD k 0 = 0 := by
    rw [List.getD_eq_getElem?_getD]
    cases q : (addL l (m.map (· * (-1))))[k]? with
    | none => rfl
    | some t => exact z t (List.mem_of_getElem? q)
  rw [getD_addL, getD_scale] at e
  grind
theorem slope_one {l m : List Rat} (h : ∀ x, Cv.ev l x = Cv.ev m x) (x : Rat) : Cv.ev (dL l) x = Cv.ev (dL m) x := by
  rw [← ty_one, ← ty_one]
  exact coef_one (fun k => by rw [ev_ty, ev_ty, h]) 1
theorem getD_mul0 (a b : List Rat) : (mulL a b).getD 0 0 = a.getD 0 0 * b.getD 0 0 := by
  cases a with
  | nil => show (0 : Rat) = 0 * _; grind
  | cons a l =>
    show (addL (b.map (· * a)) (0 :: mulL l b)).getD 0 0 = a * _
    rw [getD_addL, getD_scale]
    show _ + 0 = _
    grind
theorem getD_mul1 (a b : List Rat) : (mulL a b).getD 1 0 = a.getD 0 0 * b.getD 1 0 + a.getD 1 0 * b.getD 0 0 := by
  cases a with
  | nil => show (0 : Rat) = 0 * _ + 0 * _; grind
  | cons a l =>
    show (addL (b.map (· * a)) (0 :: mulL l b)).getD 1 0 = a * _ + l.getD 0 0 * _
    rw [getD_addL, getD_scale]
    show _ + (mulL l b).getD 0 0 = _
    rw [getD_mul0]; grind
/-- the slope of a product -/
theorem slope_mul {l a b : List Rat} (h : ∀ x, Cv.ev l x = Cv.ev a x * Cv.ev b x) (x : Rat) : Cv.ev (dL l) x = Cv.ev a x * Cv.ev (dL b) x + Cv.ev (dL a) x * Cv.ev b x := by
  rw [← ty_one, ← ty_one, ← ty_one, ← ty_zero, ← ty_zero, ← getD_mul1]
  exact coef_one (fun k => by rw [ev_ty, ev_mulL, ev_ty, ev_ty, h]) 1
theorem slope_add {l a b : List Rat} (h : ∀ x, Cv.ev l x = Cv.ev a x + Cv.ev b x) (x : Rat) : Cv.ev (dL l) x = Cv.ev (dL a) x + Cv.ev (dL b) x := by
  rw [← ty_one, ← ty_one, ← ty_one, ← getD_addL]
  exact coef_one (fun k => by rw [ev_ty, ev_addL, ev_ty, ev_ty, h]) 1
theorem slope_const (c x : Rat) : Cv.ev (dL [c]) x = 0 := by
  rw [ev_dL]; show (0 : Rat) + x * 0 = 0; grind
theorem slope_line (c d x : Rat) : Cv.ev (dL [c, d]) x = d := by
  rw [ev_dL, ev_dL]; show (d + x * 0) + x * (0 + x * 0) = d; grind
end L2

/-! own layer, part 19: products of lines, and shares -/
namespace L2
/-- the product of the lines through places -/
def prL : List Rat → List Rat
  | [] => [1]
  | o :: os => mulL [-o, 1] (prL os)
/-- its height -/
def prV (x : Rat) : List Rat → Rat
  | [] => 1
  | o :: os => (x - o) * prV x os
theorem prL_ev (x : Rat) : ∀ os, Cv.ev (prL os) x = prV x os
  | [] => by show (1 : Rat) + x * 0 = 1; grind
  | o :: os => by
    show Cv.ev (mulL [-o, 1] (prL os)) x = _
    rw [ev_mulL, prL_ev x os]
    show (-o + x * (1 + x * 0)) * prV x os = (x - o) * prV x os
    grind
theorem prV_in {x : Rat} : ∀ {os : List Rat}, x ∈ os → prV x os = 0
  | o :: os, h => by
    show (x - o) * prV x os = 0
    rcases List.mem_cons.mp h with e | e
    · rw [e]; grind
    · rw [prV_in e]; grind
theorem prL_slope (x o : Rat) (os : List Rat) : Cv.ev (dL (prL (o :: os))) x = (x - o) * Cv.ev (dL (prL os)) x + prV x os := by
  rw [slope_mul (l := prL (o :: os)) (a := [-o, 1]) (b := prL os) (fun y => ev_mulL y (prL os) [-o, 1]), slope_line, prL_ev]
  show (-o + x * (1 + x * 0)) * _ + 1 * _ = _
  grind
theorem prL_slope_two {x : Rat} : ∀ {os : List Rat}, 2 ≤ os.count x → Cv.ev (dL (prL os)) x = 0
  | [], h => by simp at h
  | o :: os, h => by
    rw [prL_slope]
    by_cases e : o = x
    · subst e
      rw [List.count_cons_self] at h
      have hin : o ∈ os := List.count_pos_iff.mp (by lia)
      rw [prV_in hin]; grind
    · rw [List.count_cons_of_ne e] at h
      have hin : x ∈ os := List.count_pos_iff.mp (by lia)
      rw [prL_slope_two h, prV_in hin]; grind
end L2

/-! own layer, part 20: a comprehension with a test -/
namespace L2
open PySem PySem.Spec PyProof.Rows
end L2

/-! own layer, part 21: a tuple so many times -/
namespace PySem
open Sem (wp)
open Builtin
set_option maxRecDepth 100000
end PySem
namespace L2
open PySem PySem.Spec PyProof.Rows
variable {X : Cx}
end L2

/-! own layer, part 22: lists and tuples of tuples of numbers are compared -/
namespace L2
open PySem PySem.Spec PyProof.Rows
def tpD (rs : List Rat) : PyData := .tuple (rs.map nD)
theorem PtV.rds {K : PySem.W.Frag} {H : Hp} {x : V} {ps : List Rat} (h : PtV K H x ps) : Rds K H x (tpD ps) := by
  obtain ⟨a, rfl, xs, s, n⟩ := h
  exact n.rdsT s
theorem tpDs_eqv : ∀ ps qs : List (List Rat), PyData.eqvAll (ps.map tpD) (qs.map tpD) = decide (ps = qs)
  | [], [] => rfl
  | [], _ :: _ => rfl
  | _ :: _, [] => rfl
  | p :: ps, q :: qs => by
    show (PyData.eqv (tpD p) (tpD q) && PyData.eqvAll (ps.map tpD) (qs.map tpD)) = _
    have e : PyData.eqv (tpD p) (tpD q) = decide (p = q) := nDs_eqv p q
    rw [e, tpDs_eqv ps qs, Bool.eq_iff_iff]
    simp
theorem tpDs_lay : ∀ qs : List (List Rat), PyData.canLayAll0 (qs.map tpD) = true
  | [] => rfl
  | q :: r => by
    show (PyData.canLayAll0 (q.map nD) && PyData.canLayAll0 (r.map tpD)) = true
    rw [nDs_lay q, tpDs_lay r]; rfl
theorem tpDs_depth : ∀ qs : List (List Rat), PyData.depthAll (qs.map tpD) ≤ 2
  | [] => Nat.zero_le _
  | q :: r => by
    have ih := tpDs_depth r
    have iq := nDs_depth q
    show max (PyData.depthAll (q.map nD) + 1) (PyData.depthAll (r.map tpD)) ≤ 2
    exact Nat.max_le.mpr ⟨by lia, ih⟩
theorem tpDs_shT (qs : List (List Rat)) : SeqAt.shaped (.tuple (qs.map tpD)) = true := by
  show (PyData.canLayAll0 (qs.map tpD) && decide (PyData.depthAll (qs.map tpD) + 1 ≤ 64)) = true
  rw [tpDs_lay, Bool.true_and]
  exact decide_eq_true (by have := tpDs_depth qs; lia)
theorem Pts.rds {K : PySem.W.Frag} {H : Hp} {xs : List V} {rss : List (List Rat)} (h : Pts K H xs rss) : ∀ (i : Nat) x d, xs[i]? = some x → (rss.map tpD)[i]? = some d → Rds K H x d := fun i x d e1 e2 => by
  obtain ⟨q, hq, hn⟩ := Paired.get h e1
  rw [List.getElem?_map, hq] at e2
  cases e2
  exact hn.rds
/-- two tuples of tuples of numbers -/
theorem eqTT {K : PySem.W.Frag} {H : Hp} {a b : Addr} {xs ys : List V} {ps qs : List (List Rat)} {Q : VK} {neg : Bool} (s1 : SqT K H a xs) (n1 : Pts K H xs ps) (s2 : SqT K H b ys) (n2 : Pts K H ys qs) (h : Q (.bl (if neg then !decide (ps = qs) else decide (ps = qs))) H) : rEqD K neg (.ref a) (.ref b) H Q := by
  refine eqD_of ⟨_, _, .tup s1 (by rw [n1.length, List.length_map]) n1.rds, .tup s2 (by rw [n2.length, List.length_map]) n2.rds, tpDs_shT _, tpDs_shT _, ?_⟩
  have e : PyData.eqv (.tuple (ps.map tpD)) (.tuple (qs.map tpD)) = decide (ps = qs) := tpDs_eqv ps qs
  rw [e]; exact h
end L2

/-! own layer, part 23: numbers that are told of by their own object; dicts with such keys -/
namespace L2
open PySem PySem.Spec PyProof.Rows
theorem Room.units1 {k : Nat} {A : Around} (r : Room k A) : A.units + 1 < cLine := by have := r.un; lia
/-- a number as a key -/
def kQ (q : Rat) : List Key := [.inl q.num, .inl (q.den : Int)]
theorem kQ_inj {p q : Rat} (h : kQ p = kQ q) : p = q := by
  unfold kQ at h
  injection h with h1 h2
  injection h2 with h2 _
  injection h1 with h1
  injection h2 with h2
  exact Rat.ext h1 (Int.ofNat.inj h2)
def NumT (H : Hp) (x : V) (q : Rat) : Prop := ∃ r, x = .ref r ∧ H r = some (nT q)
abbrev NumsT (H : Hp) : List V → List Rat → Prop := Paired (NumT H)
theorem NumT.num {K : PySem.W.Frag} {H : Hp} {x : V} {q : Rat} (h : NumT H x q) : NumV K H x q := let ⟨r, e, h⟩ := h; ⟨r, e, SqT.of h⟩
theorem NumT.same {H H' : Hp} {x : V} {q : Rat} (h : NumT H x q) (e : Same H H') : NumT H' x q := let ⟨r, z, h⟩ := h; ⟨r, z, e _ _ h⟩
theorem NumT.mv {H H' : Hp} {x : V} {q : Rat} {p : Addr} (h : NumT H x q) (pn : Pen H p) (m : Mv p H H') : NumT H' x q := let ⟨r, z, h⟩ := h; ⟨r, z, m r _ (pn.ne h (nT_ne q)) h⟩
theorem NumT.put {H : Hp} {x : V} {q : Rat} {p : Addr} {ys : List V} {o : HO} (h : NumT H x q) (hp : H p = some (.lst ys)) : NumT (upd H p o) x q := let ⟨r, z, h⟩ := h; ⟨r, z, by rw [upd_ne (ne_of h hp (fun z => by cases z))]; exact h⟩
theorem NumsT.nums {K : PySem.W.Frag} {H : Hp} {xs : List V} {qs : List Rat} (h : NumsT H xs qs) : Nums K H xs qs := Paired.mapP h fun _ _ z => z.num
theorem NumsT.same {H H' : Hp} {xs : List V} {qs : List Rat} (h : NumsT H xs qs) (e : Same H H') : NumsT H' xs qs := Paired.mapP h fun _ _ z => z.same e
theorem NumsT.mv {H H' : Hp} {xs : List V} {qs : List Rat} {p : Addr} (h : NumsT H xs qs) (pn : Pen H p) (m : Mv p H H') : NumsT H' xs qs := Paired.mapP h fun _ _ z => z.mv pn m
theorem NumsT.put {H : Hp} {xs : List V} {qs : List Rat} {p : Addr} {ys : List V} {o : HO} (h : NumsT H xs qs) (hp : H p = some (.lst ys)) : NumsT (upd H p o) xs qs := Paired.mapP h fun _ _ z => z.put hp
/-- a point whose place is told of by its own object -/
def PtT (K : PySem.W.Frag) (H : Hp) (x : V) (ps : List Rat) : Prop := ∃ a us p, x = .ref a ∧ SqT K H a us ∧ Nums K H us ps ∧ us[0]? = some (.ref p) ∧ H p = some (nT (ps.getD 0 0))
abbrev PtsT (K : PySem.W.Frag) (H : Hp) : List V → List (List Rat) → Prop := Paired (PtT K H)
section
variable {K : PySem.W.Frag} {H H' : Hp} {x : V} {ps : List Rat} {xs : List V} {pss : List (List Rat)} {p : Addr} {ys : List V} {o : HO}
theorem PtT.pt (h : PtT K H x ps) : PtV K H x ps := let ⟨a, us, _, e, h1, h2, _⟩ := h; ⟨a, e, us, h1, h2⟩
theorem PtT.same (h : PtT K H x ps) (e : Same H H') : PtT K H' x ps := let ⟨a, us, b, z, h1, h2, h3, h4⟩ := h; ⟨a, us, b, z, h1.same e, h2.same e, h3, e _ _ h4⟩
theorem PtT.mv (h : PtT K H x ps) (pn : Pen H p) (m : Mv p H H') : PtT K H' x ps := let ⟨a, us, b, z, h1, h2, h3, h4⟩ := h; ⟨a, us, b, z, h1.mv pn m, h2.mv pn m, h3, m b _ (pn.ne h4 (nT_ne _)) h4⟩
theorem PtT.put (h : PtT K H x ps) (hp : H p = some (.lst ys)) : PtT K (upd H p o) x ps := let ⟨a, us, b, z, h1, h2, h3, h4⟩ := h; ⟨a, us, b, z, h1.put hp, h2.put hp, h3, by rw [upd_ne (ne_of h4 hp (fun z => by cases z))]; exact h4⟩
theorem PtsT.pts (h : PtsT K H xs pss) : Pts K H xs pss := Paired.mapP h fun _ _ z => z.pt
theorem PtsT.same (h : PtsT K H xs pss) (e : Same H H') : PtsT K H' xs pss := Paired.mapP h fun _ _ z => z.same e
theorem PtsT.mv (h : PtsT K H xs pss) (pn : Pen H p) (m : Mv p H H') : PtsT K H' xs pss := Paired.mapP h fun _ _ z => z.mv pn m
theorem PtsT.put (h : PtsT K H xs pss) (hp : H p = some (.lst ys)) : PtsT K (upd H p o) xs pss := Paired.mapP h fun _ _ z => z.put hp
end
/-- what is told, its place told of by its own object -/
def TlT (K : PySem.W.Frag) (H : Hp) (v : V) (t : Told) : Prop := ∃ a p rn, v = .ref a ∧ SqT K H a [.ref p, .int t.k, rn] ∧ H p = some (nT t.x) ∧ NumV K H rn t.n
abbrev TlsT (K : PySem.W.Frag) (H : Hp) : List V → List Told → Prop := Paired (TlT K H)
section
variable {K : PySem.W.Frag} {H H' : Hp} {x : V} {t : Told} {xs : List V} {ts : List Told} {p : Addr} {ys : List V} {o : HO}
theorem TlT.same (h : TlT K H x t) (e : Same H H') : TlT K H' x t := let ⟨a, b, rn, z, h1, h2, h3⟩ := h; ⟨a, b, rn, z, h1.same e, e _ _ h2, h3.same e⟩
theorem TlT.put (h : TlT K H x t) (hp : H p = some (.lst ys)) : TlT K (upd H p o) x t := let ⟨a, b, rn, z, h1, h2, h3⟩ := h; ⟨a, b, rn, z, h1.put hp, by rw [upd_ne (ne_of h2 hp (fun z => by cases z))]; exact h2, h3.put hp⟩
theorem TlsT.same (h : TlsT K H xs ts) (e : Same H H') : TlsT K H' xs ts := Paired.mapP h fun _ _ z => z.same e
theorem TlsT.put (h : TlsT K H xs ts) (hp : H p = some (.lst ys)) : TlsT K (upd H p o) xs ts := Paired.mapP h fun _ _ z => z.put hp
end
end L2

/-! own layer, part 24: steps from a table, and the curve that they make -/
namespace L2
/-- steps s j, s j + 1, .. over the knots x i, x i + 1, ..: n of them -/
def nwT (T : Nat → Nat → Rat) (x : Nat → Rat) (j : Nat) : Nat → List Rat
  | 0 => []
  | n + 1 => addL (nwT T x j n) ((prL ((List.range n).map fun i => x (j + i))).map (· * T n j))
def prF (x : Nat → Rat) (j n : Nat) (X : Rat) : Rat := prV X ((List.range n).map fun i => x (j + i))
theorem prV_app (X : Rat) : ∀ (l m : List Rat), prV X (l ++ m) = prV X l * prV X m
  | [], m => by show prV X m = 1 * prV X m; grind
  | a :: l, m => by
    show (X - a) * prV X (l ++ m) = (X - a) * prV X l * prV X m
    rw [prV_app X l m]; grind
theorem prF_last (x : Nat → Rat) (j n : Nat) (X : Rat) : prF x j (n + 1) X = prF x j n X * (X - x (j + n)) := by
  unfold prF
  rw [List.range_succ, List.map_append, prV_app]
  show _ * ((X - x (j + n)) * 1) = _
  grind
theorem prF_first (x : Nat → Rat) (j : Nat) (X : Rat) : ∀ n, prF x j (n + 1) X = (X - x j) * prF x (j + 1) n X
  | 0 => by show (X - x (j + 0)) * 1 = (X - x j) * 1; rw [Nat.add_zero]
  | n + 1 => by
    rw [prF_last, prF_first x j X n, prF_last, show j + (n + 1) = j + 1 + n by lia]; grind
theorem nwT_ev (T : Nat → Nat → Rat) (x : Nat → Rat) (j n : Nat) (X : Rat) : Cv.ev (nwT T x j (n + 1)) X = Cv.ev (nwT T x j n) X + T n j * prF x j n X := by
  show Cv.ev (addL _ _) X = _
  rw [ev_addL, Cv.ev_scale, prL_ev]
  show _ + prV X _ * _ = _ + _ * prV X _
  grind
/-- the table's rule -/
def TabOk (T : Nat → Nat → Rat) (x : Nat → Rat) (N : Nat) : Prop := ∀ k j, j + k + 1 < N → T (k + 1) j * (x (j + k + 1) - x j) = T k (j + 1) - T k j
/-- the same steps from behind -/
theorem nwT_back {T : Nat → Nat → Rat} {x : Nat → Rat} {N : Nat} (h : TabOk T x N) (X : Rat) : ∀ n j, j + n < N → Cv.ev (nwT T x j (n + 1)) X = Cv.ev (nwT T x (j + 1) n) X + T n j * prF x (j + 1) n X
  | 0, j, _ => by
    rw [nwT_ev]
    show Cv.ev [] X + T 0 j * 1 = Cv.ev [] X + T 0 j * 1
    rfl
  | n + 1, j, hj => by
    have ih := nwT_back h X n j (by lia)
    have hk := h n j (by lia)
    rw [nwT_ev, ih, nwT_ev T x (j + 1) n, prF_first, prF_last x (j + 1) n, show j + 1 + n = j + n + 1 by lia]
    grind
/-- the curve's height at a knot -/
theorem nwT_at {T : Nat → Nat → Rat} {x : Nat → Rat} {N : Nat} (h : TabOk T x N) : ∀ n j i, j + n ≤ N → i < n → Cv.ev (nwT T x j n) (x (j + i)) = T 0 (j + i)
  | n + 1, j, i, hj, hi => by
    have IH := nwT_at h n
    by_cases hin : i < n
    · rw [nwT_ev, IH j i (by lia) hin]
      have : prF x j n (x (j + i)) = 0 := prV_in (List.mem_map.mpr ⟨i, List.mem_range.mpr hin, rfl⟩)
      rw [this]; grind
    · have e : i = n := by lia
      subst e
      match i, hj, IH with
      | 0, _, _ =>
        rw [nwT_ev]
        show (0 : Rat) + T 0 j * 1 = T 0 j
        grind
      | i + 1, hj, IH =>
        rw [nwT_back h _ (i + 1) j (by lia)]
        have ih := IH (j + 1) i (by lia) (by lia)
        rw [show j + 1 + i = j + (i + 1) by lia] at ih
        rw [ih]
        have : prF x (j + 1) (i + 1) (x (j + (i + 1))) = 0 := prV_in (List.mem_map.mpr ⟨i, List.mem_range.mpr (by lia), by show x (j + 1 + i) = _; rw [show j + 1 + i = j + (i + 1) by lia]⟩)
        rw [this]; grind
theorem count_two {f : Nat → Rat} {n i : Nat} {y : Rat} (h : i + 1 < n) (h0 : f i = y) (h1 : f (i + 1) = y) : 2 ≤ ((List.range n).map f).count y := by
  have hs : [f i, f (i + 1)].Sublist ((List.range n).map f) := by
    have e : (List.range n).map f = ((List.range n).map f).take i ++ (f i :: f (i + 1) :: ((List.range n).map f).drop (i + 2)) := by
      have h0 : ((List.range n).map f)[i]? = some (f i) := by rw [List.getElem?_map, List.getElem?_range (by lia)]; rfl
      have h1 : ((List.range n).map f)[i + 1]? = some (f (i + 1)) := by rw [List.getElem?_map, List.getElem?_range (by lia)]; rfl
      obtain ⟨l0, e0⟩ := List.getElem?_eq_some_iff.mp h0
      obtain ⟨l1, e1⟩ := List.getElem?_eq_some_iff.mp h1
      have a := (List.take_append_drop i ((List.range n).map f)).symm
      rw [List.drop_eq_getElem_cons l0, List.drop_eq_getElem_cons l1, e0, e1] at a
      exact a
    rw [e]
    exact (List.Sublist.cons₂ _ (List.Sublist.cons₂ _ (List.nil_sublist _))).trans (List.sublist_append_right _ _)
  have := hs.count_le y
  rw [h0, h1] at this
  simpa using this
theorem ev_slope_add {l a b : List Rat} {c : Rat} (h : ∀ X, Cv.ev l X = Cv.ev a X + c * Cv.ev b X) (X : Rat) : Cv.ev (dL l) X = Cv.ev (dL a) X + c * Cv.ev (dL b) X := by
  have h1 : ∀ X, Cv.ev l X = Cv.ev a X + Cv.ev (mulL [c] b) X := fun X => by
    rw [h X, ev_mulL]
    show _ = _ + (c + X * 0) * _
    grind
  rw [slope_add h1 X, slope_mul (l := mulL [c] b) (a := [c]) (b := b) (fun X => ev_mulL _ _ _) X, slope_const]
  show _ + ((c + X * 0) * _ + 0 * _) = _
  grind
/-- the curve's slope at two knots that are alike -/
theorem nwT_slope {T : Nat → Nat → Rat} {x : Nat → Rat} {N : Nat} (h : TabOk T x N) : ∀ n j i, j + n ≤ N → i + 1 < n → x (j + i + 1) = x (j + i) → Cv.ev (dL (nwT T x j n)) (x (j + i)) = T 1 (j + i)
  | n + 1, j, i, hj, hi, he => by
    have IH := nwT_slope h n
    have fwd : ∀ X, Cv.ev (nwT T x j (n + 1)) X = Cv.ev (nwT T x j n) X + T n j * Cv.ev (prL ((List.range n).map fun i => x (j + i))) X := fun X => by
      rw [nwT_ev, prL_ev]; rfl
    by_cases hin : i + 1 < n
    · rw [ev_slope_add fwd, IH j i (by lia) hin he, prL_slope_two (count_two hin rfl he)]
      grind
    · have e : n = i + 1 := by lia
      subst e
      match i, hj, he, fwd, IH with
      | 0, hj, he, fwd, _ =>
        have f2 : ∀ X, Cv.ev (nwT T x j 2) X = Cv.ev [T 0 j] X + T 1 j * Cv.ev [- x j, 1] X := fun X => by
          rw [nwT_ev, nwT_ev]
          show ((0 : Rat) + T 0 j * 1) + T 1 j * ((X - x (j + 0)) * 1) = (T 0 j + X * 0) + T 1 j * (- x j + X * (1 + X * 0))
          rw [Nat.add_zero]; grind
        rw [ev_slope_add f2, slope_const, slope_line]
        show (0 : Rat) + T 1 j * 1 = T 1 j
        grind
      | i + 1, hj, he, fwd, IH =>
        have bwd : ∀ X, Cv.ev (nwT T x j (i + 1 + 1 + 1)) X = Cv.ev (nwT T x (j + 1) (i + 1 + 1)) X + T (i + 1 + 1) j * Cv.ev (prL ((List.range (i + 1 + 1)).map fun k => x (j + 1 + k))) X := fun X => by
          rw [nwT_back h X (i + 1 + 1) j (by lia), prL_ev]; rfl
        rw [show j + (i + 1) + 1 = j + 1 + i + 1 by lia, show j + (i + 1) = j + 1 + i by lia] at he
        have ih := IH (j + 1) i (by lia) (by lia) he
        rw [show j + (i + 1) = j + 1 + i by lia, ev_slope_add bwd, ih, prL_slope_two (count_two (f := fun k => x (j + 1 + k)) (i := i) (by lia) rfl he)]
        grind
end L2

/-! own layer, part 25: the whole of a tuple, cut out -/
namespace HT
open PySem PyProof.Rows
open PySem.SeqAt
open PySem.AutoSeq1 (wpAny_loadPart')
open PySem.MeetsSeq PySem.MeetsSeq2 PySem.MeetsSeq3
theorem getItem_tuple_whole {prog : Program} {w : World} {A : Around} {E : Value → Shared → Prop} {s : Shared} {t sl : Addr} {items : Array Value} {vl vu : Value} {lo hi : Option Int} {Q : Value → Shared → Prop} (ht : IsTup s.heap t items) (hs : s.heap.IsSliceOf sl vl vu .none) (pl : IsPart vl lo) (pu : IsPart vu hi)
    (hw : sIx items.size 0 lo = 0 ∧ sIx items.size items.size hi = items.size) (h : Q (.ref t) s) : wpAny (model prog w) A (getItem (.ref t) (.ref sl)) Q E s := by
  obtain ⟨os, hos, hcs, hds⟩ := id hs
  have hTs : s.TypeIs (.ref sl) "slice" := ⟨os, hos, hcs⟩
  unfold getItem
  try with_reducible refine wpAny_holding ?_
  first | refine wpAny_bind (wpAny_pure ?_) | skip
  refine wpAny_bind (wpAny_sequenceKey ht.typeIs (by decide) ?_)
  refine wpAny_bind (wpAny_callSpecial?_slot (name := Str.ofString "__getitem__") ht.typeIs PyProof.Rows.slot_tuple_getitem
    (wpAny_call_entry PyProof.Rows.slot_tuple_getitem ht.typeIs entry_tuple_getitem ?_ (args_tuple_getitem _ _)))
  show wpAny _ _ (Builtin.Tuple.tupleItemsOf (.ref t) >>= _) _ _ s
  refine wpAny_bind (tupleItemsOf_ ht ?_)
  refine wpAny_bind (wpAny_typeOf hTs ?_)
  rw [if_pos (by decide)]
  refine wpAny_bind (sliceApplied_gen hs pl pu ?_)
  have hyes : (((sIx items.size 0 lo : Nat) : Int) == 0 && (1 : Int) == 1 && (sIx items.size items.size hi - sIx items.size 0 lo) == items.size) = true := by
    rw [hw.1, hw.2]; simp
  show wpAny _ _ (if (((sIx items.size 0 lo : Nat) : Int) == 0 && (1 : Int) == 1 && (sIx items.size items.size hi - sIx items.size 0 lo) == items.size) = true then _ else _) _ _ s
  rw [if_pos hyes]
  refine wpAny_bind ?_
  refine wpAny_bind (wpAny_typeOf ht.typeIs ?_)
  refine wpAny_pure ?_
  rw [if_pos (by decide)]
  first
    | exact wpAny_bind (wpAny_rule (wpAny_pure ⟨_, rfl, wpAny_pure h⟩))
    | exact wpAny_pure ⟨_, rfl, wpAny_pure h⟩
    | trace_state
end HT
namespace L2
open PySem PySem.Spec PyProof.Rows
section
variable {X : Cx} {K : PySem.W.Frag}
/-- t[lo:hi] that is all of t: t itself -/
inductive rSlTW (K : PySem.W.Frag) (x : V) (lo : Option Int) (hi : Option Int) (H : Hp) (Q : VK) : Prop
  | mk (a : _) (xs : _) (h1 : x = .ref a) (h2 : SqT K H a xs) (h3 : (HT.sIx xs.length 0 lo = 0 ∧ HT.sIx xs.length xs.length hi = xs.length)) (h4 : Q (.ref a) H) : rSlTW K x lo hi H Q
theorem sl_tupW : SlR X (rSlTW X.K) := by
  intro pins s σ H x v vl vu lo hi sl Q I rx hs pl pu h
  obtain ⟨a, xs, rfl, hx, hw, q⟩ := h
  cases rx
  obtain ⟨its, r, ht, hz⟩ := I.tuple hx
  have hlen : its.toArray.size = xs.length := by rw [List.size_toArray]; exact r.length.symm
  refine ⟨"tuple", _, PyProof.Rows.slot_tuple_getitem.lookup, ht.typeIs, ?_⟩
  exact HT.getItem_tuple_whole ht hs pl pu (by rw [hlen]; exact hw) ⟨.ref a, H, I, rfl, q⟩
/-- a tuple's part, or the whole of it -/
def rSlTA (K : PySem.W.Frag) : V → Option Int → Option Int → Hp → VK → Prop := fun x lo hi H Q => rSlT K x lo hi H Q ∨ rSlTW K x lo hi H Q
theorem slTA (K : PySem.W.Frag) (e : X.K = K := by rfl) : SlR X (rSlTA K) := by subst e; exact SlR.or sl_tup sl_tupW
end
theorem cut_to (xs : List V) (v : Nat) : cutV xs none (some (v : Int)) = xs.take v := by
  unfold cutV
  have e1 : HT.sIx xs.length 0 none = 0 := rfl
  have e2 : HT.sIx xs.length xs.length (some (v : Int)) = min v xs.length := HT.sIx_nat _ _ v
  rw [e1, e2, List.drop_zero, Nat.sub_zero]
  by_cases h : v ≤ xs.length
  · rw [Nat.min_eq_left h]
  · rw [Nat.min_eq_right (by lia), List.take_of_length_le (Nat.le_refl _), List.take_of_length_le (by lia)]
end L2

/-! own layer, part 26: the sum of a list of ints; tuple + tuple, the first one empty too -/
namespace L2
open PySem PySem.Spec PyProof.Rows PySem.SeqAt
section
variable {X : Cx}
theorem _root_.HT.cat_tup0 {prog : Program} {w : World} {A : Around} {E : Value → Shared → Prop} {s : Shared} {t b : Addr} {ws : List Value} {Q : Value → Shared → Prop} (ht : IsTup s.heap t ([] : List Value).toArray) (hb : IsTup s.heap b ws.toArray)
    (h1 : Q (.ref b) s) : wpAny (model prog w) A (binaryOp .Add (.ref t) (.ref b)) Q E s := by
  obtain ⟨⟨cls, dd, data, sl⟩, ho, hc, n, hd⟩ := id ht
  obtain ⟨⟨cls2, dd2, data2, sl2⟩, ho2, hc2, n2, hd2⟩ := id hb
  simp only at hc hd hc2 hd2
  subst hc hd hc2 hd2
  exact concat_meets ⟨_, ho, rfl⟩ ⟨_, ho2, rfl⟩ noFill_tuple_add seq_tuple_add PySem.F.slot_tuple_add PySem.F.entry_tuple_add (PySem.F.args_tuple_add_2 _ _)
      (tuple_addW0 t b ([] : List Value).toArray ws.toArray n n2 dd dd2 sl sl2 (by simp)) ⟨ho, ho2, h1⟩
/-- t + u, whatever they hold -/
def rCatTA (K : PySem.W.Frag) : R2 := fun x y H Q => rCatT K x y H Q ∨ ∃ a b ys, x = .ref a ∧ y = .ref b ∧ SqT K H a [] ∧ SqT K H b ys ∧ Q (.ref b) H
theorem op_catTA : OpR X (binaryOp .Add) (rCatTA X.K) := by
  intro pins s σ H x y v u Q I rx ry h
  rcases h with h | ⟨a, b, ys, rfl, rfl, ha, hb, q⟩
  · exact op_catT pins s σ H x y v u Q I rx ry h
  · cases rx
    cases ry
    obtain ⟨its, r1, p1, _⟩ := I.tuple ha
    obtain ⟨its2, r2, p2, _⟩ := I.tuple hb
    cases r1
    exact HT.cat_tup0 p1 p2 ⟨.ref b, H, I, rfl, q⟩
theorem catTA (K : PySem.W.Frag) (e : X.K = K := by rfl) : OpR X (binaryOp .Add) (rCatTA K) := by subst e; exact op_catTA
end
theorem cut_from (xs : List V) (v : Nat) : cutV xs (some (v : Int)) none = xs.drop v := by
  unfold cutV
  have e1 : HT.sIx xs.length 0 (some (v : Int)) = min v xs.length := HT.sIx_nat _ _ v
  have e2 : HT.sIx xs.length xs.length none = xs.length := rfl
  rw [e1, e2]
  by_cases h : v ≤ xs.length
  · rw [Nat.min_eq_left h, List.take_of_length_le (by rw [List.length_drop]; exact Nat.le_refl _)]
  · rw [Nat.min_eq_right (by lia), Nat.sub_self, List.take_zero, List.drop_eq_nil_of_le (by lia)]
end L2

/-! own layer, part 27: zip of two lists, in a loop with a tuple of targets -/
namespace L2
open PySem PySem.Spec PyProof.Rows
section
variable {X : Cx} {pins : List (Addr × Obj)} {σ : List (Option V)} {H : Hp} {s : Shared} {h' : Heap}
end
section
variable {X : Cx}
end
end L2

/-! own layer, part 28: the table of a set, where its places are found -/
namespace L2
open PySem PySem.Spec PyProof.Rows
namespace St
open SetTable
def it (mask : Nat) : Nat → Nat → Nat
  | 0, i => i
  | n + 1, i => it mask n ((i * 5 + 1) % (mask + 1))
theorem cover7 : ∀ i : Fin 8, ∀ e : Fin 8, ∃ m : Fin 8, it 7 m.val i.val = e.val := by decide +kernel
theorem cover31 : ∀ i : Fin 32, ∀ e : Fin 32, ∃ m : Fin 32, it 31 m.val i.val = e.val := by decide +kernel
theorem cover {mask : Nat} (hm : mask = 7 ∨ mask = 31) {i e : Nat} (hi : i < mask + 1) (he : e < mask + 1) : ∃ m, m ≤ mask ∧ it mask m i = e := by
  rcases hm with rfl | rfl
  · obtain ⟨m, h⟩ := cover7 ⟨i, hi⟩ ⟨e, he⟩
    exact ⟨m.val, by lia, h⟩
  · obtain ⟨m, h⟩ := cover31 ⟨i, hi⟩ ⟨e, he⟩
    exact ⟨m.val, by lia, h⟩
/-- the places at which a run begins -/
def bs (mask : Nat) (b : Nat) : Nat → Nat × Nat
  | 0 => (b % (mask + 1), b)
  | n + 1 => leap mask (bs mask b n).1 (bs mask b n).2
theorem bs_pert (mask b : Nat) : ∀ n, (bs mask b n).2 = b / 32 ^ n
  | 0 => by show b = b / 1; rw [Nat.div_one]
  | n + 1 => by
    show (bs mask b n).2 / 32 = _
    rw [bs_pert mask b n, Nat.div_div_eq_div_mul, Nat.pow_succ]
theorem bs_lt (mask b : Nat) : ∀ n, (bs mask b n).1 < mask + 1
  | 0 => Nat.mod_lt _ (Nat.succ_pos _)
  | _ + 1 => Nat.mod_lt _ (Nat.succ_pos _)
theorem bits_lt (h : Int) : bits h < 2 ^ 64 := by
  unfold bits
  have h1 : (0 : Int) ≤ h % 2 ^ 64 := Int.emod_nonneg _ (by decide)
  have h2 : h % 2 ^ 64 < 2 ^ 64 := Int.emod_lt_of_pos _ (by decide)
  lia
theorem bs_late {mask b n : Nat} (hb : b < 2 ^ 64) (hn : 13 ≤ n) : (bs mask b n).2 = 0 := by
  rw [bs_pert]
  refine Nat.div_eq_of_lt (Nat.lt_of_lt_of_le hb ?_)
  exact Nat.le_trans (by decide : 2 ^ 64 ≤ 32 ^ 13) (Nat.pow_le_pow_right (by decide) hn)
theorem bs_cyc {mask b : Nat} (hb : b < 2 ^ 64) : ∀ m n, 13 ≤ n → (bs mask b (n + m)).1 = it mask m (bs mask b n).1
  | 0, n, _ => rfl
  | m + 1, n, hn => by
    have ih := bs_cyc (mask := mask) hb m (n + 1) (by lia)
    rw [show n + (m + 1) = n + 1 + m by lia, ih]
    show it mask m (leap mask (bs mask b n).1 (bs mask b n).2).1 = it mask m (((bs mask b n).1 * 5 + 1) % (mask + 1))
    rw [bs_late hb hn]
    rfl
theorem bs_hits {mask b e : Nat} (hm : mask = 7 ∨ mask = 31) (hb : b < 2 ^ 64) (he : e < mask + 1) : ∃ n, n ≤ 13 + mask ∧ (bs mask b n).1 = e := by
  obtain ⟨m, h1, h2⟩ := cover hm (bs_lt mask b 13) he
  exact ⟨13 + m, by lia, by rw [bs_cyc hb m 13 (Nat.le_refl _)]; exact h2⟩
def base (mask i pert : Nat) : Probe := { j := i, more := runEnd mask i - i, i, perturb := pert, dummy := none }
def advs (t : SetTable) : Nat → Probe → Probe
  | 0, p => p
  | n + 1, p => advs t n (t.advance p)
theorem advs_add (t : SetTable) : ∀ m n p, advs t (m + n) p = advs t n (advs t m p)
  | 0, n, p => by rw [Nat.zero_add]; rfl
  | m + 1, n, p => by rw [show m + 1 + n = (m + n) + 1 by lia]; exact advs_add t m n _
theorem run_le (mask i : Nat) : runEnd mask i - i ≤ 9 := by unfold runEnd; split <;> lia
theorem advs_run (t : SetTable) : ∀ (r j i pert : Nat), advs t (r + 1) { j := j, more := r, i := i, perturb := pert, dummy := none } = base t.mask (leap t.mask i pert).1 (leap t.mask i pert).2
  | 0, j, i, pert => rfl
  | r + 1, j, i, pert => by
    have ih := advs_run t r (j + 1) i pert
    show advs t (r + 1) (t.advance { j := j, more := r + 1, i := i, perturb := pert, dummy := none }) = _
    rw [← ih]
    rfl
theorem reach (t : SetTable) (h : Int) : ∀ n, ∃ k, k ≤ 10 * n ∧ advs t k (t.probeStart h) = base t.mask (bs t.mask (bits h) n).1 (bs t.mask (bits h) n).2
  | 0 => ⟨0, Nat.le_refl _, rfl⟩
  | n + 1 => by
    obtain ⟨k, hk, e⟩ := reach t h n
    refine ⟨k + (runEnd t.mask (bs t.mask (bits h) n).1 - (bs t.mask (bits h) n).1 + 1), ?_, ?_⟩
    · have := run_le t.mask (bs t.mask (bits h) n).1
      lia
    · rw [advs_add, e]
      exact advs_run t _ _ _ _
theorem slot_empty {t : SetTable} (hd : t.dummies = #[]) {e : Nat} (he : ∀ i : Nat, t.place[i]? ≠ some e) : t.slot e = .empty := by
  unfold slot
  have h1 : (t.place[below t.place e]? == some e) = false := by
    rw [beq_eq_false_iff_ne]; exact he _
  have h2 : has t.dummies e = false := by
    rw [hd]; unfold has; rfl
  simp only [h1, h2]
  rfl
theorem slot_cases {t : SetTable} (hd : t.dummies = #[]) (j : Nat) : t.slot j = .empty ∨ ∃ i, t.slot j = .live i ∧ t.place[i]? = some j := by
  by_cases h : t.place[below t.place j]? = some j
  · refine .inr ⟨below t.place j, ?_, h⟩
    unfold slot
    have h1 : (t.place[below t.place j]? == some j) = true := by rw [h]; exact beq_self_eq_true _
    simp only [h1]
    rfl
  · refine .inl ?_
    unfold slot
    have h1 : (t.place[below t.place j]? == some j) = false := by rw [beq_eq_false_iff_ne]; exact h
    have h2 : has t.dummies j = false := by rw [hd]; unfold has; rfl
    simp only [h1, h2]
    rfl
def Hit (t : SetTable) (k : Nat) (p : Probe) : Prop := t.slot (advs t k p).j = .empty
theorem adv_dummy (t : SetTable) {p : Probe} (h : p.dummy = none) : (t.advance p).dummy = none := by
  unfold advance
  split
  · exact h
  · exact h
theorem go_hit {t : SetTable} (hd : t.dummies = #[]) {ha : Nat → Int} {h : Int} : ∀ (fuel k : Nat) (p : Probe), k < fuel → p.dummy = none → Hit t k p →
    (∃ j, probe.go t ha h fuel p = some (.empty j none)) ∨ ∃ j i next k', probe.go t ha h fuel p = some (.candidate j i next) ∧ t.slot j = .live i ∧ t.place[i]? = some j ∧ next.dummy = none ∧ Hit t k' next ∧ k' < k
  | fuel + 1, k, p, hk, hp, hh => by
    unfold probe.go
    rcases slot_cases hd p.j with z | ⟨i, z, zp⟩
    · rw [z]
      exact .inl ⟨p.j, by simp only [hp]⟩
    · rw [z]
      have hk0 : ∃ k', k = k' + 1 := by
        cases k with
        | zero => unfold Hit at hh; rw [show advs t 0 p = p from rfl, z] at hh; cases hh
        | succ k' => exact ⟨k', rfl⟩
      obtain ⟨k', rfl⟩ := hk0
      have hh' : Hit t k' (t.advance p) := hh
      by_cases hq : (ha i == h) = true
      · refine .inr ⟨p.j, i, t.advance p, k', ?_, z, zp, adv_dummy t hp, hh', by lia⟩
        simp only [hq]
        rfl
      · have hq' : (ha i == h) = false := by simpa using hq
        simp only [hq']
        rcases go_hit hd fuel k' (t.advance p) (by lia) (adv_dummy t hp) hh' with ⟨j, e⟩ | ⟨j, i', nx, k2, e, r1, r2, r3, r4, r5⟩
        · exact .inl ⟨j, e⟩
        · exact .inr ⟨j, i', nx, k2, e, r1, r2, r3, r4, by lia⟩
theorem nd_le : ∀ {l m : List Nat}, l.Nodup → (∀ x, x ∈ l → x ∈ m) → l.length ≤ m.length
  | [], m, _, _ => Nat.zero_le _
  | a :: l, m, hn, hs => by
    rw [List.nodup_cons] at hn
    have ha := hs a List.mem_cons_self
    have ih := nd_le (l := l) (m := m.erase a) hn.2 fun x hx => (List.mem_erase_of_ne (fun e : x = a => hn.1 (e ▸ hx))).mpr (hs x (List.mem_cons_of_mem _ hx))
    rw [List.length_erase_of_mem ha] at ih
    have := List.length_pos_of_mem ha
    rw [List.length_cons]; lia
/-- from the start some empty slot is met soon -/
theorem start_hit {t : SetTable} (hm : t.mask = 7 ∨ t.mask = 31) (hd : t.dummies = #[]) (hs : t.place.size ≤ t.mask) (h : Int) : ∃ k, k < 10 * turns t.mask ∧ Hit t k (t.probeStart h) := by
  have he : ∃ e, e < t.mask + 1 ∧ ∀ i : Nat, t.place[i]? ≠ some e := by
    refine Classical.byContradiction fun hn => ?_
    have hall : ∀ e, e < t.mask + 1 → e ∈ t.place.toList := fun e he => by
      refine Classical.byContradiction fun hne => hn ⟨e, he, fun i hi => hne ?_⟩
      exact List.mem_of_getElem? (by rw [Array.getElem?_toList]; exact hi)
    have hsub : (List.range (t.mask + 1)).Subset t.place.toList := fun e he => hall e (List.mem_range.mp he)
    have hlen := nd_le (List.nodup_range (n := t.mask + 1)) hsub
    rw [List.length_range, Array.length_toList] at hlen
    lia
  obtain ⟨e, he1, he2⟩ := he
  obtain ⟨n, hn, hb⟩ := bs_hits (b := bits h) hm (bits_lt h) he1
  obtain ⟨k, hk, hr⟩ := reach t h n
  refine ⟨k, ?_, ?_⟩
  · unfold turns; lia
  · unfold Hit
    rw [hr]
    show t.slot (bs t.mask (bits h) n).1 = _
    rw [hb]
    exact slot_empty hd he2
end St
end L2

/-! own layer, part 29: a number put into a set -/
namespace L2
open PySem PySem.Spec PyProof.Rows
namespace St
open SetTable
section
variable {prog : Program} {w : World} {K : Type} [DecidableEq K] (knd : KeyKind prog w K)
/-- a tuple of ints at a, as a key -/
def IsN (h : Heap) (ks : List K) (a : Addr) : Prop := ∃ o items n, h.get? a = some o ∧ o.cls = .type "tuple" ∧ o.data = .seq items n ∧ ItemsAre knd ks items.toList ∧ ∀ v ∈ items.toList, ∃ k t, v = .int k t
variable {knd}
theorem IsN.key {h : Heap} {ks : List K} {a : Addr} (x : IsN knd h ks a) : IsTupleKey knd h ks a := let ⟨o, i, n, h1, h2, h3, h4, _⟩ := x; ⟨o, i, n, h1, h2, h3, h4⟩
theorem IsN.keep {h h' : Heap} {ks : List K} {a : Addr} (x : IsN knd h ks a) (k : ∀ o, h.get? a = some o → h'.get? a = some o) : IsN knd h' ks a := let ⟨o, i, n, h1, h2⟩ := x; ⟨o, i, n, k o h1, h2⟩
variable {A : Around} {E : Value → Shared → Prop} {s : Shared}
theorem wpAny_seqItemsQ {M : Model} {a : Addr} {o : Obj} {items n} {Q : Option (Array Value) → Shared → Prop} (ho : s.heap.get? a = some o) (hd : o.data = .seq items n) (h : Q (some items) s) : wpAny M A (seqItems? (.ref a)) Q E s := by
  unfold seqItems?
  refine wpAny_bind (wpAny_load ho ?_)
  rw [hd]
  exact wpAny_pure h
theorem hashByValue_n {ks : List K} {a : Addr} {Q : Bool → Shared → Prop} (hk : IsN knd s.heap ks a) (h : Q true s) : wpAny (model prog w) A (hashByValue 8 (.ref a)) Q E s := by
  have hT := hk.key.typeIs
  obtain ⟨o, items, n, ho, _, hd, hi, hall⟩ := hk
  unfold hashByValue
  refine wpAny_bind (wpAny_specialOf hT F.slot_tuple_hash.lookup ?_)
  show wpAny _ _ (seqItems? (.ref a) >>= _) _ _ s
  refine wpAny_bind (wpAny_seqItemsQ ho hd ?_)
  refine wpAny_bind ?_
  show wpAny _ _ (forIn items _ _) _ _ s
  rw [← Array.forIn_toList]
  refine wpAny_forIn_list _ (fun rest r s' => r.1 = none ∧ s' = s ∧ ∀ v ∈ rest, ∃ k t, v = Value.int k t) _ ?_ ?_ _ _ ⟨rfl, rfl, hall⟩
  · rintro v rest r s' ⟨hr, rfl, hall⟩
    obtain ⟨k, t, rfl⟩ := hall v List.mem_cons_self
    refine wpAny_bind (m := hashByValue 7 (.int k t)) (wpAny_pure ?_)
    simp only [Bool.not_true, Bool.false_eq_true, if_false]
    exact wpAny_pure ⟨rfl, rfl, fun u hu' => hall u (List.mem_cons_of_mem _ hu')⟩
  · rintro ⟨r1, r2⟩ s' ⟨hr, rfl, _⟩
    simp only at hr
    subst hr
    exact wpAny_pure h
theorem ofClass_n {ks : List K} {a : Addr} {Q : Bool → Shared → Prop} (hk : IsN knd s.heap ks a) (h : Q false s) : wpAny (model prog w) A (ofAClassStatement 8 (.ref a)) Q E s := by
  have hT := hk.key.typeIs
  obtain ⟨o, items, n, ho, _, hd, hi, hall⟩ := hk
  unfold ofAClassStatement
  refine wpAny_bind (wpAny_typeOf hT ?_)
  refine wpAny_bind (m := pure true) (wpAny_pure ?_)
  simp only [Bool.not_true, Bool.false_eq_true, if_false]
  refine wpAny_bind (wpAny_seqItemsQ ho hd ?_)
  refine wpAny_bind ?_
  show wpAny _ _ (forIn items _ _) _ _ s
  rw [← Array.forIn_toList]
  refine wpAny_forIn_list _ (fun rest r s' => r.1 = none ∧ s' = s ∧ ∀ v ∈ rest, ∃ k t, v = Value.int k t) _ ?_ ?_ _ _ ⟨rfl, rfl, hall⟩
  · rintro v rest r s' ⟨hr, rfl, hall⟩
    obtain ⟨k, t, rfl⟩ := hall v List.mem_cons_self
    refine wpAny_bind (m := ofAClassStatement 7 (.int k t)) (wpAny_pure ?_)
    simp only [Bool.false_eq_true, if_false]
    exact wpAny_pure ⟨rfl, rfl, fun u hu' => hall u (List.mem_cons_of_mem _ hu')⟩
  · rintro ⟨r1, r2⟩ s' ⟨hr, rfl, _⟩
    simp only at hr
    subst hr
    exact wpAny_pure h
/-- elements of a set that are numbers, none of them the key ks -/
def Ns (knd : KeyKind prog w K) (h : Heap) (l : List Value) (ks : List K) : Prop := ∀ v ∈ l, ∃ b k', v = .ref b ∧ IsN knd h k' b ∧ k' ≠ ks
theorem unseen {ks : List K} {x : Addr} {Q : Bool → Shared → Prop} (hx : IsN knd s.heap ks x) {l : List Value} (hl : Ns knd s.heap l ks) (h : Q false s) : wpAny (model prog w) A (searchCouldBeSeen (.ref x) l) Q E s := by
  unfold searchCouldBeSeen
  refine wpAny_bind ?_
  refine wpAny_forIn_list _ (fun rest r s' => r.1 = none ∧ s' = s ∧ Ns knd s.heap rest ks) _ ?_ ?_ _ _ ⟨rfl, rfl, hl⟩
  · rintro v rest r s' ⟨hr, rfl, hall⟩
    obtain ⟨b, k', rfl, hb, hne⟩ := hall v List.mem_cons_self
    have hrest : Ns knd s'.heap rest ks := fun u hu' => hall u (List.mem_cons_of_mem _ hu')
    have hxb : (x == b) = false := by
      rw [beq_eq_false_iff_ne]
      intro e
      subst e
      exact hne (hb.key.inj hx.key)
    have hc : ((match (Value.ref x), (Value.ref b) with | .ref a, .ref b => a == b | _, _ => false) || (carriedByValue (.ref x) && carriedByValue (.ref b))) = false := by
      show ((x == b) || (false && false)) = false
      rw [hxb]; rfl
    show wpAny _ _ (if ((match (Value.ref x), (Value.ref b) with | .ref a, .ref b => a == b | _, _ => false) || (carriedByValue (.ref x) && carriedByValue (.ref b))) = true then _ else _) _ _ _
    rw [if_neg (by rw [hc]; exact Bool.false_ne_true)]
    refine wpAny_bind (wpAny_eqIsQuiet_tuple hx.key ?_)
    simp only [Bool.not_true, Bool.false_eq_true, if_false]
    refine wpAny_bind (wpAny_eqIsQuiet_tuple hb.key ?_)
    simp only [Bool.not_true, Bool.false_eq_true, if_false]
    refine wpAny_bind (ofClass_n hx ?_)
    simp only [Bool.false_eq_true, if_false]
    refine wpAny_bind (ofClass_n hb ?_)
    simp only [Bool.false_eq_true, if_false]
    exact wpAny_pure ⟨rfl, rfl, hrest⟩
  · rintro ⟨r1, r2⟩ s' ⟨hr, rfl, _⟩
    simp only at hr
    subst hr
    exact wpAny_pure h
theorem search_free {S : Addr} {o : Obj} {es : Array (Int × Value)} {ep : Nat} {t : SetTable} (ho : s.heap.get? S = some o) (hd : o.data = .set es ep t) (hf : t.fits es.size = true) (hm : t.mask = 7 ∨ t.mask = 31) (hdm : t.dummies = #[])
    {x : Addr} {ks : List K} (hx : IsN knd s.heap ks x) (hes : ∀ e ∈ es.toList, ∃ b k', e.2 = Value.ref b ∧ IsN knd s.heap k' b ∧ k' ≠ ks) (hu : A.units < cLine) {h : Int} {Q : SetFound → Shared → Prop} (hQ : ∀ j, Q (.free j false) s) :
    ∀ (k F : Nat) (stand : Option Probe), k < F → k < 10 * turns t.mask → (stand.getD (t.probeStart h)).dummy = none → Hit t k (stand.getD (t.probeStart h)) → wpAny (model prog w) A (setSearchFrom S (.ref x) h true F stand) Q E s := by
  intro k
  induction k using Nat.strongRecOn with
  | ind k ih =>
    intro F stand hF hk hdn hh
    obtain ⟨F', rfl⟩ : ∃ F', F = F' + 1 := ⟨F - 1, by lia⟩
    unfold setSearchFrom
    refine wpAny_bind (wpAny_setState_of ho hd hf ?_)
    dsimp only
    have hgw : t.gaveWay = false := by
      unfold gaveWay
      rcases hm with z | z <;> rw [z] <;> rfl
    rw [hgw]
    simp only [Bool.false_eq_true, if_false]
    have bad : ∀ {ha : Nat → Int}, (∀ met, t.probe ha h (stand.getD (t.probeStart h)) = some met → False) → False := fun {ha} hn => by
      rcases go_hit (ha := ha) (h := h) hdm (10 * turns t.mask) k _ hk hdn hh with ⟨j, e⟩ | ⟨j, i, next, k', e, _⟩
      · exact hn _ e
      · exact hn _ e
    split
    · next met heq =>
      rcases go_hit hdm (10 * turns t.mask) k _ hk hdn hh with ⟨j, e⟩ | ⟨j, i, next, k', e, r1, r2, r3, r4, r5⟩
      · have e2 := Option.some.inj (e.symm.trans heq)
        subst e2
        exact wpAny_pure (hQ j)
      · have e2 := Option.some.inj (e.symm.trans heq)
        subst e2
        dsimp only
        have hps : t.place.size = es.size := by
          unfold fits at hf
          rw [Bool.and_eq_true] at hf
          exact eq_of_beq hf.1
        have hil : i < es.size := by
          have := (Array.getElem?_eq_some_iff.mp r2).1
          lia
        obtain ⟨h0, y, hei⟩ : ∃ h0 y, es[i]? = some (h0, y) := ⟨es[i].1, es[i].2, Array.getElem?_eq_getElem hil⟩
        obtain ⟨b, kb, eb, hb, hne⟩ := hes (h0, y) (List.mem_of_getElem? (by rw [Array.getElem?_toList]; exact hei))
        have eb : y = .ref b := eb
        subst eb
        have hNs : Ns knd s.heap (List.map (fun x => x.snd) (Array.filter (fun x => x.fst == h) es).toList) ks := fun v hv => by
          obtain ⟨e0, he0, rfl⟩ := List.mem_map.mp hv
          rw [Array.toList_filter] at he0
          obtain ⟨b', k2, q1, q2, q3⟩ := hes e0 (List.mem_filter.mp he0).1
          exact ⟨b', k2, q1, q2, q3⟩
        have hsm : t.sameMemory t.moves t.mask = some true := by unfold sameMemory; rw [if_pos (beq_self_eq_true _)]
        rcases Bool.eq_false_or_eq_true t.led with hl | hl
        · simp only [hl, Bool.not_true, Bool.false_eq_true, if_false]
          rw [hei]
          dsimp only
          refine wpAny_bind (wpAny_holding (wpAny_eqBool_tuple hu hb.key hx.key ?_))
          rw [decide_eq_false hne]
          refine wpAny_bind (wpAny_setState_of ho hd hf ?_)
          simp only [Bool.and_false, Bool.false_eq_true, if_false, hsm, if_true, r1, hei]
          refine wpAny_bind (wpAny_isSame_ref_self ?_)
          simp only [if_true]
          refine wpAny_bind (wpAny_pure ?_)
          simp only [Bool.false_eq_true, if_false]
          exact ih k' r5 F' (some next) (by lia) (by lia) r3 r4
        · simp only [hl, Bool.not_false, if_true]
          refine wpAny_bind (unseen hx hNs ?_)
          simp only [Bool.false_eq_true, if_false]
          rw [hei]
          dsimp only
          refine wpAny_bind (wpAny_holding (wpAny_eqBool_tuple hu hb.key hx.key ?_))
          rw [decide_eq_false hne]
          refine wpAny_bind (wpAny_setState_of ho hd hf ?_)
          simp only [Bool.and_false, Bool.false_eq_true, if_false, hsm, if_true, r1, hei]
          refine wpAny_bind (wpAny_isSame_ref_self ?_)
          simp only [if_true]
          refine wpAny_bind (wpAny_pure ?_)
          simp only [Bool.false_eq_true, if_false]
          exact ih k' r5 F' (some next) (by lia) (by lia) r3 r4
    · next heq => exact (bad heq).elim
end
end St
end L2

/-! own layer, part 30: a set's table laid anew -/
namespace L2
open PySem PySem.Spec PyProof.Rows
namespace St
open SetTable
theorem free_ok {owner : Array (Option Nat)} {b e : Nat} (he : owner.getD e (some 0) = none) : ∀ (fuel m n : Nat), m < fuel → (bs 31 b (n + m)).1 = e →
    ∃ j, layClean.free 31 owner fuel (bs 31 b n).1 (bs 31 b n).2 = some j ∧ owner.getD j (some 0) = none
  | fuel + 1, m, n, hm, hb => by
    unfold layClean.free
    split
    · next k hk =>
      have := List.find?_some hk
      exact ⟨_, rfl, Option.isNone_iff_eq_none.mp this⟩
    · next hk =>
      cases m with
      | zero =>
        exfalso
        rw [List.find?_eq_none] at hk
        have h0 : (0 : Nat) ∈ List.range (runEnd 31 (bs 31 b n).1 + 1 - (bs 31 b n).1) := List.mem_range.mpr (by unfold runEnd; split <;> lia)
        have h1 := hk 0 h0
        rw [Nat.add_zero] at hb h1
        rw [hb, he] at h1
        exact h1 rfl
      | succ m =>
        obtain ⟨j, h1, h2⟩ := free_ok he fuel m (n + 1) (by lia) (by rw [show n + 1 + m = n + (m + 1) by lia]; exact hb)
        exact ⟨j, h1, h2⟩
def lv (owner : Array (Option Nat)) (j : Nat) : Option (Nat × Nat) := (owner.getD j none).map (j, ·)
theorem lv_set {owner : Array (Option Nat)} {j k : Nat} (hj : owner.getD j (some 0) = none) (hs : owner.size = 32) : (((List.range 32).filterMap (lv (owner.setIfInBounds j (some k)))).map (·.2)).Perm (k :: ((List.range 32).filterMap (lv owner)).map (·.2)) ∧ j < 32 := by
  have hjl : j < 32 := by
    refine Nat.lt_of_not_le fun hle => ?_
    rw [Array.getD_eq_getD_getElem?, Array.getElem?_eq_none (by lia)] at hj
    cases hj
  refine ⟨?_, hjl⟩
  have hsplit : List.range 32 = List.range j ++ j :: (List.range 32).drop (j + 1) := by
    have h1 : (List.range 32)[j]? = some j := List.getElem?_range hjl
    obtain ⟨hlt, hg⟩ := List.getElem?_eq_some_iff.mp h1
    have h2 := (List.take_append_drop j (List.range 32)).symm
    rw [List.drop_eq_getElem_cons hlt, hg, List.take_range, Nat.min_eq_left (by lia)] at h2
    exact h2
  have hne1 : ∀ a ∈ List.range j, lv (owner.setIfInBounds j (some k)) a = lv owner a := fun a ha => by
    have : a ≠ j := by have := List.mem_range.mp ha; lia
    unfold lv
    rw [Array.getD_eq_getD_getElem?, Array.getD_eq_getD_getElem?, Array.getElem?_setIfInBounds_ne (Ne.symm this)]
  have hne2 : ∀ a ∈ (List.range 32).drop (j + 1), lv (owner.setIfInBounds j (some k)) a = lv owner a := fun a ha => by
    have : a ≠ j := by
      obtain ⟨i, hi⟩ := List.getElem?_of_mem ha
      rw [List.getElem?_drop] at hi
      have hi2 := (List.getElem?_eq_some_iff.mp hi)
      obtain ⟨hl, hi3⟩ := hi2
      rw [List.getElem_range] at hi3
      lia
    unfold lv
    rw [Array.getD_eq_getD_getElem?, Array.getD_eq_getD_getElem?, Array.getElem?_setIfInBounds_ne (Ne.symm this)]
  have hnew : lv (owner.setIfInBounds j (some k)) j = some (j, k) := by
    unfold lv
    rw [Array.getD_eq_getD_getElem?, Array.getElem?_setIfInBounds_self_of_lt (by lia)]; rfl
  have hold : lv owner j = none := by
    unfold lv
    rw [Array.getD_eq_getD_getElem?] at hj ⊢
    have hlt : j < owner.size := by lia
    rw [Array.getElem?_eq_getElem hlt] at hj ⊢
    show (owner[j]).map _ = none
    have hj' : owner[j] = none := hj
    rw [hj']; rfl
  have hcong : ∀ {l : List Nat}, (∀ a ∈ l, lv (owner.setIfInBounds j (some k)) a = lv owner a) → l.filterMap (lv (owner.setIfInBounds j (some k))) = l.filterMap (lv owner) := fun {l} h => by
    induction l with
    | nil => rfl
    | cons a l ih =>
      rw [List.filterMap_cons, List.filterMap_cons, h a List.mem_cons_self, ih fun b hb => h b (List.mem_cons_of_mem _ hb)]
  rw [hsplit, List.filterMap_append, List.filterMap_append, List.filterMap_cons_some hnew, List.filterMap_cons_none hold, hcong hne1, hcong hne2, List.map_append, List.map_append, List.map_cons]
  exact List.perm_middle
/-- owner holds 0 .. k - 1, each once -/
def Own (owner : Array (Option Nat)) (k : Nat) : Prop := owner.size = 32 ∧ (((List.range 32).filterMap (lv owner)).map (·.2)).Perm (List.range k)
theorem own_free {owner : Array (Option Nat)} {k : Nat} (ho : Own owner k) (hk : k < 32) : ∃ e, e < 32 ∧ owner.getD e (some 0) = none := by
  refine Classical.byContradiction fun hn => ?_
  have hall : ∀ e, e < 32 → owner.getD e (some 0) ≠ none := fun e he z => hn ⟨e, he, z⟩
  have hlen := ho.2.length_eq
  rw [List.length_map, List.length_range] at hlen
  have hall2 : ∀ a ∈ List.range 32, (lv owner a).isSome = true := fun a ha => by
    have ha' := List.mem_range.mp ha
    have h1 := hall a ha'
    unfold lv
    rw [Array.getD_eq_getD_getElem?] at h1 ⊢
    have hlt : a < owner.size := by rw [ho.1]; exact ha'
    rw [Array.getElem?_eq_getElem hlt] at h1 ⊢
    cases hc : owner[a] with
    | none => rw [hc] at h1; exact absurd rfl h1
    | some v => show ((some v).map (fun x => (a, x))).isSome = true; rfl
  have hfl : ∀ {l : List Nat}, (∀ a ∈ l, (lv owner a).isSome = true) → (l.filterMap (lv owner)).length = l.length := fun {l} h => by
    induction l with
    | nil => rfl
    | cons a l ih =>
      obtain ⟨v, hv⟩ := Option.isSome_iff_exists.mp (h a List.mem_cons_self)
      rw [List.filterMap_cons_some hv, List.length_cons, List.length_cons, ih fun b hb => h b (List.mem_cons_of_mem _ hb)]
  rw [hfl hall2, List.length_range] at hlen
  lia
def stp (acc : Option (Array (Option Nat) × Nat)) (h : Int) : Option (Array (Option Nat) × Nat) := do
  let (owner, k) ← acc
  let j ← layClean.free 31 owner (turns 31) (bits h % (31 + 1)) (bits h)
  pure (owner.setIfInBounds j (some k), k + 1)
theorem stp_ok {owner : Array (Option Nat)} {k : Nat} (ho : Own owner k) (hk : k < 32) (h : Int) : ∃ owner', stp (some (owner, k)) h = some (owner', k + 1) ∧ Own owner' (k + 1) := by
  obtain ⟨e, he, hn⟩ := own_free ho hk
  obtain ⟨n, hn1, hn2⟩ := bs_hits (mask := 31) (b := bits h) (.inr rfl) (bits_lt h) (show e < 31 + 1 by lia)
  obtain ⟨j, hj1, hj2⟩ := free_ok (owner := owner) (b := bits h) hn (turns 31) n 0 (by unfold turns; lia) (by rw [Nat.zero_add]; exact hn2)
  have hp := lv_set (k := k) hj2 ho.1
  refine ⟨owner.setIfInBounds j (some k), ?_, ?_, ?_⟩
  · have hj1' : layClean.free 31 owner (turns 31) (bits h % (31 + 1)) (bits h) = some j := hj1
    show (do let j ← layClean.free 31 owner (turns 31) (bits h % (31 + 1)) (bits h); pure (owner.setIfInBounds j (some k), k + 1)) = _
    rw [hj1']; rfl
  · rw [Array.size_setIfInBounds]; exact ho.1
  · refine hp.1.trans ?_
    rw [show List.range (k + 1) = List.range k ++ [k] from List.range_succ]
    exact (List.Perm.cons k ho.2).trans (List.perm_append_comm (l₁ := [k]))
theorem fold_ok : ∀ (hs : List Int) {owner : Array (Option Nat)} {k : Nat}, Own owner k → k + hs.length ≤ 32 → ∃ owner', hs.foldl stp (some (owner, k)) = some (owner', k + hs.length) ∧ Own owner' (k + hs.length)
  | [], owner, k, ho, _ => ⟨owner, rfl, ho⟩
  | h :: hs, owner, k, ho, hl => by
    rw [List.length_cons] at hl
    obtain ⟨o1, e1, ho1⟩ := stp_ok ho (by lia) h
    obtain ⟨o2, e2, ho2⟩ := fold_ok hs ho1 (by lia)
    refine ⟨o2, ?_, ?_⟩
    · rw [List.foldl_cons, e1, e2, List.length_cons, show k + 1 + hs.length = k + (hs.length + 1) by lia]
    · rw [List.length_cons, show k + (hs.length + 1) = k + 1 + hs.length by lia]; exact ho2
theorem own_none : Own (Array.replicate 32 none) 0 := by
  refine ⟨Array.size_replicate, ?_⟩
  have : (List.range 32).filterMap (lv (Array.replicate 32 none)) = [] := by decide +kernel
  rw [this]; exact List.Perm.refl _
theorem laid_ok (hashes : Array Int) (hn : hashes.size ≤ 32) (finger moves : Nat) (led plain : Bool) : ∃ t order, laid 31 finger moves led plain hashes = some (t, order) ∧ t.mask = 31 ∧ t.dummies = #[] ∧ t.place.size = hashes.size ∧ order.toList.Perm (List.range hashes.size) := by
  obtain ⟨owner, e, ho⟩ := fold_ok hashes.toList own_none (by rw [Array.length_toList]; lia)
  have hc : layClean 31 hashes = some owner := by
    unfold layClean
    have e' : hashes.foldl stp (some (Array.replicate 32 none, 0)) = some (owner, 0 + hashes.toList.length) := by rw [← Array.foldl_toList]; exact e
    have e2 : hashes.foldl (init := some (Array.replicate (31 + 1) none, 0)) (fun acc h => do
        let (owner, k) ← acc
        let j ← layClean.free 31 owner (turns 31) (bits h % (31 + 1)) (bits h)
        pure (owner.setIfInBounds j (some k), k + 1)) = some (owner, 0 + hashes.toList.length) := e'
    rw [e2]; rfl
  have hp := ho.2
  rw [Nat.zero_add, Array.length_toList] at hp
  refine ⟨{ mask := 31, place := (((List.range 32).filterMap (lv owner)).map (·.1)).toArray, dummies := #[], finger, led, moves, plain }, (((List.range 32).filterMap (lv owner)).map (·.2)).toArray, ?_, rfl, rfl, ?_, ?_⟩
  · unfold laid
    rw [hc]
    rfl
  · have := hp.length_eq
    rw [List.length_map, List.length_range] at this
    show (((List.range 32).filterMap (lv owner)).map (·.1)).toArray.size = _
    rw [List.size_toArray, List.length_map]; exact this
  · exact hp
end St
end L2

/-! own layer, part 31: a number put into a set of unlike numbers; set of a list of them; its length -/
namespace L2
open PySem PySem.Spec PyProof.Rows
namespace St
open SetTable
section
variable {prog : Program} {w : World} {K : Type} [DecidableEq K] (knd : KeyKind prog w K) (G : Addr → Prop)
/-- a set of the unlike keys, at places of G -/
def SetN (h : Heap) (S : Addr) (keys : List (List K)) : Prop := ∃ o es ep t, h.get? S = some o ∧ o.ExactSet ∧ o.data = .set es ep t ∧ (t.mask = 7 ∧ es.size ≤ 4 ∨ t.mask = 31) ∧ t.dummies = #[] ∧ t.place.size = es.size ∧ es.size = keys.length ∧
  ∀ e ∈ es.toList, ∃ b k, e.2 = Value.ref b ∧ IsN knd h k b ∧ k ∈ keys ∧ G b
variable {knd} {G}
theorem SetN.keep {h h' : Heap} {S : Addr} {keys : List (List K)} (x : SetN knd G h S keys) (k : ∀ b o, b = S ∨ G b → h.get? b = some o → h'.get? b = some o) : SetN knd G h' S keys := by
  obtain ⟨o, es, ep, t, h1, h2, h3, h4, h5, h6, h7, h8⟩ := x
  refine ⟨o, es, ep, t, k _ _ (.inl rfl) h1, h2, h3, h4, h5, h6, h7, fun e he => ?_⟩
  obtain ⟨b, k', q1, q2, q3, q4⟩ := h8 e he
  exact ⟨b, k', q1, q2.keep fun o e => k _ o (.inr q4) e, q3, q4⟩
variable {A : Around} {E : Value → Shared → Prop} {s : Shared}
theorem insert_size {α : Type} (xs : Array α) (p : Nat) (x : α) : (insertAt xs p x).size = xs.size + 1 := by
  have h := (SetTable.insertAt_perm xs p x).length_eq
  rw [Array.length_toList, Array.length_toList, Array.size_push] at h
  exact h
theorem keep_but {h h' : Heap} {S : Addr} (sb : Heap.SameBut S h h') {ks : List K} {b : Addr} {o : Obj} {es ep t} (hS : h.get? S = some o) (hd : o.data = .set es ep t) (x : IsN knd h ks b) : IsN knd h' ks b := by
  obtain ⟨o', items, n, h1, h2, h3, h4⟩ := id x
  have hne : b ≠ S := by
    rintro rfl
    rw [hS] at h1
    cases h1
    rw [hd] at h3
    cases h3
  exact x.keep fun o'' e => (sb.2 b hne).trans e
theorem add_tail {S : Addr} {o : Obj} {es : Array (Int × Value)} {ep : Nat} {t : SetTable} (ho : s.heap.get? S = some o) (hcl : o.ExactSet) (hd : o.data = .set es ep t) {es1 : Array (Int × Value)} {t1 : SetTable} {keys : List (List K)}
    (hmk : t1.mask = 7 ∧ es1.size ≤ 5 ∨ t1.mask = 31) (hdm : t1.dummies = #[]) (hps : t1.place.size = es1.size) (hn : es1.size = keys.length) (h17 : es1.size ≤ 17) (hel : ∀ e ∈ es1.toList, ∃ b k, e.2 = Value.ref b ∧ IsN knd s.heap k b ∧ k ∈ keys ∧ G b) {m : Nat} (hm : m = es1.size) {Q : Bool → Shared → Prop}
    (h : ∀ h', Heap.SameBut S s.heap h' → SetN knd G h' S keys → Q true { s with heap := h' }) :
    wpAny (model prog w) A (do storeSet S es1 t1; if (!false && t1.tooFull) = true then do { setRelay S (grown m); pure true } else pure true) Q E s := by
  refine wpAny_bind (wpAny_storeSet_of ho hd ?_ (Nat.le_trans h17 (by decide)))
  have hg1 : (s.heap.update S (Obj.putSet es1 t1)).get? S = some { o with data := .set es1 (ep + 1) t1 } := by
    have := Heap.get?_update_self (Obj.putSet es1 t1) ho (by rw [putSet_of _ _ hd]; rfl)
    rw [putSet_of _ _ hd] at this; exact this
  have sb1 : Heap.SameBut S s.heap (s.heap.update S (Obj.putSet es1 t1)) := Heap.SameBut.update ..
  generalize s.heap.update S (Obj.putSet es1 t1) = h1 at hg1 sb1 ⊢
  have hel1 : ∀ e ∈ es1.toList, ∃ b k, e.2 = Value.ref b ∧ IsN knd h1 k b ∧ k ∈ keys ∧ G b := fun e he => by
    obtain ⟨b, k, q1, q2, q3, q4⟩ := hel e he
    exact ⟨b, k, q1, keep_but sb1 ho hd q2, q3, q4⟩
  have hfl : SetTable.fill t1 = es1.size := by unfold SetTable.fill; rw [hdm, hps]; rfl
  by_cases hfull : t1.tooFull = true
  · have hf5 : es1.size * 5 ≥ t1.mask * 3 := by
      unfold tooFull at hfull
      rw [hfl] at hfull
      exact of_decide_eq_true hfull
    have hm7 : t1.mask = 7 ∧ es1.size = 5 := by
      rcases hmk with z | z
      · rw [z.1] at hf5; exact ⟨z.1, by lia⟩
      · rw [z] at hf5; lia
    simp only [hfull, Bool.not_false, Bool.and_self, if_true]
    refine wpAny_bind ?_
    unfold setRelay
    have hfit1 : t1.fits es1.size = true := by
      unfold fits
      rw [hfl, hps, hm7.1, hm7.2]; rfl
    refine wpAny_bind (wpAny_setState_of (s := { s with heap := h1 }) (o := { o with data := .set es1 (ep + 1) t1 }) hg1 rfl hfit1 ?_)
    dsimp only
    have hgr : grown m = 20 := by rw [hm, hm7.2]; rfl
    have hsa : sizeAbove 20 = 32 := by decide
    rw [hgr, hsa, if_neg (by decide)]
    have hrl : t1.relaid (es1.map (·.1)) 20 = laid 31 t1.finger (t1.movedTo 31) t1.led t1.plain (es1.map (·.1)) := by
      unfold relaid
      rw [hsa]
    obtain ⟨t2, order, el, et1, et2, et3, eo⟩ := laid_ok (es1.map (·.1)) (by rw [Array.size_map]; lia) t1.finger (t1.movedTo 31) t1.led t1.plain
    rw [Array.size_map] at et3 eo
    have hperm : (order.filterMap (es1[·]?)).toList.Perm es1.toList := by
      rw [Array.toList_filterMap]
      have := eo.filterMap (fun i => es1[i]?)
      rw [filterMap_getElem?_range] at this
      exact this
    have hsz2 : (order.filterMap (es1[·]?)).size = es1.size := by
      have := hperm.length_eq
      rw [Array.length_toList, Array.length_toList] at this
      exact this
    rw [hrl, el]
    refine wpAny_bind ?_
    show wpAny _ _ (if ((order.filterMap (es1[·]?)).size != es1.size) = true then _ else pure (order.filterMap (es1[·]?), t2)) _ _ _
    rw [if_neg (by rw [hsz2]; simp)]
    refine wpAny_pure ?_
    generalize order.filterMap (es1[·]?) = es2 at hperm hsz2 ⊢
    refine wpAny_storeSet_of (s := { s with heap := h1 }) (o := { o with data := .set es1 (ep + 1) t1 }) hg1 rfl ?_ (by rw [hsz2]; exact Nat.le_trans h17 (by decide))
    have hg2 : (h1.update S (Obj.putSet es2 t2)).get? S = some { o with data := .set es2 (ep + 1 + 1) t2 } := by
      have := Heap.get?_update_self (Obj.putSet es2 t2) hg1 (by rw [putSet_of (es := es1) (ep := ep + 1) (t := t1) _ _ rfl]; rfl)
      rw [putSet_of (es := es1) (ep := ep + 1) (t := t1) _ _ rfl] at this; exact this
    have sb2 : Heap.SameBut S h1 (h1.update S (Obj.putSet es2 t2)) := Heap.SameBut.update ..
    have hel2 : ∀ e ∈ es2.toList, ∃ b k, e.2 = Value.ref b ∧ IsN knd (h1.update S (Obj.putSet es2 t2)) k b ∧ k ∈ keys ∧ G b := fun e he => by
      obtain ⟨b, k, q1, q2, q3, q4⟩ := hel1 e (hperm.mem_iff.mp he)
      exact ⟨b, k, q1, keep_but (es := es1) (ep := ep + 1) (t := t1) sb2 hg1 rfl q2, q3, q4⟩
    refine wpAny_pure (h (h1.update S (Obj.putSet es2 t2)) ⟨sb2.1.trans sb1.1, fun b hb => (sb2.2 b hb).trans (sb1.2 b hb)⟩ ⟨_, _, _, _, hg2, hcl, rfl, .inr et1, et2, by rw [et3, hsz2], by rw [hsz2]; exact hn, hel2⟩)
  · have hfull' : t1.tooFull = false := by simpa using hfull
    simp only [hfull', Bool.and_false, Bool.false_eq_true, if_false]
    refine wpAny_pure (h h1 sb1 ⟨_, _, _, _, hg1, hcl, rfl, ?_, hdm, hps, hn, hel1⟩)
    rcases hmk with z | z
    · refine .inl ⟨z.1, ?_⟩
      unfold tooFull at hfull'
      rw [hfl, z.1] at hfull'
      have hf' := of_decide_eq_false hfull'
      lia
    · exact .inr z
theorem add_n {S x : Addr} {ks : List K} {keys : List (List K)} {hsh : Int} {Q : Bool → Shared → Prop} (hS : SetN knd G s.heap S keys) (hx : IsN knd s.heap ks x) (hGx : G x) (hne : ks ∉ keys) (hl : keys.length ≤ 16) (hu : A.units < cLine)
    (h : ∀ h', Heap.SameBut S s.heap h' → SetN knd G h' S (ks :: keys) → Q true { s with heap := h' }) : wpAny (model prog w) A (setAddHashed S (.ref x) hsh) Q E s := by
  obtain ⟨o, es, ep, t, ho, hcl, hd, hmk, hdm, hps, hn, hel⟩ := hS
  have hm : t.mask = 7 ∨ t.mask = 31 := hmk.elim (fun z => .inl z.1) .inr
  have hsz : es.size ≤ t.mask := by rcases hmk with z | z <;> lia
  have hfl : SetTable.fill t = es.size := by unfold SetTable.fill; rw [hdm, hps]; rfl
  have hfit : t.fits es.size = true := by
    unfold fits
    rw [hfl, hps]
    simp
    exact hsz
  have hes : ∀ e ∈ es.toList, ∃ b k', e.2 = Value.ref b ∧ IsN knd s.heap k' b ∧ k' ≠ ks := fun e he => by
    obtain ⟨b, k, q1, q2, q3, _⟩ := hel e he
    exact ⟨b, k, q1, q2, fun z => hne (z ▸ q3)⟩
  unfold setAddHashed setAddHashedIn
  refine wpAny_holding (wpAny_bind (wpAny_setState_of ho hd hfit ?_))
  dsimp only
  have hbs : byScan (.ref x) es = false := rfl
  rw [hbs]
  simp only [Bool.false_eq_true, if_false]
  obtain ⟨k, hk1, hk2⟩ := start_hit hm hdm (by rw [hps]; exact hsz) hsh
  have hkF : k < 100000 := by
    unfold turns at hk1
    rcases hm with z | z <;> rw [z] at hk1 <;> lia
  refine wpAny_bind (m := setSearch S (.ref x) hsh true) (search_free ho hd hfit hm hdm hx hes hu (fun j => ?_) k 100000 none hkF hk1 rfl hk2)
  dsimp only
  refine wpAny_bind (wpAny_setState_of ho hd hfit ?_)
  dsimp only
  have hput : (t.put j).1 = { t with place := insertAt t.place (t.put j).2 j } := by
    unfold put
    have hz : has t.dummies j = false := by rw [hdm]; unfold has; rfl
    simp only [hz, Bool.false_eq_true, if_false]
  have hpl1 : (t.put j).1.place.size = es.size + 1 := by rw [hput]; show (insertAt _ _ _).size = _; rw [insert_size, hps]
  have hdm1 : (t.put j).1.dummies = #[] := by rw [hput]; exact hdm
  have hmk1 : (t.put j).1.mask = t.mask := by rw [hput]
  generalize (t.put j).1 = t1 at hpl1 hdm1 hmk1 ⊢
  generalize (t.put j).2 = p
  have hsz1 : (insertAt es p (hsh, Value.ref x)).size = es.size + 1 := insert_size _ _ _
  have hel1 : ∀ e ∈ (insertAt es p (hsh, Value.ref x)).toList, ∃ b k, e.2 = Value.ref b ∧ IsN knd s.heap k b ∧ k ∈ ks :: keys ∧ G b := fun e he => by
    have he' := (SetTable.insertAt_perm es p (hsh, Value.ref x)).mem_iff.mp he
    rw [Array.toList_push] at he'
    rcases List.mem_append.mp he' with z | z
    · obtain ⟨b, k, q1, q2, q3, q4⟩ := hel e z
      exact ⟨b, k, q1, q2, List.mem_cons_of_mem _ q3, q4⟩
    · rw [List.mem_singleton.mp z]
      exact ⟨x, ks, rfl, hx, List.mem_cons_self, hGx⟩
  have tail := add_tail (knd := knd) (G := G) (A := A) (E := E) (Q := Q) ho hcl hd (es1 := insertAt es p (hsh, Value.ref x)) (t1 := t1) (keys := ks :: keys) (by rw [hmk1, hsz1]; rcases hmk with z | z; exact .inl ⟨z.1, by lia⟩; exact .inr z) hdm1 (by rw [hpl1, hsz1]) (by rw [hsz1, hn]; rfl) (by rw [hsz1]; lia) hel1 (m := es.size + 1) (by rw [hsz1]) h
  split
  · refine wpAny_bind (hashByValue_n hx ?_)
    simp only [if_true]
    exact tail
  · refine wpAny_bind (wpAny_pure ?_)
    simp only [if_true]
    exact tail
end
end St
end L2

/-! own layer, part 32: set of a list of unlike numbers, its length -/
namespace L2
open PySem PySem.Spec PyProof.Rows
namespace St
section
variable {prog : Program} {w : World} {K : Type} [DecidableEq K] {knd : KeyKind prog w K} {G : Addr → Prop} {A : Around} {R : Result → Shared → Prop} {I : Addr} {fp wr : List Addr} {GG : Array GenState → Array GenState → Prop} {n : Nat} {P : Nat → Value → Prop} {St : Nat → Shared → Prop}
def ksAt (key : Nat → List K) : Nat → List (List K)
  | 0 => []
  | i + 1 => key i :: ksAt key i
theorem ksAt_length (key : Nat → List K) : ∀ i, (ksAt key i).length = i
  | 0 => rfl
  | i + 1 => by show (ksAt key i).length + 1 = i + 1; rw [ksAt_length key i]
theorem ksAt_mem {key : Nat → List K} {k : List K} : ∀ {i}, k ∈ ksAt key i → ∃ j, j < i ∧ key j = k
  | i + 1, h => by
    rcases List.mem_cons.mp h with z | z
    · exact ⟨i, Nat.lt_succ_self _, z.symm⟩
    · obtain ⟨j, h1, h2⟩ := ksAt_mem z
      exact ⟨j, Nat.lt_succ_of_lt h1, h2⟩
/-- one turn of the loop that fills a set -/
theorem turn_of {S : Addr} {s : Shared} (hz : wpAny (model prog w) A.in1 (Builtin.«set.update.loop» ⟨[.ref S, .ref I], []⟩)
      (fun fin s' => match fin with | .done f => R (.ok f) s' | .again c' => c'.quiet = true ∧ codeAny (model prog w) A c' R s') (fun e s' => R (.error e) s') s) :
    codeAny (model prog w) A (.builtin "set.update.loop" ⟨[.ref S, .ref I], []⟩) R s :=
  codeAny_builtin F.entry_set_update_loop ((Around.under_plainId F.plain_set_update_loop (A := A) ⟨[.ref S, .ref I], []⟩).symm ▸ hz)
/-- all of them into the set: i are in -/
theorem loop_n (W : WalksS prog w A.in1 I fp wr GG n P St) (S : Addr) (hSf : S ∉ fp) (key : Nat → List K) (adr : Nat → Addr) (hval : ∀ i v, P i v → v = Value.ref (adr i)) (hG : ∀ i, i < n → G (adr i)) (hGw : ∀ b, G b → b ∉ wr ∧ b ≠ S)
    (hinj : ∀ i j, i < n → j < n → key i = key j → i = j) (hn : n ≤ 17) (hu : A.units + 1 < cLine) (left i : Nat) (s : Shared) (hk : i + left = n) (hst : St i s) (hN : ∀ j, j < n → IsN knd s.heap (key j) (adr j)) (hS : SetN knd G s.heap S (ksAt key i))
    (hR : ∀ s', Moved (S :: wr) GG s s' → SetN knd G s'.heap S (ksAt key n) → R (.ok (.ret .none)) s') : codeAny (model prog w) A (.builtin "set.update.loop" ⟨[.ref S, .ref I], []⟩) R s := by
  have grow : ∀ {a b : Shared}, Moved wr GG a b → Moved (S :: wr) GG a b := fun m => m.mono fun _ => List.mem_cons_of_mem _
  have stay : ∀ {a b : Shared}, Moved wr GG a b → ∀ c o, c = S ∨ G c → a.heap.get? c = some o → b.heap.get? c = some o := fun m c o hc => m.heap c o (hc.elim (fun z => z ▸ mt (W.sub _) hSf) fun z => (hGw c z).1)
  induction left generalizing i s with
  | zero =>
    obtain rfl : i = n := by lia
    refine turn_of (show wpAny (model prog w) A.in1 (pyNext (Value.ref I) >>= _) _ _ s from wpAny_bind (W.done s _ _ hst fun s' m => ?_))
    exact wpAny_pure (hR s' (grow m) (hS.keep (stay m)))
  | succ left ih =>
    have hlt : i < n := by lia
    refine turn_of (show wpAny (model prog w) A.in1 (pyNext (Value.ref I) >>= _) _ _ s from wpAny_bind (W.item i s _ _ hlt hst fun v s' hP hst' m => ?_))
    obtain rfl := hval i v hP
    have hN' : ∀ j, j < n → IsN knd s'.heap (key j) (adr j) := fun j hj => (hN j hj).keep fun o e => stay m _ o (.inr (hG j hj)) e
    have hS' : SetN knd G s'.heap S (ksAt key i) := hS.keep (stay m)
    refine wpAny_bind (m := holding [Value.ref (adr i)] (setAdd S (Value.ref (adr i)))) (wpAny_holding ?_)
    unfold setAdd
    refine wpAny_holding (wpAny_bind (wpAny_pyHash_tuple hu (hN' i hlt).key ?_))
    refine add_n (knd := knd) (G := G) (s := { s' with toks := s'.toks + ((key i).length + 1) }) hS' (hN' i hlt) (hG i hlt) (fun z => ?_) (by rw [ksAt_length]; lia) hu fun h' sb hS2 => ?_
    · obtain ⟨j, j1, j2⟩ := ksAt_mem z
      have := hinj j i (by lia) hlt j2
      lia
    have other : ∀ c o, c ≠ S → s'.heap.get? c = some o → h'.get? c = some o := fun c o hc e => (sb.2 c hc).trans e
    refine wpAny_pure ⟨plainId_quiet F.plain_set_update_loop _, ih (i + 1) _ (by lia) (W.frame _ s' _ _ hst' (Nat.le_add_right _ _) fun b hb o e => other b o (fun z => hSf (z ▸ hb)) e) (fun j hj => (hN' j hj).keep fun o e => other _ o (hGw _ (hG j hj)).2 e) hS2 fun s'' m2 hS3 => ?_⟩
    exact hR s'' (((grow m).then_heap (Nat.le_add_right _ _) fun b o hb e => other b o (fun z => hb (z ▸ List.mem_cons_self)) e).trans W.gtrans m2) hS3
end
section
variable {prog : Program} {w : World} {K : Type} [DecidableEq K] {knd : KeyKind prog w K} {A : Around} {E : Value → Shared → Prop} {s : Shared}
/-- an empty set, an iterator of a list, as they are made -/
abbrev nS (led : Bool) : Obj := { cls := .type "set", dict := none, data := .set #[] 0 (.fresh 0 0 led) }
abbrev nI (l : Addr) : Obj := { cls := .type "list_iterator", data := .fields #[.ref l, .int 0 0] }
/-- what filling an empty set from a list comes to -/
theorem init_n {l : Addr} {items : Array Value} (led : Bool) (key : Nat → List K) (adr : Nat → Addr) (hh : A.handled = none) (hl : s.heap.IsList l items) (hv : ∀ (i : Nat) (v : Value), items[i]? = some v → v = Value.ref (adr i)) (hN : ∀ j, j < items.size → IsN knd s.heap (key j) (adr j))
    (hinj : ∀ i j, i < items.size → j < items.size → key i = key j → i = j) (hb : items.size ≤ 17) (hu : A.units + 20 < cLine) {Q : Fin → Shared → Prop} {E' : Value → Shared → Prop}
    (h : ∀ (h' : Heap) (tk : Nat), SetN knd (fun b => b < s.heap.objs.size) h' s.heap.objs.size (ksAt key items.size) → (∀ b o, s.heap.get? b = some o → h'.get? b = some o) → Q (.done (.ret .none)) { s with heap := h', toks := tk }) :
    wpAny (model prog w) A (Builtin.«set.__init__» ⟨[.ref s.heap.objs.size, .ref l], []⟩) Q E' { s with heap := s.heap.push (nS led) } := by
  have lS : l < s.heap.objs.size := by obtain ⟨_, e, _⟩ := hl; exact Heap.lt_size e
  obtain ⟨⟨_, od, _, osl⟩, el, hc, nl, hd⟩ := id hl
  simp only at hc hd; subst hc hd
  have el1 : (s.heap.push (nS led)).get? l = some { cls := .type "list", dict := od, data := .seq items nl, slots := osl } := Heap.get?_push_of_some _ el
  have eS : (s.heap.push (nS led)).get? s.heap.objs.size = some (nS led) := Heap.get?_push_size _ rfl
  have hl1 : (s.heap.push (nS led)).IsList l items := ⟨_, el1, rfl, nl, rfl⟩
  have t1 := F.sub_list_set; have t2 := F.sub_list_frozenset; have t3 : (Value.type "list" == Value.type "dict") = false := by decide
  unfold Builtin.«set.__init__» noKeywords Builtin.Frozenset.updateFrom
  generalize hPI : pyIter = PI; wp_walk; subst hPI
  have zS : (s.heap.push (nS led)).objs.size = s.heap.objs.size + 1 := Heap.size_push ..
  refine wpAny_pyIter_list hl1 (wpAny_bind (wpAny_runValue ?_))
  have up : ∀ b o, s.heap.get? b = some o → ((s.heap.push (nS led)).push (nI l)).get? b = some o := fun b o e => Heap.get?_push_of_some _ (Heap.get?_push_of_some _ e)
  have lI : l ≠ (s.heap.push (nS led)).objs.size := by rw [zS]; exact Nat.ne_of_lt (Nat.lt_succ_of_lt lS)
  refine loop_n (knd := knd) (G := fun b => b < s.heap.objs.size) ((Walks.list (A := A.in1) hh _ l lI items).toS) s.heap.objs.size ?_ key adr (fun i v hP => hv i v hP) (fun i hi => ?_) (fun b hb => ⟨?_, Nat.ne_of_lt hb⟩) hinj hb (by lia) items.size 0 _ (Nat.zero_add _)
    ⟨⟨_, Heap.get?_push_size _ rfl, rfl, rfl⟩, hl1.push _⟩ (fun j hj => (hN j hj).keep fun o e => up _ _ e) ⟨_, _, _, _, Heap.get?_push_of_some _ eS, ⟨rfl, rfl, rfl⟩, rfl, .inl ⟨rfl, Nat.zero_le _⟩, rfl, rfl, rfl, (fun e he => by simp at he)⟩ ?_
  · rw [zS]; intro hm
    rcases List.mem_cons.mp hm with z | z
    · exact absurd z (Nat.ne_of_lt (Nat.lt_succ_self _))
    · exact absurd (List.mem_singleton.mp z) (Nat.ne_of_gt lS)
  · obtain ⟨_, _, _, e, _⟩ := hN i hi; exact Heap.lt_size e
  · rw [zS]; intro hm
    exact absurd (List.mem_singleton.mp hm) (Nat.ne_of_lt (Nat.lt_succ_of_lt hb))
  rintro ⟨h', g', d', tk', os'⟩ m hS'
  obtain rfl : g' = s.gens := m.gens
  obtain rfl : d' = s.drawn := m.drawn
  obtain rfl : os' = s.os := m.os
  refine wpAny_pure (wpAny_pure (h h' tk' hS' fun b o e => ?_))
  have lb := Heap.lt_size e
  refine m.heap b o (fun hm => ?_) (up b o e)
  rw [zS] at hm
  rcases List.mem_cons.mp hm with z | z
  · exact absurd z (Nat.ne_of_lt lb)
  · exact absurd (List.mem_singleton.mp z) (Nat.ne_of_lt (Nat.lt_succ_of_lt lb))
/-- set(l), l a list of unlike numbers -/
theorem call_setN {l : Addr} {items : Array Value} {Q : Value → Shared → Prop} (key : Nat → List K) (adr : Nat → Addr) (hh : A.handled = none) (hl : s.heap.IsList l items) (hv : ∀ (i : Nat) (v : Value), items[i]? = some v → v = Value.ref (adr i)) (hN : ∀ j, j < items.size → IsN knd s.heap (key j) (adr j))
    (hinj : ∀ i j, i < items.size → j < items.size → key i = key j → i = j) (hb : items.size ≤ 17) (hu : A.units + 40 < cLine)
    (h : ∀ (h' : Heap) (tk : Nat), SetN knd (fun b => b < s.heap.objs.size) h' s.heap.objs.size (ksAt key items.size) → (∀ b o, s.heap.get? b = some o → h'.get? b = some o) → Q (.ref s.heap.objs.size) { s with heap := h', toks := tk }) :
    wpAny (model prog w) A (call (.type "set") [.ref l]) Q E s := by
  obtain ⟨_, _, hmro⟩ := F.called_set.mro
  have m1 := F.called_set.made; have m2 := F.called_set.sub; have m3 := F.called_set.notType; have m4 := F.called_set.canCreate; have m5 := F.typeCall_set_1 (.ref l)
  refine wpAny_call (codeAny_of_tree (show wpAny _ _ (callAny (.type "set") _) _ _ _ from wpAny_pure ⟨Code.quiet_builtin _ (by decide +kernel), codeAny_builtin F.entry_type_call ?_⟩))
  rw [Around.under_plain (weight_type_call_type "set" [.ref l] []) rfl]
  repeat any_goals first | assumption | wp_step
  refine codeAny_mono (code_set_new_1 (.ref l) (E := E) (Q₁ := fun v s₁ => v = .ref s.heap.objs.size ∧ ∃ led, s₁ = { s with heap := s.heap.push (nS led) }) fun led => ⟨rfl, led, rfl⟩) fun r s₁ hr => ?_
  rcases r with e | fl
  · exact hr
  cases fl with
  | ret v =>
    obtain ⟨e1, led, e2⟩ := hr
    subst e1 e2
    have hT : Shared.TypeIs { s with heap := s.heap.push (nS led) } (.ref s.heap.objs.size) "set" := ⟨_, Heap.get?_push_size _ rfl, rfl⟩
    have m6 := F.called_set.init.lookup; have m7 := F.called_set.init.bind (.ref s.heap.objs.size)
    repeat any_goals first | assumption | wp_step
    refine codeAny_mono (codeAny_call_builtin (R := wants (fun r s₂ => r = .none ∧ Q (.ref s.heap.objs.size) s₂) E) F.called_set.init.plain F.entry_set_init (check_set_init_1 hT ?_)) fun r₂ s₂ hr₂ => ?_
    · refine init_n (knd := knd) led key adr ?_ hl hv hN hinj hb ?_ fun h' tk hS hk => ?_
      · simp [hh]
      · simp only [Around.in1]; lia
      · exact ⟨rfl, h h' tk hS hk⟩
    · rcases r₂ with e | fl₂
      · exact hr₂
      cases fl₂ with
      | ret _ =>
        obtain ⟨e3, q⟩ := hr₂
        subst e3
        repeat any_goals first | assumption | wp_step
      | _ => exact hr₂.elim
  | _ => exact hr.elim
end
end St
end L2

/-! own layer, part 33: set of a list of unlike numbers, and its length, as rules -/
namespace L2
open PySem PySem.Spec PyProof.Rows
theorem bt_set : bootBuiltins "set" = some (.type "set") := by decide +kernel
/-- a set of n things, by its own object -/
def SetO (p : Addr) (n : Nat) : HO := .ext fun h => ∃ o es ep t, h.get? p = some o ∧ o.ExactSet ∧ o.data = .set es ep t ∧ SetTable.fits t es.size = true ∧ es.size = n
theorem isN_of {P : Program} {w : World} {H : Hp} {h : Heap} {a : Addr} {q : Rat} (ok : HOk P w H h) (e : H a = some (nT q)) : St.IsN (mixKind P w) h (kQ q) a := by
  obtain ⟨_, its, rv, o, ho, hc, n, hd⟩ := ok a _ e
  refine ⟨o, its.toArray, n, ho, hc, hd, items_are (ks := kQ q) rv, fun v hv => ?_⟩
  have hv' : v ∈ its := by simpa using hv
  cases rv with
  | cons r1 rr =>
    cases rr with
    | cons r2 rr =>
      cases rr
      obtain ⟨t1, rfl⟩ := r1
      obtain ⟨t2, rfl⟩ := r2
      rcases List.mem_cons.mp hv' with z | z
      · exact ⟨_, _, z⟩
      · exact ⟨_, _, List.mem_singleton.mp z⟩
section
variable {X : Cx}
inductive rSetN (K : PySem.W.Frag) (xs : List V) (H : Hp) (Q : VK) : Prop
  | mk (l : Addr) (ys : List V) (qs : List Rat) (h1 : xs = [.ref l]) (h2 : SqL K H l ys) (h3 : NumsT H ys qs) (h4 : qs.Nodup) (h5 : qs.length ≤ 17) (h6 : ∀ p, H p = none → Q (.ref p) (upd H p (SetO p qs.length))) : rSetN K xs H Q
theorem call_setR (hc : X.calm = true) (hu : X.A.units + 64 < cLine) : CallR X (.type "set") (rSetN X.K) := by
  intro pins s σ H xs us Q I r h
  obtain ⟨l, ys, qs, rfl, hq, hn, hnd, h17, q⟩ := h
  obtain ⟨u, rfl, rfl⟩ := vals1 r
  obtain ⟨its, rv, p, hz⟩ := I.list hq
  have hl := rv.length
  have hyl := hn.length
  have hsz : its.toArray.size = qs.length := by rw [List.size_toArray]; lia
  let adr : Nat → Addr := fun j => match ys[j]? with | some (.ref r) => r | _ => 0
  have had : ∀ j, j < qs.length → ∃ r, ys[j]? = some (.ref r) ∧ adr j = r ∧ H r = some (nT (qs.getD j 0)) := fun j hj => by
    have g : qs[j]? = some (qs.getD j 0) := by rw [List.getD_eq_getElem?_getD, List.getElem?_eq_getElem hj]; rfl
    obtain ⟨y, hy, r, rfl, hr⟩ := Paired.get' hn g
    exact ⟨r, hy, by show (match ys[j]? with | some (.ref r) => r | _ => 0) = r; rw [hy], hr⟩
  refine St.call_setN (knd := mixKind X.prog X.w) (fun j => kQ (qs.getD j 0)) adr (I.ok.hd hc) p.isList (fun i v hv => ?_) (fun j hj => ?_) (fun i j hi hj e => ?_) (by lia) (by lia) fun h' tk hS hk => ?_
  · have hv' : its[i]? = some v := by simpa using hv
    have hi : i < its.length := (List.getElem?_eq_some_iff.mp hv').1
    obtain ⟨r, hy, hr, _⟩ := had i (by lia)
    obtain ⟨u, hu1, ru⟩ := rv.get hy
    rw [hv'] at hu1
    cases hu1
    rw [hr]; exact ru
  · rw [hsz] at hj
    obtain ⟨r, _, hr, hH⟩ := had j hj
    rw [hr]
    exact isN_of I.hok hH
  · rw [hsz] at hi hj
    have e' := kQ_inj e
    have g1 : qs[i]? = some (qs.getD i 0) := by rw [List.getD_eq_getElem?_getD, List.getElem?_eq_getElem hi]; rfl
    have g2 : qs[j]? = some (qs.getD j 0) := by rw [List.getD_eq_getElem?_getD, List.getElem?_eq_getElem hj]; rfl
    exact (List.getElem?_inj hi hnd).mp (by rw [g1, g2, e'])
  · obtain ⟨o, es, ep, t, h1, h2, h3, h4, h5, h6, h7, _⟩ := hS
    rw [St.ksAt_length, hsz] at h7
    have hfit : SetTable.fits t es.size = true := by
      unfold SetTable.fits SetTable.fill
      rw [h5, h6]
      rcases h4 with z | z <;> simp <;> lia
    have new : ObjOk X.prog X.w (upd H s.heap.objs.size (SetO s.heap.objs.size qs.length)) h' s.heap.objs.size (SetO s.heap.objs.size qs.length) := by
      refine ⟨⟨o, es, ep, t, h1, h2, h3, hfit, h7⟩, ⟨o, h1⟩, fun g1 g2 hg hk => ?_⟩
      obtain ⟨o, es, ep, t, k1, k2, k3, k4, k5⟩ := hg
      exact ⟨o, es, ep, t, hk o k1, k2, k3, k4, k5⟩
    exact ⟨.ref s.heap.objs.size, _, I.laid (t' := tk) hk (Nat.le_refl _) new, rfl, q _ (I.hok.fresh (Nat.le_refl _))⟩
theorem setR (K : PySem.W.Frag) (hc : X.calm = true) (hu : X.A.units + 64 < cLine) (e : X.K = K := by rfl) : CallR X (.type "set") (rSetN K) := by subst e; exact call_setR hc hu
theorem call_lenS : CallR X (.builtin "len") (fun xs H Q => ∃ (p : Addr) (n : Nat), xs = [.ref p] ∧ H p = some (SetO p n) ∧ n ≤ 1000 ∧ Q (.int (n : Int)) H) := by
  intro pins s σ H xs us Q I r h
  obtain ⟨p, n, rfl, hp, hn, q⟩ := h
  obtain ⟨u, rfl, rfl⟩ := vals1 r
  obtain ⟨⟨o, es, ep, t, h1, h2, h3, h4, h5⟩, _⟩ := I.hok p _ hp
  subst h5
  exact call_len_set h1 h2 h3 h4 (by lia) ⟨.int _, H, I.tok _, ⟨_, rfl⟩, q⟩
end
end L2

/-! own layer, part 34: isinstance of a list or a tuple, and several types -/
namespace L2
open PySem PySem.Spec PyProof.Rows
section
open PySem.W
variable {X : Cx} (K : PySem.W.Frag)
inductive cIsiT (xs : List V) (H : Hp) (Q : VK) : Prop
  | mk (a : _) (t : _) (tp : _) (ys : _) (cs : _) (b : _) (h1 : xs = [.ref a, .ref tp]) (h2 : ((∃ zs, SqT K H a zs) ∧ t = Value.type "tuple" ∨ (∃ zs, SqL K H a zs) ∧ t = Value.type "list")) (h3 : H tp = some (.tup ys)) (h4 : ys.map clsV = cs.map some) (h5 : kitAny K t cs = some b) (h6 : Q (.bl b) H) : cIsiT xs H Q
theorem isiT (e : X.K = K := by rfl) : CallR X (.builtin "isinstance") (cIsiT K) := by
  subst e
  intro pins s σ H xs us Q I r h
  obtain ⟨a, t, tp, ys, cs, b, rfl, ht, htp, hys, hk, q⟩ := h
  obtain ⟨u, w', rfl, rx, ry⟩ := vals2 r
  cases rx
  cases ry
  obtain ⟨_, its, rv, ⟨cc, dd, dt, sl⟩, e1, e2, n, e3⟩ := I.hok tp _ htp
  have e2 : cc = .type "tuple" := e2
  have e3 : dt = .seq its.toArray n := e3
  subst e2 e3
  rw [clsV_rels rv hys] at e1
  rcases ht with ⟨⟨zs, hz⟩, rfl⟩ | ⟨⟨zs, hz⟩, rfl⟩
  · obtain ⟨_, _, ⟨o, o1, o2, _⟩, _⟩ := I.tuple hz
    exact kia_tup kitx_tuple I.kIn ⟨o, o1, o2⟩ e1 hk (fun z => nomatch z) fun tk => ⟨.bl b, H, I.tok _, rfl, q⟩
  · obtain ⟨_, _, ⟨o, _, o1, o2, _⟩, _⟩ := I.list hz
    exact kia_tup kitx_list I.kIn ⟨o, o1, o2⟩ e1 hk (fun z => nomatch z) fun tk => ⟨.bl b, H, I.tok _, rfl, q⟩
theorem kitA_l : kitAny K (.type "list") [.type "list", .type "tuple"] = some true := by kernel_rfl
theorem kitA_t : kitAny K (.type "tuple") [.type "list", .type "tuple"] = some true := by kernel_rfl
end
end L2

/-! own layer, part 35: a list comprehension whose target lies in a cell (another comprehension within closes over it) -/
namespace L2
open PySem PySem.Spec PyProof.Rows

structure CompOkC (X : Cx) (N : List Str) (nt : Nat) (js : List Nat) (scope : Scope) (x : Str) : Prop where
  kind : scope.kind = .function
  split : ∃ pre post, scope.names = pre ++ (x, .cell) :: post ∧ (∀ y ∈ pre, y.2 ≠ .cell) ∧ ∀ y ∈ post, y.2 ≠ .cell
  only : ∀ y ∈ scope.names, y.2 = .cell → y.1 = x
  lx : scope.names.lookup x = some .cell
  names : ∀ y ∈ scope.names, y.2 = .local → scope.names.lookup y.1 = some .local
  free : ∀ y ∈ scope.names, y.2 = .free → X.env.kindOf y.1 = some .cell ∨ X.env.kindOf y.1 = some .free
  len : N.length = nt + js.length
  outer : ∀ j i, js[j]? = some i → ∃ x, N[nt + j]? = some x ∧ X.N[i]? = some x ∧ scope.names.lookup x = some .free

section
variable {X : Cx} {N : List Str} {nt : Nat} {js : List Nat} {scope : Scope} {cl : List (Str × Addr)} {x : Str} {c : Addr}
end

section
variable {X : Cx} {N : List Str} {nt : Nat} {js : List Nat} {scope : Scope} {elt iter tg : Expr} {ifs : List Expr} {pos : Pos} {g : TG} {tc : TT} {te : TE} {wi : TI} {xn : Str}
end

end L2

/-! own layer, part 36: what follows a statement is written once -/
namespace L2
open PySem PySem.Spec PyProof.Rows
@[reducible] def Cl (u : PySem.W.Frag → TS) (K : PySem.W.Frag) : TS := u K
theorem pss_consC {X : Cx} {st : Stmt} {rest : List Stmt} {t v : TS} {K : PySem.W.Frag} {u : PySem.W.Frag → TS} (h1 : PS X st t) (h2 : PSs X rest v) (e : v = u K) : PSs X (st :: rest) (tSeq t (Cl u K)) := by
  subst e; exact pss_cons h1 h2
section
variable {X : Cx} {o e : Expr} {es : List Expr} {to : TE} {t : TA} {name : Str} {apos cpos : Pos} {T id : String} {r : V → List V → Hp → VK → Prop}
theorem pe_bmK0 (K : PySem.W.Frag) (pa : PlainAttrs T) (slot : Slot T name id) (hty : typeOf (.builtin id) = pure (.type "method_descriptor")) (hm : MtR X id r) (ho : PE X o to)
    (hbase : attributeBase o name X.env (eval o X.env) = eval o X.env := by rfl) (hline : (apos.endLine == cpos.line) = true := by rfl) (eK : X.K = K := by rfl) : PE X (.Call (.Attribute o name apos) [] [] cpos) (tBM0 K T r to) := pe_bm0 pa slot hty hm ho hbase hline eK
theorem pe_bmK (K : PySem.W.Frag) (pa : PlainAttrs T) (slot : Slot T name id) (hty : typeOf (.builtin id) = pure (.type "method_descriptor")) (hm : MtR X id r) (ho : PE X o to) (ha : PA X (e :: es) t)
    (hbase : attributeBase o name X.env (eval o X.env) = eval o X.env := by rfl)
    (hfew : ((backTo cpos (starEach (e :: es) X.env)).all (fun x => !x.1) && (backToKw cpos (keywordEach [] X.env)).all (fun x => x.1.isSome)
      && decide ((e :: es).length + ([] : List Keyword).length + (if ([] : List Keyword).isEmpty then 0 else 1) < 30)) = true := by rfl)
    (hline : (apos.endLine == cpos.line) = true := by rfl) (hs : starEach (e :: es) X.env = (false, eval e X.env) :: starEach es X.env := by rfl) (hplain : (backTo cpos (starEach es X.env)).any (·.1) = false := by rfl) (eK : X.K = K := by rfl) :
    PE X (.Call (.Attribute o name apos) (e :: es) [] cpos) (tBM K T r to t) := pe_bm pa slot hty hm ho ha hbase hfew hline hs hplain eK
end
theorem iteTc {c : Bool} {A B : Prop} (e : c = true) (h : A) : if c = true then A else B := by
  rw [if_pos e]; exact h
theorem iteFc {c : Bool} {A B : Prop} (e : c = false) (h : B) : if c = true then A else B := by
  rw [if_neg (by rw [e]; decide)]; exact h
theorem len_succ {α : Type} {l : List α} {n : Nat} (h : l.length = n + 1) : ∃ a r, l = a :: r ∧ r.length = n := by
  cases l with
  | nil => cases h
  | cons a r => exact ⟨a, r, rfl, Nat.succ.inj h⟩
theorem Fun.binds1 {K : PySem.W.Frag} {x qual : Str} {st : Stmt} {f : Addr} {fd : FuncData} (p1 : Str) (F : Fun K x qual st f fd)
    (h : ∀ (kV doc pm : Value) (an : Option Addr) (cdv ct a1 : Value), bindArgs (PySem.W.fnOf x qual (defArgs st) (defBody st) (defScope st) .none kV doc pm an cdv ct) ⟨[a1], []⟩ = pure [(p1, a1)]) : Binds K fd [p1] [] :=
  F.binds fun kV doc pm an cdv ct us l0 => by
    obtain ⟨a1, r1, rfl, l1⟩ := len_succ l0
    cases List.length_eq_zero_iff.mp l1
    exact h kV doc pm an cdv ct a1
theorem Fun.binds2 {K : PySem.W.Frag} {x qual : Str} {st : Stmt} {f : Addr} {fd : FuncData} (p1 p2 : Str) (F : Fun K x qual st f fd)
    (h : ∀ (kV doc pm : Value) (an : Option Addr) (cdv ct a1 a2 : Value), bindArgs (PySem.W.fnOf x qual (defArgs st) (defBody st) (defScope st) .none kV doc pm an cdv ct) ⟨[a1, a2], []⟩ = pure [(p1, a1), (p2, a2)]) : Binds K fd [p1, p2] [] :=
  F.binds fun kV doc pm an cdv ct us l0 => by
    obtain ⟨a1, r1, rfl, l1⟩ := len_succ l0
    obtain ⟨a2, r2, rfl, l2⟩ := len_succ l1
    cases List.length_eq_zero_iff.mp l2
    exact h kV doc pm an cdv ct a1 a2
theorem Fun.binds3 {K : PySem.W.Frag} {x qual : Str} {st : Stmt} {f : Addr} {fd : FuncData} (p1 p2 p3 : Str) (F : Fun K x qual st f fd)
    (h : ∀ (kV doc pm : Value) (an : Option Addr) (cdv ct a1 a2 a3 : Value), bindArgs (PySem.W.fnOf x qual (defArgs st) (defBody st) (defScope st) .none kV doc pm an cdv ct) ⟨[a1, a2, a3], []⟩ = pure [(p1, a1), (p2, a2), (p3, a3)]) : Binds K fd [p1, p2, p3] [] :=
  F.binds fun kV doc pm an cdv ct us l0 => by
    obtain ⟨a1, r1, rfl, l1⟩ := len_succ l0
    obtain ⟨a2, r2, rfl, l2⟩ := len_succ l1
    obtain ⟨a3, r3, rfl, l3⟩ := len_succ l2
    cases List.length_eq_zero_iff.mp l3
    exact h kV doc pm an cdv ct a1 a2 a3
theorem Fun.binds4 {K : PySem.W.Frag} {x qual : Str} {st : Stmt} {f : Addr} {fd : FuncData} (p1 p2 p3 p4 : Str) (F : Fun K x qual st f fd)
    (h : ∀ (kV doc pm : Value) (an : Option Addr) (cdv ct a1 a2 a3 a4 : Value), bindArgs (PySem.W.fnOf x qual (defArgs st) (defBody st) (defScope st) .none kV doc pm an cdv ct) ⟨[a1, a2, a3, a4], []⟩ = pure [(p1, a1), (p2, a2), (p3, a3), (p4, a4)]) : Binds K fd [p1, p2, p3, p4] [] :=
  F.binds fun kV doc pm an cdv ct us l0 => by
    obtain ⟨a1, r1, rfl, l1⟩ := len_succ l0
    obtain ⟨a2, r2, rfl, l2⟩ := len_succ l1
    obtain ⟨a3, r3, rfl, l3⟩ := len_succ l2
    obtain ⟨a4, r4, rfl, l4⟩ := len_succ l3
    cases List.length_eq_zero_iff.mp l4
    exact h kV doc pm an cdv ct a1 a2 a3 a4
@[reducible] def L2 {α1 α2 : Type} {δ : Type} (x1 : α1) (x2 : α2) (u : α1 → α2 → δ) : δ := u x1 x2
@[reducible] def L3 {α1 α2 α3 : Type} {δ : Type} (x1 : α1) (x2 : α2) (x3 : α3) (u : α1 → α2 → α3 → δ) : δ := u x1 x2 x3
@[reducible] def L4 {α1 α2 α3 α4 : Type} {δ : Type} (x1 : α1) (x2 : α2) (x3 : α3) (x4 : α4) (u : α1 → α2 → α3 → α4 → δ) : δ := u x1 x2 x3 x4
@[reducible] def L5 {α1 α2 α3 α4 α5 : Type} {δ : Type} (x1 : α1) (x2 : α2) (x3 : α3) (x4 : α4) (x5 : α5) (u : α1 → α2 → α3 → α4 → α5 → δ) : δ := u x1 x2 x3 x4 x5
@[reducible] def L6 {α1 α2 α3 α4 α5 α6 : Type} {δ : Type} (x1 : α1) (x2 : α2) (x3 : α3) (x4 : α4) (x5 : α5) (x6 : α6) (u : α1 → α2 → α3 → α4 → α5 → α6 → δ) : δ := u x1 x2 x3 x4 x5 x6
@[reducible] def L7 {α1 α2 α3 α4 α5 α6 α7 : Type} {δ : Type} (x1 : α1) (x2 : α2) (x3 : α3) (x4 : α4) (x5 : α5) (x6 : α6) (x7 : α7) (u : α1 → α2 → α3 → α4 → α5 → α6 → α7 → δ) : δ := u x1 x2 x3 x4 x5 x6 x7
@[reducible] def L8 {α1 α2 α3 α4 α5 α6 α7 α8 : Type} {δ : Type} (x1 : α1) (x2 : α2) (x3 : α3) (x4 : α4) (x5 : α5) (x6 : α6) (x7 : α7) (x8 : α8) (u : α1 → α2 → α3 → α4 → α5 → α6 → α7 → α8 → δ) : δ := u x1 x2 x3 x4 x5 x6 x7 x8
@[reducible] def L9 {α1 α2 α3 α4 α5 α6 α7 α8 α9 : Type} {δ : Type} (x1 : α1) (x2 : α2) (x3 : α3) (x4 : α4) (x5 : α5) (x6 : α6) (x7 : α7) (x8 : α8) (x9 : α9) (u : α1 → α2 → α3 → α4 → α5 → α6 → α7 → α8 → α9 → δ) : δ := u x1 x2 x3 x4 x5 x6 x7 x8 x9
@[reducible] def L10 {α1 α2 α3 α4 α5 α6 α7 α8 α9 α10 : Type} {δ : Type} (x1 : α1) (x2 : α2) (x3 : α3) (x4 : α4) (x5 : α5) (x6 : α6) (x7 : α7) (x8 : α8) (x9 : α9) (x10 : α10) (u : α1 → α2 → α3 → α4 → α5 → α6 → α7 → α8 → α9 → α10 → δ) : δ := u x1 x2 x3 x4 x5 x6 x7 x8 x9 x10
@[reducible] def L11 {α1 α2 α3 α4 α5 α6 α7 α8 α9 α10 α11 : Type} {δ : Type} (x1 : α1) (x2 : α2) (x3 : α3) (x4 : α4) (x5 : α5) (x6 : α6) (x7 : α7) (x8 : α8) (x9 : α9) (x10 : α10) (x11 : α11) (u : α1 → α2 → α3 → α4 → α5 → α6 → α7 → α8 → α9 → α10 → α11 → δ) : δ := u x1 x2 x3 x4 x5 x6 x7 x8 x9 x10 x11
@[reducible] def L12 {α1 α2 α3 α4 α5 α6 α7 α8 α9 α10 α11 α12 : Type} {δ : Type} (x1 : α1) (x2 : α2) (x3 : α3) (x4 : α4) (x5 : α5) (x6 : α6) (x7 : α7) (x8 : α8) (x9 : α9) (x10 : α10) (x11 : α11) (x12 : α12) (u : α1 → α2 → α3 → α4 → α5 → α6 → α7 → α8 → α9 → α10 → α11 → α12 → δ) : δ := u x1 x2 x3 x4 x5 x6 x7 x8 x9 x10 x11 x12
@[reducible] def L13 {α1 α2 α3 α4 α5 α6 α7 α8 α9 α10 α11 α12 α13 : Type} {δ : Type} (x1 : α1) (x2 : α2) (x3 : α3) (x4 : α4) (x5 : α5) (x6 : α6) (x7 : α7) (x8 : α8) (x9 : α9) (x10 : α10) (x11 : α11) (x12 : α12) (x13 : α13) (u : α1 → α2 → α3 → α4 → α5 → α6 → α7 → α8 → α9 → α10 → α11 → α12 → α13 → δ) : δ := u x1 x2 x3 x4 x5 x6 x7 x8 x9 x10 x11 x12 x13
@[reducible] def L14 {α1 α2 α3 α4 α5 α6 α7 α8 α9 α10 α11 α12 α13 α14 : Type} {δ : Type} (x1 : α1) (x2 : α2) (x3 : α3) (x4 : α4) (x5 : α5) (x6 : α6) (x7 : α7) (x8 : α8) (x9 : α9) (x10 : α10) (x11 : α11) (x12 : α12) (x13 : α13) (x14 : α14) (u : α1 → α2 → α3 → α4 → α5 → α6 → α7 → α8 → α9 → α10 → α11 → α12 → α13 → α14 → δ) : δ := u x1 x2 x3 x4 x5 x6 x7 x8 x9 x10 x11 x12 x13 x14
@[reducible] def L15 {α1 α2 α3 α4 α5 α6 α7 α8 α9 α10 α11 α12 α13 α14 α15 : Type} {δ : Type} (x1 : α1) (x2 : α2) (x3 : α3) (x4 : α4) (x5 : α5) (x6 : α6) (x7 : α7) (x8 : α8) (x9 : α9) (x10 : α10) (x11 : α11) (x12 : α12) (x13 : α13) (x14 : α14) (x15 : α15) (u : α1 → α2 → α3 → α4 → α5 → α6 → α7 → α8 → α9 → α10 → α11 → α12 → α13 → α14 → α15 → δ) : δ := u x1 x2 x3 x4 x5 x6 x7 x8 x9 x10 x11 x12 x13 x14 x15
@[reducible] def L16 {α1 α2 α3 α4 α5 α6 α7 α8 α9 α10 α11 α12 α13 α14 α15 α16 : Type} {δ : Type} (x1 : α1) (x2 : α2) (x3 : α3) (x4 : α4) (x5 : α5) (x6 : α6) (x7 : α7) (x8 : α8) (x9 : α9) (x10 : α10) (x11 : α11) (x12 : α12) (x13 : α13) (x14 : α14) (x15 : α15) (x16 : α16) (u : α1 → α2 → α3 → α4 → α5 → α6 → α7 → α8 → α9 → α10 → α11 → α12 → α13 → α14 → α15 → α16 → δ) : δ := u x1 x2 x3 x4 x5 x6 x7 x8 x9 x10 x11 x12 x13 x14 x15 x16
@[reducible] def L17 {α1 α2 α3 α4 α5 α6 α7 α8 α9 α10 α11 α12 α13 α14 α15 α16 α17 : Type} {δ : Type} (x1 : α1) (x2 : α2) (x3 : α3) (x4 : α4) (x5 : α5) (x6 : α6) (x7 : α7) (x8 : α8) (x9 : α9) (x10 : α10) (x11 : α11) (x12 : α12) (x13 : α13) (x14 : α14) (x15 : α15) (x16 : α16) (x17 : α17) (u : α1 → α2 → α3 → α4 → α5 → α6 → α7 → α8 → α9 → α10 → α11 → α12 → α13 → α14 → α15 → α16 → α17 → δ) : δ := u x1 x2 x3 x4 x5 x6 x7 x8 x9 x10 x11 x12 x13 x14 x15 x16 x17
@[reducible] def L18 {α1 α2 α3 α4 α5 α6 α7 α8 α9 α10 α11 α12 α13 α14 α15 α16 α17 α18 : Type} {δ : Type} (x1 : α1) (x2 : α2) (x3 : α3) (x4 : α4) (x5 : α5) (x6 : α6) (x7 : α7) (x8 : α8) (x9 : α9) (x10 : α10) (x11 : α11) (x12 : α12) (x13 : α13) (x14 : α14) (x15 : α15) (x16 : α16) (x17 : α17) (x18 : α18) (u : α1 → α2 → α3 → α4 → α5 → α6 → α7 → α8 → α9 → α10 → α11 → α12 → α13 → α14 → α15 → α16 → α17 → α18 → δ) : δ := u x1 x2 x3 x4 x5 x6 x7 x8 x9 x10 x11 x12 x13 x14 x15 x16 x17 x18
@[reducible] def L19 {α1 α2 α3 α4 α5 α6 α7 α8 α9 α10 α11 α12 α13 α14 α15 α16 α17 α18 α19 : Type} {δ : Type} (x1 : α1) (x2 : α2) (x3 : α3) (x4 : α4) (x5 : α5) (x6 : α6) (x7 : α7) (x8 : α8) (x9 : α9) (x10 : α10) (x11 : α11) (x12 : α12) (x13 : α13) (x14 : α14) (x15 : α15) (x16 : α16) (x17 : α17) (x18 : α18) (x19 : α19) (u : α1 → α2 → α3 → α4 → α5 → α6 → α7 → α8 → α9 → α10 → α11 → α12 → α13 → α14 → α15 → α16 → α17 → α18 → α19 → δ) : δ := u x1 x2 x3 x4 x5 x6 x7 x8 x9 x10 x11 x12 x13 x14 x15 x16 x17 x18 x19
@[reducible] def L20 {α1 α2 α3 α4 α5 α6 α7 α8 α9 α10 α11 α12 α13 α14 α15 α16 α17 α18 α19 α20 : Type} {δ : Type} (x1 : α1) (x2 : α2) (x3 : α3) (x4 : α4) (x5 : α5) (x6 : α6) (x7 : α7) (x8 : α8) (x9 : α9) (x10 : α10) (x11 : α11) (x12 : α12) (x13 : α13) (x14 : α14) (x15 : α15) (x16 : α16) (x17 : α17) (x18 : α18) (x19 : α19) (x20 : α20) (u : α1 → α2 → α3 → α4 → α5 → α6 → α7 → α8 → α9 → α10 → α11 → α12 → α13 → α14 → α15 → α16 → α17 → α18 → α19 → α20 → δ) : δ := u x1 x2 x3 x4 x5 x6 x7 x8 x9 x10 x11 x12 x13 x14 x15 x16 x17 x18 x19 x20
@[reducible] def L21 {α1 α2 α3 α4 α5 α6 α7 α8 α9 α10 α11 α12 α13 α14 α15 α16 α17 α18 α19 α20 α21 : Type} {δ : Type} (x1 : α1) (x2 : α2) (x3 : α3) (x4 : α4) (x5 : α5) (x6 : α6) (x7 : α7) (x8 : α8) (x9 : α9) (x10 : α10) (x11 : α11) (x12 : α12) (x13 : α13) (x14 : α14) (x15 : α15) (x16 : α16) (x17 : α17) (x18 : α18) (x19 : α19) (x20 : α20) (x21 : α21) (u : α1 → α2 → α3 → α4 → α5 → α6 → α7 → α8 → α9 → α10 → α11 → α12 → α13 → α14 → α15 → α16 → α17 → α18 → α19 → α20 → α21 → δ) : δ := u x1 x2 x3 x4 x5 x6 x7 x8 x9 x10 x11 x12 x13 x14 x15 x16 x17 x18 x19 x20 x21
@[reducible] def L22 {α1 α2 α3 α4 α5 α6 α7 α8 α9 α10 α11 α12 α13 α14 α15 α16 α17 α18 α19 α20 α21 α22 : Type} {δ : Type} (x1 : α1) (x2 : α2) (x3 : α3) (x4 : α4) (x5 : α5) (x6 : α6) (x7 : α7) (x8 : α8) (x9 : α9) (x10 : α10) (x11 : α11) (x12 : α12) (x13 : α13) (x14 : α14) (x15 : α15) (x16 : α16) (x17 : α17) (x18 : α18) (x19 : α19) (x20 : α20) (x21 : α21) (x22 : α22) (u : α1 → α2 → α3 → α4 → α5 → α6 → α7 → α8 → α9 → α10 → α11 → α12 → α13 → α14 → α15 → α16 → α17 → α18 → α19 → α20 → α21 → α22 → δ) : δ := u x1 x2 x3 x4 x5 x6 x7 x8 x9 x10 x11 x12 x13 x14 x15 x16 x17 x18 x19 x20 x21 x22
@[reducible] def L23 {α1 α2 α3 α4 α5 α6 α7 α8 α9 α10 α11 α12 α13 α14 α15 α16 α17 α18 α19 α20 α21 α22 α23 : Type} {δ : Type} (x1 : α1) (x2 : α2) (x3 : α3) (x4 : α4) (x5 : α5) (x6 : α6) (x7 : α7) (x8 : α8) (x9 : α9) (x10 : α10) (x11 : α11) (x12 : α12) (x13 : α13) (x14 : α14) (x15 : α15) (x16 : α16) (x17 : α17) (x18 : α18) (x19 : α19) (x20 : α20) (x21 : α21) (x22 : α22) (x23 : α23) (u : α1 → α2 → α3 → α4 → α5 → α6 → α7 → α8 → α9 → α10 → α11 → α12 → α13 → α14 → α15 → α16 → α17 → α18 → α19 → α20 → α21 → α22 → α23 → δ) : δ := u x1 x2 x3 x4 x5 x6 x7 x8 x9 x10 x11 x12 x13 x14 x15 x16 x17 x18 x19 x20 x21 x22 x23
@[reducible] def L24 {α1 α2 α3 α4 α5 α6 α7 α8 α9 α10 α11 α12 α13 α14 α15 α16 α17 α18 α19 α20 α21 α22 α23 α24 : Type} {δ : Type} (x1 : α1) (x2 : α2) (x3 : α3) (x4 : α4) (x5 : α5) (x6 : α6) (x7 : α7) (x8 : α8) (x9 : α9) (x10 : α10) (x11 : α11) (x12 : α12) (x13 : α13) (x14 : α14) (x15 : α15) (x16 : α16) (x17 : α17) (x18 : α18) (x19 : α19) (x20 : α20) (x21 : α21) (x22 : α22) (x23 : α23) (x24 : α24) (u : α1 → α2 → α3 → α4 → α5 → α6 → α7 → α8 → α9 → α10 → α11 → α12 → α13 → α14 → α15 → α16 → α17 → α18 → α19 → α20 → α21 → α22 → α23 → α24 → δ) : δ := u x1 x2 x3 x4 x5 x6 x7 x8 x9 x10 x11 x12 x13 x14 x15 x16 x17 x18 x19 x20 x21 x22 x23 x24
theorem ps_ifC {X : Cx} {c : Expr} {a b : List Stmt} {pos : Pos} {tc : TT} {v1 v2 : TS} {K : PySem.W.Frag} {u1 u2 : PySem.W.Frag → TS} (hc : PT X c tc) (ha : PSs X a v1) (hb : PSs X b v2) (e1 : v1 = u1 K) (e2 : v2 = u2 K) : PS X (.If c a b pos) (tIfS tc (Cl u1 K) (Cl u2 K)) := by
  subst e1; subst e2; exact ps_if hc ha hb
theorem ps_forC {X : Cx} {tg iter : Expr} {body : List Stmt} {wi : TI} {g : TG} {v : TS} {pos : Pos} {K : PySem.W.Frag} {u : PySem.W.Frag → TS} (hp : PassesOwn (model X.prog X.w) X.A X.env X.xe) (hc : X.calm = true) (hi : PI X tg iter wi) (hg : PG X tg g) (hb : PSs X body v) (e : v = u K)
    (hs : ∀ x, foldedSetIterable iter X.env x = pure x := by intro _; rfl) : PS X (.For tg iter body [] pos) (tFor wi g (Cl u K)) := by
  subst e; exact ps_for hp hc hi hg hb hs
/-! ### what lia would say, said once -/
theorem nat_diff {a b c d : Nat} (h1 : a = c) (h2 : b = d) : ((a : Int) - (b : Int)).toNat = c - d := by rw [h1, h2]; exact Int.toNat_sub c d
theorem nat_pred {a b : Nat} (h : a = b) : ((a : Int) - 1).toNat = b - 1 := nat_diff (b := 1) h rfl
theorem nat_sum1' {a b c d : Nat} (h1 : a = c) (h2 : b = d) (_h : 1 ≤ d) : ((a : Int) + (b : Int) - 1).toNat = c + d - 1 := by
  rw [h1, h2, ← Int.natCast_add]
  exact nat_pred rfl
theorem nat_sum1 {a b : Nat} (h : 1 ≤ b) : ((a : Int) + (b : Int) - 1).toNat = a + b - 1 := nat_sum1' rfl rfl h
theorem nat_sumle {a b m : Nat} (h1 : a ≤ m) (h2 : b ≤ m) : ((a : Int) + (b : Int) - 1).toNat ≤ 2 * m := by
  rw [← Int.natCast_add, nat_pred rfl, Nat.two_mul]
  exact Nat.le_trans (Nat.sub_le _ _) (Nat.add_le_add h1 h2)
theorem nat_back {a b i : Nat} (h : a = b) (hi : i < b) : (a : Int) - 1 - (i : Int) = ((b - 1 - i : Nat) : Int) := by
  rw [h, Int.ofNat_sub (show i ≤ b - 1 from Nat.le_pred_of_lt hi), Int.ofNat_sub (show 1 ≤ b from Nat.lt_of_le_of_lt (Nat.zero_le i) hi)]
  rfl
theorem nat_lt {b i : Nat} (hi : i < b) : b - 1 - i < b := Nat.lt_of_le_of_lt (Nat.sub_le _ _) (Nat.sub_lt (Nat.lt_of_le_of_lt (Nat.zero_le i) hi) Nat.one_pos)
theorem nat_all {a b : Nat} (h : a = b) : ((a : Int) - 1 - -1).toNat = b := by
  rw [h, Int.sub_neg, Int.sub_add_cancel]
  exact Int.toNat_natCast b
theorem nat_204 {a k m t b : Nat} (ha : a ≤ 200) (hk : k < m - 1) (hm : m = 2 ∨ m = 3) (e : a = t) : t + min k b ≤ 204 := by
  rw [← e]
  have h4 : k ≤ 4 := by
    rcases hm with rfl | rfl
    · exact Nat.le_trans (Nat.le_of_lt hk) (by decide)
    · exact Nat.le_trans (Nat.le_of_lt hk) (by decide)
  exact Nat.add_le_add ha (Nat.le_trans (Nat.min_le_left _ _) h4)
theorem nat_300 {a m : Nat} (ha : a ≤ 200) (hm : m = 2 ∨ m = 3) : a + (m - 1) * 1 ≤ 300 := by
  rcases hm with rfl | rfl
  · exact Nat.le_trans (Nat.add_le_add_right ha _) (by decide)
  · exact Nat.le_trans (Nat.add_le_add_right ha _) (by decide)
theorem nat_two {a m : Nat} (h : a = m) (hm : m = 2 ∨ m = 3) : ((a : Int) - 1).toNat ≤ 2 := by
  rw [nat_pred h]
  rcases hm with rfl | rfl <;> decide
theorem nat_ms {ks ss A k ms : Nat} (hs : ss ≤ ks) (hA : A = ks - ss) (hk : k < ss) (hm : ms = A + k + 1) : ms ≤ ks := by
  rw [hm, Nat.add_assoc]
  exact Nat.le_trans (Nat.add_le_add_left hk A) (by rw [hA, Nat.sub_add_cancel hs]; exact Nat.le_refl _)
theorem nat_d9 {ks ss A k ms fs D : Nat} (h8 : ks ≤ 8) (hs : ss ≤ ks) (hA : A = ks - ss) (hk : k < ss) (hm : ms = A + k + 1) (hD : D = ms - fs) : D ≤ 9 := by
  rw [hD]
  exact Nat.le_trans (Nat.sub_le _ _) (Nat.le_trans (nat_ms hs hA hk hm) (Nat.le_trans h8 (by decide)))
theorem nat_len {ks ss A k ms fs D g : Nat} (h8 : ks ≤ 8) (hs : ss ≤ ks) (hA : A = ks - ss) (hk : k < ss) (hm : ms = A + k + 1) (h9 : fs ≤ 9) (hD : D = ms - fs) (hg : g = fs + D) : ms ≤ g ∧ g ≤ 9 := by
  have h := Nat.le_trans (nat_ms hs hA hk hm) (Nat.le_trans h8 (by decide : 8 ≤ 9))
  rw [hg, hD]
  rcases Nat.le_total fs ms with z | z
  · rw [Nat.add_sub_cancel' z]; exact ⟨Nat.le_refl _, h⟩
  · rw [Nat.sub_eq_zero_of_le z]; exact ⟨z, h9⟩
theorem nat_rest {ks ss A : Nat} (hs : ss ≤ ks) (hA : A = ks - ss) : ks - A ≤ ss := by rw [hA, Nat.sub_sub_self hs]; exact Nat.le_refl _
theorem nat_sub_int {a b c d A : Nat} (h1 : a = c) (h2 : b = d) (hs : d ≤ c) (hA : A = c - d) : (a : Int) - (b : Int) = ((A : Nat) : Int) := by rw [h1, h2, hA, Int.ofNat_sub hs]
theorem nat_ij {i j a b n : Nat} (hi : i < a) (hj : j < b) (h : n = a + b - 1) : i + j < n := by
  rw [h]
  refine Nat.lt_sub_of_add_lt ?_
  rw [Nat.add_right_comm]
  exact Nat.add_lt_add_of_le_of_lt hi hj
end L2

namespace Pf
open PySem L2
def top (i : Nat) : Stmt := PySem.Challenge.pw_onecurve_k27_steps_that_come.main.body.getD i (.Pass ⟨0, 0, 0, 0⟩)
theorem exE1 {a1 : Type} {p : a1 → Prop} {G : Prop} (h : ∃ x1, p x1) (f : ∀ x1, p x1 → G) : G := Exists.elim h f
theorem exE2 {a1 a2 : Type} {p : a1 → a2 → Prop} {G : Prop} (h : ∃ x1 x2, p x1 x2) (f : ∀ x1 x2, p x1 x2 → G) : G := Exists.elim h fun x1 h => exE1 h (f x1)
theorem exE3 {a1 a2 a3 : Type} {p : a1 → a2 → a3 → Prop} {G : Prop} (h : ∃ x1 x2 x3, p x1 x2 x3) (f : ∀ x1 x2 x3, p x1 x2 x3 → G) : G := Exists.elim h fun x1 h => exE2 h (f x1)
theorem exE4 {a1 a2 a3 a4 : Type} {p : a1 → a2 → a3 → a4 → Prop} {G : Prop} (h : ∃ x1 x2 x3 x4, p x1 x2 x3 x4) (f : ∀ x1 x2 x3 x4, p x1 x2 x3 x4 → G) : G := Exists.elim h fun x1 h => exE3 h (f x1)
theorem exE5 {a1 a2 a3 a4 a5 : Type} {p : a1 → a2 → a3 → a4 → a5 → Prop} {G : Prop} (h : ∃ x1 x2 x3 x4 x5, p x1 x2 x3 x4 x5) (f : ∀ x1 x2 x3 x4 x5, p x1 x2 x3 x4 x5 → G) : G := Exists.elim h fun x1 h => exE4 h (f x1)
theorem exE6 {a1 a2 a3 a4 a5 a6 : Type} {p : a1 → a2 → a3 → a4 → a5 → a6 → Prop} {G : Prop} (h : ∃ x1 x2 x3 x4 x5 x6, p x1 x2 x3 x4 x5 x6) (f : ∀ x1 x2 x3 x4 x5 x6, p x1 x2 x3 x4 x5 x6 → G) : G := Exists.elim h fun x1 h => exE5 h (f x1)
theorem exE7 {a1 a2 a3 a4 a5 a6 a7 : Type} {p : a1 → a2 → a3 → a4 → a5 → a6 → a7 → Prop} {G : Prop} (h : ∃ x1 x2 x3 x4 x5 x6 x7, p x1 x2 x3 x4 x5 x6 x7) (f : ∀ x1 x2 x3 x4 x5 x6 x7, p x1 x2 x3 x4 x5 x6 x7 → G) : G := Exists.elim h fun x1 h => exE6 h (f x1)
theorem exE8 {a1 a2 a3 a4 a5 a6 a7 a8 : Type} {p : a1 → a2 → a3 → a4 → a5 → a6 → a7 → a8 → Prop} {G : Prop} (h : ∃ x1 x2 x3 x4 x5 x6 x7 x8, p x1 x2 x3 x4 x5 x6 x7 x8) (f : ∀ x1 x2 x3 x4 x5 x6 x7 x8, p x1 x2 x3 x4 x5 x6 x7 x8 → G) : G := Exists.elim h fun x1 h => exE7 h (f x1)
theorem anE2 {A1 A2 G : Prop} (h : A1 ∧ A2) (f : A1 → A2 → G) : G := f h.1 h.2
theorem anE3 {A1 A2 A3 G : Prop} (h : A1 ∧ A2 ∧ A3) (f : A1 → A2 → A3 → G) : G := anE2 h.2 (f h.1)
theorem anE4 {A1 A2 A3 A4 G : Prop} (h : A1 ∧ A2 ∧ A3 ∧ A4) (f : A1 → A2 → A3 → A4 → G) : G := anE3 h.2 (f h.1)
theorem anE5 {A1 A2 A3 A4 A5 G : Prop} (h : A1 ∧ A2 ∧ A3 ∧ A4 ∧ A5) (f : A1 → A2 → A3 → A4 → A5 → G) : G := anE4 h.2 (f h.1)
theorem anE6 {A1 A2 A3 A4 A5 A6 G : Prop} (h : A1 ∧ A2 ∧ A3 ∧ A4 ∧ A5 ∧ A6) (f : A1 → A2 → A3 → A4 → A5 → A6 → G) : G := anE5 h.2 (f h.1)
theorem anE7 {A1 A2 A3 A4 A5 A6 A7 G : Prop} (h : A1 ∧ A2 ∧ A3 ∧ A4 ∧ A5 ∧ A6 ∧ A7) (f : A1 → A2 → A3 → A4 → A5 → A6 → A7 → G) : G := anE6 h.2 (f h.1)
theorem anE8 {A1 A2 A3 A4 A5 A6 A7 A8 G : Prop} (h : A1 ∧ A2 ∧ A3 ∧ A4 ∧ A5 ∧ A6 ∧ A7 ∧ A8) (f : A1 → A2 → A3 → A4 → A5 → A6 → A7 → A8 → G) : G := anE7 h.2 (f h.1)
theorem anE9 {A1 A2 A3 A4 A5 A6 A7 A8 A9 G : Prop} (h : A1 ∧ A2 ∧ A3 ∧ A4 ∧ A5 ∧ A6 ∧ A7 ∧ A8 ∧ A9) (f : A1 → A2 → A3 → A4 → A5 → A6 → A7 → A8 → A9 → G) : G := anE8 h.2 (f h.1)
theorem anE10 {A1 A2 A3 A4 A5 A6 A7 A8 A9 A10 G : Prop} (h : A1 ∧ A2 ∧ A3 ∧ A4 ∧ A5 ∧ A6 ∧ A7 ∧ A8 ∧ A9 ∧ A10) (f : A1 → A2 → A3 → A4 → A5 → A6 → A7 → A8 → A9 → A10 → G) : G := anE9 h.2 (f h.1)
theorem anE11 {A1 A2 A3 A4 A5 A6 A7 A8 A9 A10 A11 G : Prop} (h : A1 ∧ A2 ∧ A3 ∧ A4 ∧ A5 ∧ A6 ∧ A7 ∧ A8 ∧ A9 ∧ A10 ∧ A11) (f : A1 → A2 → A3 → A4 → A5 → A6 → A7 → A8 → A9 → A10 → A11 → G) : G := anE10 h.2 (f h.1)
/-- the top of a number over a common bottom -/
def topOf (B : Int) (q : Rat) : Int := q.num * B.fdiv q.den
theorem topOf_rat {B : Int} {q : Rat} (h : (q.den : Int) ∣ B) : ((topOf B q : Int) : Rat) = q * (B : Rat) := by
  obtain ⟨k, rfl⟩ := h
  have e : (((q.den : Int) * k).fdiv (q.den : Int)) = k := Int.mul_fdiv_cancel_left _ (Nm.den_ne q)
  unfold topOf
  rw [e, Rat.intCast_mul, Rat.intCast_mul, Nm.num_mul q]
  grind
inductive spBot (K : PySem.W.Frag) (vs : List V) (H : Hp) (Q : VK) (E_3 : XK) : Prop
  | mk (b : Bool) (r : Addr) (xs : List V) (qs : List Rat) (n : Nat) (h1 : vs = [.ref r]) (h2 : Sq b K H r xs) (h3 : Nums K H xs qs) (h4 : (∀ q ∈ qs, Bd n (q.den : Int))) (h5 : n * (qs.length + 2) ≤ 60000000) (h6 : ∀ B : Int, 0 < B → (∀ q ∈ qs, (q.den : Int) ∣ B) → Bd (n * qs.length + 1) B → Q (.int B) H) : spBot K vs H Q E_3
inductive spTops (K : PySem.W.Frag) (vs : List V) (H : Hp) (Q : VK) (E_3 : XK) : Prop
  | mk (b : Bool) (r : Addr) (xs : List V) (qs : List Rat) (B : Int) (m n : Nat) (h1 : vs = [.ref r, .int B]) (h2 : Sq b K H r xs) (h3 : Nums K H xs qs) (h4 : Bd m B) (h5 : (∀ q ∈ qs, Bd n q.num)) (h6 : m + n ≤ 134217728) (h7 : qs.length ≤ 1000) (h8 : ∀ p, H p = none → Q (.ref p) (upd H p (.lst ((qs.map (topOf B)).map V.int)))) : spTops K vs H Q E_3
inductive spCurveOf (K : PySem.W.Frag) (vs : List V) (H : Hp) (Q : VK) (E_3 : XK) : Prop
  | mk (r : Addr) (xs : List V) (qs : List Rat) (h1 : vs = [.ref r]) (h2 : SqL K H r xs) (h3 : Nums K H xs qs) (h4 : qs.length ≤ 1000) (h5 : ∀ p H', Same H H' → Crv K H' p (Cv.strip qs) → Q (.ref p) H') : spCurveOf K vs H Q E_3
theorem lcm_step {b d : Int} (hb : 0 < b) (hd : 0 < d) : 0 < b * d.fdiv (Int.gcd b d : Int) ∧ b ∣ b * d.fdiv (Int.gcd b d : Int) ∧ d ∣ b * d.fdiv (Int.gcd b d : Int) := by
  have g0 : (0 : Int) < (Int.gcd b d : Int) := by have := Nm.gcd_pos (a := b) (b := d) (by lia); lia
  obtain ⟨k, hk⟩ : (Int.gcd b d : Int) ∣ d := Int.gcd_dvd_right ..
  obtain ⟨j, hj⟩ : (Int.gcd b d : Int) ∣ b := Int.gcd_dvd_left ..
  generalize (Int.gcd b d : Int) = g at *
  subst hk
  subst hj
  have e : (g * k).fdiv g = k := Int.mul_fdiv_cancel_left _ (by lia)
  rw [e]
  have hk0 : 0 < k := by
    rcases Int.lt_trichotomy k 0 with z | z | z
    · have : g * k < 0 := Int.mul_neg_of_pos_of_neg g0 z
      lia
    · rw [z, Int.mul_zero] at hd; lia
    · exact z
  exact ⟨Int.mul_pos hb hk0, ⟨k, rfl⟩, ⟨j, by grind⟩⟩

/-- the product of two lists of tops: what it comes to, how long it is, how great its tops are -/
inductive spProd (K : PySem.W.Frag) (vs : List V) (H : Hp) (Q : VK) (E_3 : XK) : Prop
  | mk (f g : Addr) (fs gs : List Int) (m n : Nat) (h1 : vs = [.ref f, .ref g]) (h2 : SqL K H f (fs.map V.int)) (h3 : SqL K H g (gs.map V.int)) (h4 : 1 ≤ gs.length) (h5 : fs.length ≤ 1000) (h6 : gs.length ≤ 1000) (h7 : (∀ t ∈ fs, Bd m t)) (h8 : (∀ t ∈ gs, Bd n t)) (h9 : m + n ≤ 60000000) (h10 : ∀ (p : Addr) (H' : Hp) (ps : List Int), Same H H' → H p = none → H' p = some (.lst (ps.map V.int)) → ps.length = fs.length + gs.length - 1 → (∀ x, Cv.evI ps x = Cv.evI fs x * Cv.evI gs x) → (∀ t ∈ ps, Bd (m + n + 20) t) → Q (.ref p) H') : spProd K vs H Q E_3
inductive spCurveOver (K : PySem.W.Frag) (vs : List V) (H : Hp) (Q : VK) (E_3 : XK) : Prop
  | mk (l : Addr) (ts : List Int) (b : Int) (h1 : vs = [.ref l, .int b]) (h2 : SqL K H l (ts.map V.int)) (h3 : b ≠ 0) (h4 : ts.length ≤ 1000) (h5 : ∀ p H', Same H H' → Crv K H' p (Cv.strip (ts.map fun t => Rat.divInt t b)) → Q (.ref p) H') : spCurveOver K vs H Q E_3
def slopeL (qs : List Rat) : List Rat := (List.range (qs.length - 1)).map fun j => qs.getD (j + 1) 0 * ((j + 1 : Nat) : Rat)
/-- what knots and steps come to -/
def newton : List Rat → List Rat → Rat → Rat
  | k :: ks, s :: ss, x => s + (x - k) * newton ks ss x
  | _, _, _ => 0
inductive spBySteps (K : PySem.W.Frag) (vs : List V) (H : Hp) (Q : VK) (E_3 : XK) : Prop
  | mk (rk rst : Addr) (xs ys : List V) (ks ss : List Rat) (n : Nat) (h1 : vs = [.ref rk, .ref rst]) (h2 : SqL K H rk xs) (h3 : Nums K H xs ks) (h4 : SqL K H rst ys) (h5 : Nums K H ys ss) (h6 : ks.length = ss.length) (h7 : ks.length ≤ 12) (h8 : (∀ q ∈ ks, RB n q)) (h9 : (∀ q ∈ ss, RB n q)) (h10 : n ≤ 2048000) (h11 : ∀ p H' cs, Same H H' → Crv K H' p cs → cs.length ≤ ks.length → Good cs → (∀ q ∈ cs, RB (2 * (n * ks.length) + 21 * ks.length + 2 * n + 30) q) → (∀ x, Cv.ev cs x = newton ks ss x) → Q (.ref p) H') : spBySteps K vs H Q E_3
theorem evI_line (c x : Rat) : Cv.evI [-c.num, (c.den : Int)] x = (x - c) * ((c.den : Int) : Rat) := by
  show ((-c.num : Int) : Rat) + x * (((c.den : Int) : Rat) + x * 0) = _
  rw [Rat.intCast_neg, Nm.num_mul c]
  grind

theorem over_eq (p q : Rat) (hq : q ≠ 0) : Rat.divInt (p.num * q.den) (p.den * q.num) = p / q := by
  have hn : q.num ≠ 0 := fun z => hq (Rat.num_eq_zero.mp z)
  apply Nm.div_eq (Int.mul_ne_zero (Nm.den_ne p) hn)
  rw [Rat.intCast_mul, Rat.intCast_mul, Nm.num_mul p, Nm.num_mul q]
  have e : p / q * q = p := Rat.div_mul_cancel hq
  have h : p / q * (((p.den : Int) : Rat) * (q * ((q.den : Int) : Rat))) = (p / q * q) * (((p.den : Int) : Rat) * ((q.den : Int) : Rat)) := by grind
  rw [h, e]
  grind
inductive spOver (K : PySem.W.Frag) (vs : List V) (H : Hp) (Q : VK) (E_3 : XK) : Prop
  | mk (x y : V) (p q : Rat) (m n : Nat) (h1 : vs = [x, y]) (h2 : NumV K H x p) (h3 : NumV K H y q) (h4 : q ≠ 0) (h5 : RB m p) (h6 : RB n q) (h7 : m + n ≤ 100000000) (h8 : ∀ r, H r = none → Q (.ref r) (upd H r (nT (p / q)))) : spOver K vs H Q E_3
theorem RB.over {m n : Nat} {p q : Rat} (h1 : RB m p) (h2 : RB n q) (hq : q ≠ 0) : RB (m + n) (p / q) := by
  have hn : q.num ≠ 0 := fun z => hq (Rat.num_eq_zero.mp z)
  rw [← over_eq p q hq]
  exact ⟨Bd.num (h1.1.mul h2.2), Bd.den (Int.mul_ne_zero (Nm.den_ne p) hn) (h1.2.mul h2.1)⟩
/-- the told numbers of a point, of points -/
def tellP (ps : List Rat) : List Told := (List.range (ps.length - 1)).map fun k : Nat => (⟨ps.getD 0 0, (k : Int), ps.getD (k + 1) 0⟩ : Told)
def tell (pss : List (List Rat)) : List Told := (pss.map tellP).flatten
theorem tellP_length (ps : List Rat) : (tellP ps).length = ps.length - 1 := by unfold tellP; rw [List.length_map, List.length_range]
theorem tell_snoc (pss : List (List Rat)) (ps : List Rat) : tell (pss ++ [ps]) = tell pss ++ tellP ps := by
  unfold tell
  rw [List.map_append, List.flatten_append]
  simp
theorem tell_length_le : ∀ pss : List (List Rat), (∀ ps ∈ pss, ps.length ≤ 3) → (tell pss).length ≤ 2 * pss.length
  | [], _ => Nat.le_refl _
  | p :: r, h => by
    have ih := tell_length_le r fun ps hp => h ps (List.mem_cons_of_mem _ hp)
    have hp := h p List.mem_cons_self
    have e : tell (p :: r) = tellP p ++ tell r := rfl
    rw [e, List.length_append, tellP_length, List.length_cons]
    lia
def P23 (pss : List (List Rat)) : Prop := ∀ ps ∈ pss, ps.length = 2 ∨ ps.length = 3
theorem P23.take {pss : List (List Rat)} (h : P23 pss) (i : Nat) : ∀ ps ∈ pss.take i, ps.length ≤ 3 := fun ps hp => by
  have := h ps (List.mem_of_mem_take hp); lia
theorem getD_some {l : List Rat} {i : Nat} (h : i < l.length) : l[i]? = some (l.getD i 0) := by rw [List.getD_eq_getElem?_getD, List.getElem?_eq_getElem h]; rfl

/-- how many are no less than x -/
def cnt (x : Rat) : List Rat → Nat
  | [] => 0
  | y :: r => (if x ≤ y then 1 else 0) + cnt x r
theorem cnt_le (x : Rat) : ∀ l, cnt x l ≤ l.length
  | [] => Nat.le_refl _
  | y :: r => by
    have := cnt_le x r
    show (if x ≤ y then 1 else 0) + cnt x r ≤ r.length + 1
    split <;> lia
theorem rat_up (x : Rat) : x ≤ x + 1 := by grind
theorem rat_no (x : Rat) : ¬ x + 1 ≤ x := by grind
theorem cnt_next (x : Rat) : ∀ l, cnt (x + 1) l ≤ cnt x l
  | [] => Nat.le_refl _
  | y :: r => by
    have := cnt_next x r
    show (if x + 1 ≤ y then 1 else 0) + cnt (x + 1) r ≤ (if x ≤ y then 1 else 0) + cnt x r
    by_cases h : x + 1 ≤ y
    · rw [if_pos h, if_pos (Rat.le_trans (rat_up x) h)]; lia
    · rw [if_neg h]; lia
theorem cnt_lt {x : Rat} : ∀ {l}, x ∈ l → cnt (x + 1) l < cnt x l
  | y :: r, h => by
    show (if x + 1 ≤ y then 1 else 0) + cnt (x + 1) r < (if x ≤ y then 1 else 0) + cnt x r
    rcases List.mem_cons.mp h with z | z
    · subst z
      have := cnt_next x r
      rw [if_neg (rat_no x), if_pos Rat.le_refl]; lia
    · have := cnt_lt z
      by_cases h : x + 1 ≤ y
      · rw [if_pos h, if_pos (Rat.le_trans (rat_up x) h)]; lia
      · rw [if_neg h]; lia
theorem rb_nat {j : Nat} (h : j ≤ 100) : RB 7 ((j : Nat) : Rat) := ⟨by rw [Rat.num_natCast]; unfold Bd; lia, by rw [Rat.den_natCast]; unfold Bd; decide⟩

inductive spPlacesT (K : PySem.W.Frag) (n : Nat) (vs : List V) (H : Hp) (Q : VK) (E_3 : XK) : Prop
  | mk (a : Addr) (m : Int) (h1 : vs = [.ref a, .int m]) (h2 : Pen H a) (h3 : 0 ≤ m) (h4 : m ≤ 100) (h5 : ∀ (l : Addr) (H' : Hp) (zs : List V) (qs : List Rat), Mv a H H' → Pen H' a → H l = none → H' l = some (.lst zs) → NumsT H' zs qs → (qs.length : Int) = m → qs.Nodup → (∀ q ∈ qs, RB (n + 8) q) → Q (.ref l) H') : spPlacesT K n vs H Q E_3
inductive spPointsT (K : PySem.W.Frag) (n : Nat) (vs : List V) (H : Hp) (Q : VK) (E_3 : XK) : Prop
  | mk (a : Addr) (most : Int) (h1 : vs = [.ref a, .int most]) (h2 : Pen H a) (h3 : 1 ≤ most) (h4 : most ≤ 100) (h5 : ∀ (r : Addr) (H' : Hp) (xs : List V) (pss : List (List Rat)), Mv a H H' → Pen H' a → SqT K H' r xs → PtsT K H' xs pss → P23 pss → (∀ ps ∈ pss, ∀ q ∈ ps, RB (n + 8) q) → 1 ≤ pss.length → (pss.length : Int) ≤ most → ((tell pss).length : Int) ≤ most → (pss.map fun ps => ps.getD 0 0).Nodup → Q (.ref r) H') : spPointsT K n vs H Q E_3
inductive spToldT (K : PySem.W.Frag) (vs : List V) (H : Hp) (Q : VK) (E_3 : XK) : Prop
  | mk (r : Addr) (xs : List V) (pss : List (List Rat)) (h1 : vs = [.ref r]) (h2 : SqT K H r xs) (h3 : PtsT K H xs pss) (h4 : P23 pss) (h5 : pss.length ≤ 100) (h6 : ∀ (p : Addr) (H' : Hp) (ys : List V), Same H H' → H p = none → H' p = some (.lst ys) → TlsT K H' ys (tell pss) → Q (.ref p) H') : spToldT K vs H Q E_3
inductive spKnotsT (K : PySem.W.Frag) (vs : List V) (H : Hp) (Q : VK) (E_3 : XK) : Prop
  | mk (r : Addr) (xs : List V) (pss : List (List Rat)) (h1 : vs = [.ref r]) (h2 : SqT K H r xs) (h3 : PtsT K H xs pss) (h4 : P23 pss) (h5 : pss.length ≤ 100) (h6 : ∀ (p : Addr) (H' : Hp) (ys : List V), Same H H' → H p = none → H' p = some (.lst ys) → NumsT H' ys ((tell pss).map Told.x) → Q (.ref p) H') : spKnotsT K vs H Q E_3

theorem nd_take {pss : List (List Rat)} {f : List Rat → Rat} {i : Nat} {ps : List Rat} (hnd : (pss.map f).Nodup) (h : pss[i]? = some ps) : ∀ ps' ∈ pss.take i, f ps' ≠ f ps := fun ps' hp e => by
  have h1 : ((pss.take (i + 1)).map f).Nodup := ((List.take_sublist _ _).map f).nodup hnd
  rw [List.take_add_one, h, List.map_append, List.nodup_append] at h1
  exact h1.2.2 _ (List.mem_map_of_mem hp) _ (by simp) e
/-- the slopes that a dict holds -/
def SlD (K : PySem.W.Frag) (H : Hp) (kvs : List (List Key × V)) (pss : List (List Rat)) : Prop := ∀ ps ∈ pss, ps.length = 3 → ∃ v, valV kvs (kQ (ps.getD 0 0)) = some v ∧ NumV K H v (ps.getD 2 0)
theorem SlD.same {K : PySem.W.Frag} {H H' : Hp} {kvs : List (List Key × V)} {pss : List (List Rat)} (h : SlD K H kvs pss) (e : Same H H') : SlD K H' kvs pss := fun ps hp h3 => let ⟨v, h1, h2⟩ := h ps hp h3; ⟨v, h1, h2.same e⟩
inductive spSlopes (K : PySem.W.Frag) (vs : List V) (H : Hp) (Q : VK) (E_3 : XK) : Prop
  | mk (r : Addr) (xs : List V) (pss : List (List Rat)) (h1 : vs = [.ref r]) (h2 : SqT K H r xs) (h3 : PtsT K H xs pss) (h4 : P23 pss) (h5 : pss.length ≤ 100) (h6 : (pss.map fun ps => ps.getD 0 0).Nodup) (h7 : ∀ (d : Addr) (H' : Hp) (kvs : List (List Key × V)), Same H H' → H d = none → H' d = some (.dT kvs) → SlD K H' kvs pss → Q (.ref d) H') : spSlopes K vs H Q E_3
/-- the heights, one for each told number -/
def row0 (pss : List (List Rat)) : List Rat := (pss.map fun ps => List.replicate (ps.length - 1) (ps.getD 1 0)).flatten
theorem row0_snoc (pss : List (List Rat)) (ps : List Rat) : row0 (pss ++ [ps]) = row0 pss ++ List.replicate (ps.length - 1) (ps.getD 1 0) := by
  unfold row0
  rw [List.map_append, List.flatten_append]
  simp
theorem row0_length : ∀ pss, (row0 pss).length = (tell pss).length
  | [] => rfl
  | p :: r => by
    have e : tell (p :: r) = tellP p ++ tell r := rfl
    have e2 : row0 (p :: r) = List.replicate (p.length - 1) (p.getD 1 0) ++ row0 r := rfl
    rw [e, e2, List.length_append, List.length_append, List.length_replicate, tellP_length, row0_length r]
inductive spRow0 (K : PySem.W.Frag) (vs : List V) (H : Hp) (Q : VK) (E_3 : XK) : Prop
  | mk (r : Addr) (xs : List V) (pss : List (List Rat)) (h1 : vs = [.ref r]) (h2 : SqT K H r xs) (h3 : PtsT K H xs pss) (h4 : P23 pss) (h5 : pss.length ≤ 100) (h6 : ∀ (p : Addr) (H' : Hp) (ys : List V), Same H H' → H p = none → H' p = some (.lst ys) → Nums K H' ys (row0 pss) → Q (.ref p) H') : spRow0 K vs H Q E_3

def kn (pss : List (List Rat)) : List Rat := (tell pss).map Told.x
theorem kn_length (pss : List (List Rat)) : (kn pss).length = (tell pss).length := List.length_map _
/-- the slope told at a place -/
def slOf (pss : List (List Rat)) (x : Rat) : Rat :=
  match pss.find? (fun ps => decide (ps.length = 3) && decide (ps.getD 0 0 = x)) with
  | some ps => ps.getD 2 0
  | none => 0
def nextR (A kn : List Rat) (sl : Rat → Rat) (k : Nat) : List Rat :=
  (List.range (kn.length - k)).map fun j => if kn.getD (j + k) 0 = kn.getD j 0 then sl (kn.getD j 0) else (A.getD (j + 1) 0 - A.getD j 0) / (kn.getD (j + k) 0 - kn.getD j 0)
theorem nextR_length (A kn : List Rat) (sl : Rat → Rat) (k : Nat) : (nextR A kn sl k).length = kn.length - k := by unfold nextR; rw [List.length_map, List.length_range]
theorem nextR_getD {A kn : List Rat} {sl : Rat → Rat} {k j : Nat} (h : j < kn.length - k) : (nextR A kn sl k).getD j 0 = if kn.getD (j + k) 0 = kn.getD j 0 then sl (kn.getD j 0) else (A.getD (j + 1) 0 - A.getD j 0) / (kn.getD (j + k) 0 - kn.getD j 0) := by
  unfold nextR
  rw [List.getD_eq_getElem?_getD, List.getElem?_map, List.getElem?_range h]; rfl
theorem getD_mem {l : List Rat} {i : Nat} (h : i < l.length) : l.getD i 0 ∈ l := List.mem_of_getElem? (getD_some h)
theorem nextR_rb {A kn : List Rat} {sl : Rat → Rat} {k m n : Nat} (hA : ∀ q ∈ A, RB m q) (hk : ∀ q ∈ kn, RB n q) (hs : ∀ x, RB (2 * m + 2 * n + 2) (sl x)) (h1 : 1 ≤ k) (hl : A.length + k = kn.length + 1) : ∀ q ∈ nextR A kn sl k, RB (2 * m + 2 * n + 2) q := fun q hq => by
  unfold nextR at hq
  obtain ⟨j, hj, rfl⟩ := List.mem_map.mp hq
  have hj := List.mem_range.mp hj
  split
  · exact hs _
  · next hne =>
    have a1 := hA _ (getD_mem (l := A) (i := j + 1) (by lia))
    have a0 := hA _ (getD_mem (l := A) (i := j) (by lia))
    have k1 := hk _ (getD_mem (l := kn) (i := j + k) (by lia))
    have k0 := hk _ (getD_mem (l := kn) (i := j) (by lia))
    exact (RB.over (a1.minus a0) (k1.minus k0) (fun z => hne (by grind))).mono (by lia)
def tab (pss : List (List Rat)) : Nat → List Rat
  | 0 => row0 pss
  | k + 1 => nextR (tab pss k) (kn pss) (slOf pss) (k + 1)
theorem tab_length (pss : List (List Rat)) : ∀ k, k ≤ (tell pss).length → (tab pss k).length = (tell pss).length - k
  | 0, _ => row0_length pss
  | k + 1, _ => by rw [tab, nextR_length, kn_length]
def bnd (h n : Nat) : Nat → Nat
  | 0 => h
  | k + 1 => 2 * bnd h n k + 2 * n + 2
theorem bnd_eq (h n : Nat) : ∀ k, bnd h n k + (2 * n + 2) = 2 ^ k * (h + 2 * n + 2)
  | 0 => by show h + (2 * n + 2) = 1 * _; lia
  | k + 1 => by
    have := bnd_eq h n k
    rw [Nat.pow_succ, Nat.mul_comm (2 ^ k) 2, Nat.mul_assoc, ← this]
    show 2 * bnd h n k + 2 * n + 2 + _ = _
    lia
theorem bnd_up {h n k m c : Nat} (hn : h + 2 * n + 2 ≤ c) (hk : k ≤ m) : bnd h n k ≤ 2 ^ m * c := by
  have h1 := bnd_eq h n k
  have h2 : 2 ^ k ≤ 2 ^ m := Nat.pow_le_pow_right (by decide) hk
  have h3 : 2 ^ k * (h + 2 * n + 2) ≤ 2 ^ m * c := Nat.mul_le_mul h2 hn
  lia
theorem bnd_ge (h n : Nat) : ∀ k, h ≤ bnd h n k
  | 0 => Nat.le_refl _
  | k + 1 => by have := bnd_ge h n k; show h ≤ 2 * bnd h n k + 2 * n + 2; lia
theorem bnd_next (h n k : Nat) : bnd h n k ≤ bnd h n (k + 1) := by show _ ≤ 2 * bnd h n k + 2 * n + 2; lia
theorem bnd_mono (h n : Nat) {j k : Nat} (hjk : j ≤ k) : bnd h n j ≤ bnd h n k := by
  induction hjk with
  | refl => exact Nat.le_refl _
  | step _ ih => exact Nat.le_trans ih (bnd_next h n _)
theorem tellP_x {ps : List Rat} : ∀ t ∈ tellP ps, t.x = ps.getD 0 0 := fun t ht => by
  unfold tellP at ht
  obtain ⟨k, _, rfl⟩ := List.mem_map.mp ht
  rfl
theorem kn_cons (p : List Rat) (r : List (List Rat)) : kn (p :: r) = List.replicate (p.length - 1) (p.getD 0 0) ++ kn r := by
  have e : tell (p :: r) = tellP p ++ tell r := rfl
  unfold kn
  rw [e, List.map_append]
  congr 1
  refine List.eq_replicate_iff.mpr ⟨by rw [List.length_map, tellP_length], fun x hx => ?_⟩
  obtain ⟨t, ht, rfl⟩ := List.mem_map.mp hx
  exact tellP_x t ht
theorem kn_mem : ∀ {pss : List (List Rat)} {x : Rat}, x ∈ kn pss → ∃ ps ∈ pss, ps.getD 0 0 = x
  | p :: r, x, h => by
    rw [kn_cons] at h
    rcases List.mem_append.mp h with z | z
    · exact ⟨p, List.mem_cons_self, (List.mem_replicate.mp z).2.symm⟩
    · obtain ⟨ps, h1, h2⟩ := kn_mem z
      exact ⟨ps, List.mem_cons_of_mem _ h1, h2⟩
theorem kn_rb {pss : List (List Rat)} {n : Nat} (hbk : ∀ ps ∈ pss, RB n (ps.getD 0 0)) : ∀ x ∈ kn pss, RB n x := fun x hx => by
  obtain ⟨ps, h1, rfl⟩ := kn_mem hx
  exact hbk ps h1
theorem row0_rb {pss : List (List Rat)} {n : Nat} (h23 : P23 pss) (hb : ∀ ps ∈ pss, ∀ q ∈ ps, RB n q) : ∀ x ∈ row0 pss, RB n x := fun x hx => by
  unfold row0 at hx
  obtain ⟨l, hl, hx⟩ := List.mem_flatten.mp hx
  obtain ⟨ps, h1, rfl⟩ := List.mem_map.mp hl
  rw [(List.mem_replicate.mp hx).2]
  exact hb ps h1 _ (getD_mem (by have := h23 ps h1; lia))
theorem slOf_rb {pss : List (List Rat)} {n : Nat} (h1 : 1 ≤ n) (hb : ∀ ps ∈ pss, ∀ q ∈ ps, RB n q) (x : Rat) : RB n (slOf pss x) := by
  unfold slOf
  split
  · next ps h =>
    have h2 := List.mem_of_find?_eq_some h
    have h3 := List.find?_some h
    rw [Bool.and_eq_true, decide_eq_true_eq, decide_eq_true_eq] at h3
    exact hb ps h2 _ (getD_mem (by lia))
  · exact RB.zero h1
theorem slOf_at : ∀ {pss : List (List Rat)} {ps : List Rat}, (pss.map fun ps => ps.getD 0 0).Nodup → ps ∈ pss → ps.length = 3 → slOf pss (ps.getD 0 0) = ps.getD 2 0
  | p :: r, ps, hnd, hm, h3 => by
    rw [List.map_cons, List.nodup_cons] at hnd
    unfold slOf
    rw [List.find?_cons]
    rcases List.mem_cons.mp hm with z | z
    · subst z
      rw [decide_eq_true h3, decide_eq_true rfl]; rfl
    · have hne : ¬ p.getD 0 0 = ps.getD 0 0 := fun e => hnd.1 (e ▸ List.mem_map_of_mem (f := fun ps : List Rat => ps.getD 0 0) z)
      rw [decide_eq_false hne, Bool.and_false]
      exact slOf_at hnd.2 z h3
theorem tab_rb {pss : List (List Rat)} {h n : Nat} (h23 : P23 pss) (hn : 1 ≤ h) (hb : ∀ ps ∈ pss, ∀ q ∈ ps, RB h q) (hbk : ∀ ps ∈ pss, RB n (ps.getD 0 0)) : ∀ k, k ≤ (tell pss).length → ∀ q ∈ tab pss k, RB (bnd h n k) q
  | 0, _ => row0_rb h23 hb
  | k + 1, hk => by
    rw [tab]
    exact nextR_rb (tab_rb h23 hn hb hbk k (by lia)) (kn_rb hbk) (fun x => (slOf_rb hn hb x).mono (Nat.le_trans (bnd_ge h n k) (by lia))) (by lia) (by rw [tab_length _ _ (by lia), kn_length]; lia)
/-- where two knots are alike, they are of one point with a slope -/
theorem knots_eq : ∀ {pss : List (List Rat)}, P23 pss → (pss.map fun ps => ps.getD 0 0).Nodup → ∀ {j k : Nat}, 1 ≤ k → j + k < (tell pss).length → (kn pss).getD (j + k) 0 = (kn pss).getD j 0 →
    k = 1 ∧ ∃ ps ∈ pss, ps.length = 3 ∧ ps.getD 0 0 = (kn pss).getD j 0 ∧ ((tell pss).map Told.n).getD (j + 1) 0 = ps.getD 2 0 ∧ (row0 pss).getD (j + 1) 0 = (row0 pss).getD j 0
  | p :: r, h23, hnd, j, k, h1, hjk, he => by
    rw [List.map_cons, List.nodup_cons] at hnd
    have hout : ∀ i, i < (kn r).length → (kn r).getD i 0 ≠ p.getD 0 0 := fun i hi e => by
      obtain ⟨ps, h1, h2⟩ := kn_mem (getD_mem hi)
      exact hnd.1 (e ▸ h2 ▸ List.mem_map_of_mem (f := fun ps : List Rat => ps.getD 0 0) h1)
    have et : tell (p :: r) = tellP p ++ tell r := rfl
    have er : row0 (p :: r) = List.replicate (p.length - 1) (p.getD 1 0) ++ row0 r := rfl
    have ih := @knots_eq r (fun ps h => h23 ps (List.mem_cons_of_mem _ h)) hnd.2
    have hkl := kn_length r
    rw [kn_cons] at he ⊢
    rw [et, List.length_append, tellP_length] at hjk
    rcases h23 p List.mem_cons_self with hp | hp
    · have e1 : List.replicate (p.length - 1) (p.getD 0 0) = [p.getD 0 0] := by rw [hp]; rfl
      have e2 : tellP p = [⟨p.getD 0 0, 0, p.getD 1 0⟩] := by unfold tellP; rw [hp]; rfl
      have e3 : List.replicate (p.length - 1) (p.getD 1 0) = [p.getD 1 0] := by rw [hp]; rfl
      rw [e1] at he ⊢
      rw [et, er, e2, e3]
      match j with
      | 0 =>
        obtain ⟨k', rfl⟩ : ∃ k', k = k' + 1 := ⟨k - 1, by lia⟩
        rw [Nat.zero_add] at he
        exact absurd he (hout k' (by lia))
      | j' + 1 =>
        rw [show j' + 1 + k = (j' + k) + 1 by lia] at he
        obtain ⟨z1, ps, z2, z3, z4, z5, z6⟩ := ih (j := j') (k := k) h1 (by lia) he
        exact ⟨z1, ps, List.mem_cons_of_mem _ z2, z3, z4, z5, z6⟩
    · have e1 : List.replicate (p.length - 1) (p.getD 0 0) = [p.getD 0 0, p.getD 0 0] := by rw [hp]; rfl
      have e2 : tellP p = [⟨p.getD 0 0, 0, p.getD 1 0⟩, ⟨p.getD 0 0, 1, p.getD 2 0⟩] := by unfold tellP; rw [hp]; rfl
      have e3 : List.replicate (p.length - 1) (p.getD 1 0) = [p.getD 1 0, p.getD 1 0] := by rw [hp]; rfl
      rw [e1] at he ⊢
      rw [et, er, e2, e3]
      match j with
      | 0 =>
        match k, h1 with
        | 1, _ => exact ⟨rfl, p, List.mem_cons_self, hp, rfl, rfl, rfl⟩
        | k' + 2, _ =>
          rw [Nat.zero_add] at he
          exact absurd he (hout k' (by lia))
      | 1 =>
        obtain ⟨k', rfl⟩ : ∃ k', k = k' + 1 := ⟨k - 1, by lia⟩
        rw [show 1 + (k' + 1) = k' + 2 by lia] at he
        exact absurd he (hout k' (by lia))
      | j' + 2 =>
        rw [show j' + 2 + k = (j' + k) + 2 by lia] at he
        obtain ⟨z1, ps, z2, z3, z4, z5, z6⟩ := ih (j := j') (k := k) h1 (by lia) he
        exact ⟨z1, ps, List.mem_cons_of_mem _ z2, z3, z4, z5, z6⟩
inductive spNextRow (K : PySem.W.Frag) (vs : List V) (H : Hp) (Q : VK) (E_3 : XK) : Prop
  | mk (ra rk d : Addr) (as ks : List V) (A kn : List Rat) (kvs : List (List Key × V)) (sl : Rat → Rat) (k m n : Nat) (h1 : vs = [.ref ra, .ref rk, .ref d, .int (k : Int)]) (h2 : SqL K H ra as) (h3 : Nums K H as A) (h4 : SqL K H rk ks) (h5 : NumsT H ks kn) (h6 : H d = some (.dT kvs)) (h7 : (∀ j, j + k < kn.length → kn.getD (j + k) 0 = kn.getD j 0 → ∃ v, valV kvs (kQ (kn.getD j 0)) = some v ∧ NumV K H v (sl (kn.getD j 0)))) (h8 : 1 ≤ k) (h9 : k ≤ kn.length) (h10 : A.length + k = kn.length + 1) (h11 : kn.length ≤ 100) (h12 : (∀ q ∈ A, RB m q)) (h13 : (∀ q ∈ kn, RB n q)) (h14 : m ≤ 2000000) (h15 : n ≤ 1000) (h16 : ∀ (p : Addr) (H' : Hp) (zs : List V), Same H H' → H p = none → H' p = some (.lst zs) → Nums K H' zs (nextR A kn sl k) → Q (.ref p) H') : spNextRow K vs H Q E_3
/-- a row of numbers that came since H, not the list p -/
def FR (K : PySem.W.Frag) (H : Hp) (p : Addr) (H' : Hp) (x : V) (rs : List Rat) : Prop := ∃ a zs, x = .ref a ∧ a ≠ p ∧ H a = none ∧ H' a = some (.lst zs) ∧ Nums K H' zs rs
theorem FR.same {K : PySem.W.Frag} {H H1 H2 : Hp} {p : Addr} {x : V} {rs : List Rat} (h : FR K H p H1 x rs) (e : Same H1 H2) : FR K H p H2 x rs := let ⟨a, zs, h1, h2, h3, h4, h5⟩ := h; ⟨a, zs, h1, h2, h3, e _ _ h4, Nums.same h5 e⟩
theorem FR.put {K : PySem.W.Frag} {H H1 : Hp} {p : Addr} {x : V} {rs : List Rat} {ys : List V} {o : HO} (h : FR K H p H1 x rs) (e : H1 p = some (.lst ys)) : FR K H p (upd H1 p o) x rs := let ⟨a, zs, h1, h2, h3, h4, h5⟩ := h; ⟨a, zs, h1, h2, h3, by rw [upd_ne h2]; exact h4, Nums.put h5 e⟩
theorem last_range {α : Type} (f : Nat → α) (i : Nat) : ((List.range (i + 1)).map f)[i]? = some (f i) := by
  rw [List.getElem?_map, List.getElem?_range (by lia)]; rfl

inductive spTable (K : PySem.W.Frag) (vs : List V) (H : Hp) (Q : VK) (E_3 : XK) : Prop
  | mk (r : Addr) (xs : List V) (pss : List (List Rat)) (hh n : Nat) (h1 : vs = [.ref r]) (h2 : SqT K H r xs) (h3 : PtsT K H xs pss) (h4 : P23 pss) (h5 : pss.length ≤ 100) (h6 : (pss.map fun ps => ps.getD 0 0).Nodup) (h7 : (tell pss).length ≤ 12) (h8 : (∀ ps ∈ pss, ∀ q ∈ ps, RB hh q)) (h9 : (∀ ps ∈ pss, RB n (ps.getD 0 0))) (h10 : 1 ≤ hh) (h11 : hh + 2 * n + 2 ≤ 1000) (h12 : ∀ (p : Addr) (H' : Hp) (ys : List V), Same H H' → H p = none → H' p = some (.lst ys) → Paired (FR K H p H') ys ((List.range (tell pss).length).map (tab pss)) → Q (.ref p) H') : spTable K vs H Q E_3
def stepsOf (pss : List (List Rat)) : List Rat := (List.range (tell pss).length).map fun k => (tab pss k).getD 0 0
theorem stepsOf_length (pss : List (List Rat)) : (stepsOf pss).length = (tell pss).length := by unfold stepsOf; rw [List.length_map, List.length_range]
inductive spSteps (K : PySem.W.Frag) (vs : List V) (H : Hp) (Q : VK) (E_3 : XK) : Prop
  | mk (r : Addr) (xs : List V) (pss : List (List Rat)) (hh n : Nat) (h1 : vs = [.ref r]) (h2 : SqT K H r xs) (h3 : PtsT K H xs pss) (h4 : P23 pss) (h5 : pss.length ≤ 100) (h6 : (pss.map fun ps => ps.getD 0 0).Nodup) (h7 : (tell pss).length ≤ 12) (h8 : (∀ ps ∈ pss, ∀ q ∈ ps, RB hh q)) (h9 : (∀ ps ∈ pss, RB n (ps.getD 0 0))) (h10 : 1 ≤ hh) (h11 : hh + 2 * n + 2 ≤ 1000) (h12 : ∀ (p : Addr) (H' : Hp) (zs : List V), Same H H' → H p = none → H' p = some (.lst zs) → Nums K H' zs (stepsOf pss) → Q (.ref p) H') : spSteps K vs H Q E_3

theorem steps_rb {pss : List (List Rat)} {hh n : Nat} (h23 : P23 pss) (hb : ∀ ps ∈ pss, ∀ q ∈ ps, RB hh q) (hbk : ∀ ps ∈ pss, RB n (ps.getD 0 0)) (h1 : 1 ≤ hh) (h12 : (tell pss).length ≤ 12) : ∀ q ∈ stepsOf pss, RB (bnd hh n 11) q := fun q hq => by
  unfold stepsOf at hq
  obtain ⟨k, hk, rfl⟩ := List.mem_map.mp hq
  have hk := List.mem_range.mp hk
  have hl := tab_length pss k (by lia)
  exact (tab_rb h23 h1 hb hbk k (by lia) _ (getD_mem (by lia))).mono (bnd_mono hh n (by lia))
inductive spThru (K : PySem.W.Frag) (vs : List V) (H : Hp) (Q : VK) (E_3 : XK) : Prop
  | mk (r : Addr) (xs : List V) (pss : List (List Rat)) (hh n : Nat) (h1 : vs = [.ref r]) (h2 : SqT K H r xs) (h3 : PtsT K H xs pss) (h4 : P23 pss) (h5 : pss.length ≤ 100) (h6 : (pss.map fun ps => ps.getD 0 0).Nodup) (h7 : (tell pss).length ≤ 12) (h8 : (∀ ps ∈ pss, ∀ q ∈ ps, RB hh q)) (h9 : (∀ ps ∈ pss, RB n (ps.getD 0 0))) (h10 : 1 ≤ hh) (h11 : hh + 2 * n + 2 ≤ 1000) (h12 : ∀ (p : Addr) (H' : Hp) (cs : List Rat), Same H H' → Crv K H' p cs → cs.length ≤ (tell pss).length → Good cs → (∀ q ∈ cs, RB (26 * bnd hh n 11 + 300) q) → (∀ x, Cv.ev cs x = newton (kn pss) (stepsOf pss) x) → Q (.ref p) H') : spThru K vs H Q E_3

theorem tell_ge : ∀ {pss : List (List Rat)}, P23 pss → pss.length ≤ (tell pss).length
  | [], _ => Nat.le_refl _
  | p :: r, h => by
    have ih := tell_ge (pss := r) fun ps hp => h ps (List.mem_cons_of_mem _ hp)
    have hp := h p List.mem_cons_self
    have e : tell (p :: r) = tellP p ++ tell r := rfl
    rw [e, List.length_append, tellP_length, List.length_cons]
    lia

theorem newton_snoc (X k s : Rat) : ∀ (ks ss : List Rat), ks.length = ss.length → newton (ks ++ [k]) (ss ++ [s]) X = newton ks ss X + s * L2.prV X ks
  | [], [], _ => by show s + (X - k) * 0 = 0 + s * 1; grind
  | a :: ks, b :: ss, h => by
    have ih := newton_snoc X k s ks ss (by simpa using h)
    show b + (X - a) * newton (ks ++ [k]) (ss ++ [s]) X = (b + (X - a) * newton ks ss X) + s * ((X - a) * L2.prV X ks)
    rw [ih]; grind
theorem newton_nwT (T : Nat → Nat → Rat) (x : Nat → Rat) (X : Rat) : ∀ n, newton ((List.range n).map x) ((List.range n).map fun k => T k 0) X = Cv.ev (L2.nwT T x 0 n) X
  | 0 => rfl
  | n + 1 => by
    rw [List.range_succ, List.map_append, List.map_append, L2.nwT_ev, ← newton_nwT T x X n]
    show newton (_ ++ [x n]) (_ ++ [T n 0]) X = _
    rw [newton_snoc _ _ _ _ _ (by rw [List.length_map, List.length_map])]
    unfold L2.prF
    have e : (List.range n).map x = (List.range n).map fun i => x (0 + i) := List.map_congr_left fun i _ => by rw [Nat.zero_add]
    rw [e]
theorem list_range (l : List Rat) : l = (List.range l.length).map fun i => l.getD i 0 := by
  refine List.ext_getElem? fun i => ?_
  rw [List.getElem?_map]
  by_cases h : i < l.length
  · rw [List.getElem?_range h]; exact getD_some h
  · rw [List.getElem?_eq_none (by lia), List.getElem?_eq_none (by rw [List.length_range]; lia)]; rfl
def tT (pss : List (List Rat)) (k j : Nat) : Rat := (tab pss k).getD j 0
def xT (pss : List (List Rat)) (j : Nat) : Rat := (kn pss).getD j 0
theorem thru_ev (pss : List (List Rat)) (X : Rat) : newton (kn pss) (stepsOf pss) X = Cv.ev (L2.nwT (tT pss) (xT pss) 0 (tell pss).length) X := by
  rw [← newton_nwT]
  have e := list_range (kn pss)
  rw [kn_length] at e
  show newton (kn pss) _ X = newton ((List.range (tell pss).length).map fun i => (kn pss).getD i 0) _ X
  rw [← e]; rfl
theorem tab_ok {pss : List (List Rat)} (h23 : P23 pss) (hnd : (pss.map fun ps => ps.getD 0 0).Nodup) : L2.TabOk (tT pss) (xT pss) (tell pss).length := fun k j hj => by
  unfold tT xT
  rw [tab, nextR_getD (by rw [kn_length]; lia), show j + (k + 1) = j + k + 1 by lia]
  by_cases he : (kn pss).getD (j + k + 1) 0 = (kn pss).getD j 0
  · rw [if_pos he, he]
    obtain ⟨hk, ps, _, _, _, _, hr⟩ := knots_eq h23 hnd (j := j) (k := k + 1) (by lia) (by lia) he
    have hk0 : k = 0 := by lia
    subst hk0
    show _ = (row0 pss).getD (j + 1) 0 - (row0 pss).getD j 0
    rw [hr]; grind
  · rw [if_neg he]
    have hd : (kn pss).getD (j + k + 1) 0 - (kn pss).getD j 0 ≠ 0 := fun z => he (by grind)
    exact Rat.div_mul_cancel hd
theorem pt_idx : ∀ {pss : List (List Rat)} {ps : List Rat}, P23 pss → ps ∈ pss → ∃ i, i < (tell pss).length ∧ (kn pss).getD i 0 = ps.getD 0 0 ∧ (row0 pss).getD i 0 = ps.getD 1 0 ∧ (ps.length = 3 → i + 1 < (tell pss).length ∧ (kn pss).getD (i + 1) 0 = ps.getD 0 0)
  | p :: r, ps, h23, hm => by
    have et : tell (p :: r) = tellP p ++ tell r := rfl
    have er : row0 (p :: r) = List.replicate (p.length - 1) (p.getD 1 0) ++ row0 r := rfl
    have hp := h23 p List.mem_cons_self
    rw [et, er, kn_cons, List.length_append, tellP_length]
    rcases List.mem_cons.mp hm with z | z
    · subst z
      rcases hp with hp | hp
      · rw [hp]; exact ⟨0, by lia, rfl, rfl, fun z => by lia⟩
      · rw [hp]; exact ⟨0, by lia, rfl, rfl, fun _ => ⟨by lia, rfl⟩⟩
    · obtain ⟨i, h1, h2, h3, h4⟩ := pt_idx (pss := r) (fun q hq => h23 q (List.mem_cons_of_mem _ hq)) z
      rcases hp with hp | hp
      · rw [hp]; exact ⟨i + 1, by lia, h2, h3, fun z => ⟨by have := (h4 z).1; lia, (h4 z).2⟩⟩
      · rw [hp]; exact ⟨i + 2, by lia, h2, h3, fun z => ⟨by have := (h4 z).1; lia, (h4 z).2⟩⟩
/-- a curve goes through a point -/
def OnC (cs ps : List Rat) : Prop := Cv.ev cs (ps.getD 0 0) = ps.getD 1 0 ∧ (ps.length = 3 → Cv.ev (L2.dL cs) (ps.getD 0 0) = ps.getD 2 0)
theorem OnC.like {cs ds ps : List Rat} (h : OnC cs ps) (e : ∀ X, Cv.ev ds X = Cv.ev cs X) : OnC ds ps := ⟨by rw [e]; exact h.1, fun z => by rw [L2.slope_one e]; exact h.2 z⟩
theorem thru_on {pss : List (List Rat)} (h23 : P23 pss) (hnd : (pss.map fun ps => ps.getD 0 0).Nodup) {cs : List Rat} (h : ∀ X, Cv.ev cs X = newton (kn pss) (stepsOf pss) X) : ∀ ps ∈ pss, OnC cs ps := fun ps hm => by
  have hT := tab_ok h23 hnd
  refine OnC.like (cs := L2.nwT (tT pss) (xT pss) 0 (tell pss).length) ?_ (fun X => by rw [h, thru_ev])
  obtain ⟨i, h1, h2, h3, h4⟩ := pt_idx h23 hm
  refine ⟨?_, fun hl => ?_⟩
  · have e := L2.nwT_at hT (tell pss).length 0 i (by lia) h1
    rw [Nat.zero_add] at e
    rw [← h2, ← h3]; exact e
  · obtain ⟨h5, h6⟩ := h4 hl
    have e := L2.nwT_slope hT (tell pss).length 0 i (by lia) h5 (by rw [Nat.zero_add]; unfold xT; rw [h6, h2])
    rw [Nat.zero_add] at e
    rw [← h2]
    refine Eq.trans e ?_
    show (nextR (row0 pss) (kn pss) (slOf pss) 1).getD i 0 = _
    rw [nextR_getD (by rw [kn_length]; lia), if_pos (by rw [h6, h2]), h2]
    exact slOf_at hnd hm hl
inductive spAt2 (K : PySem.W.Frag) (vs : List V) (H : Hp) (Q : VK) (E_3 : XK) : Prop
  | mk (b : Bool) (r rx : Addr) (xs : List V) (qs : List Rat) (x : Rat) (c n : Nat) (h1 : vs = [.ref r, .ref rx]) (h2 : Sq b K H r xs) (h3 : Nums K H xs qs) (h4 : NumV K H (.ref rx) x) (h5 : (∀ q ∈ qs, RB c q)) (h6 : RB n x) (h7 : (c + n * qs.length + 4) * (qs.length + 2) ≤ 90000000) (h8 : ∀ p H', Same H H' → H' p = some (nT (Cv.ev qs x)) → RB ((c + n * qs.length + 4) * (qs.length + 1)) (Cv.ev qs x) → Q (.ref p) H') : spAt2 K vs H Q E_3

abbrev Ms := Rat × Int
def MsV (K : PySem.W.Frag) (H : Hp) (v : V) (t : Ms) : Prop := ∃ a rx, v = .ref a ∧ SqT K H a [rx, .int t.2] ∧ NumV K H rx t.1
abbrev Mss (K : PySem.W.Frag) (H : Hp) : List V → List Ms → Prop := Paired (MsV K H)
theorem msv_same {K : PySem.W.Frag} {H H' : Hp} {x : V} {t : Ms} (h : MsV K H x t) (e : Same H H') : MsV K H' x t := let ⟨a, rx, h1, h2, h3⟩ := h; ⟨a, rx, h1, h2.same e, h3.same e⟩
theorem msv_put {K : PySem.W.Frag} {H : Hp} {x : V} {t : Ms} {p : Addr} {ys : List V} {o : HO} (h : MsV K H x t) (hp : H p = some (.lst ys)) : MsV K (upd H p o) x t := let ⟨a, rx, h1, h2, h3⟩ := h; ⟨a, rx, h1, h2.put hp, h3.put hp⟩
theorem mss_same {K : PySem.W.Frag} {H H' : Hp} {xs : List V} {ts : List Ms} (h : Mss K H xs ts) (e : Same H H') : Mss K H' xs ts := Paired.mapP h fun _ _ z => msv_same z e
theorem mss_put {K : PySem.W.Frag} {H : Hp} {xs : List V} {ts : List Ms} {p : Addr} {ys : List V} {o : HO} (h : Mss K H xs ts) (hp : H p = some (.lst ys)) : Mss K (upd H p o) xs ts := Paired.mapP h fun _ _ z => msv_put z hp
def mD (t : Ms) : PyData := .tuple [nD t.1, .int t.2]
theorem msv_rds {K : PySem.W.Frag} {H : Hp} {v : V} {t : Ms} (h : MsV K H v t) : Rds K H v (mD t) := by
  obtain ⟨a, rx, rfl, h2, h3⟩ := h
  refine .tup h2 rfl fun i x d e1 e2 => ?_
  match i with
  | 0 => simp at e1 e2; subst e1; subst e2; exact h3.rds
  | 1 => simp at e1 e2; subst e1; subst e2; exact .int _
  | i + 2 => simp at e1
theorem mDs_eqv : ∀ ps : List Ms, PyData.eqvAll (ps.map mD) (ps.map mD) = true
  | [] => rfl
  | p :: ps => by
    show ((PyData.eqv (nD p.1) (nD p.1) && ((p.2 == p.2) && true)) && PyData.eqvAll (ps.map mD) (ps.map mD)) = true
    rw [nD_eqv, mDs_eqv ps, decide_eq_true rfl, beq_self_eq_true]; rfl
theorem mDs_lay : ∀ qs : List Ms, PyData.canLayAll0 (qs.map mD) = true
  | [] => rfl
  | q :: r => by
    show (PyData.canLay0 (mD q) && PyData.canLayAll0 (r.map mD)) = true
    rw [mDs_lay r]; rfl
theorem mDs_depth : ∀ qs : List Ms, PyData.depthAll (qs.map mD) ≤ 2
  | [] => Nat.zero_le _
  | q :: r => by
    have ih := mDs_depth r
    show max (PyData.depth (mD q)) (PyData.depthAll (r.map mD)) ≤ 2
    exact Nat.max_le.mpr ⟨Nat.le_refl _, ih⟩
theorem mDs_shL (qs : List Ms) : SeqAt.shaped (.list (qs.map mD)) = true := by
  show (PyData.canLayAll0 (qs.map mD) && decide (PyData.depthAll (qs.map mD) + 1 ≤ 64)) = true
  rw [mDs_lay, Bool.true_and]
  exact decide_eq_true (by have := mDs_depth qs; lia)
theorem eqMs {K : PySem.W.Frag} {H : Hp} {a b : Addr} {xs ys : List V} {ps : List Ms} {Q : VK} {neg : Bool} (s1 : SqL K H a xs) (n1 : Mss K H xs ps) (s2 : SqL K H b ys) (n2 : Mss K H ys ps) (h : Q (.bl (if neg then !true else true)) H) : rEqD K neg (.ref a) (.ref b) H Q := by
  have rd : ∀ {zs : List V}, Mss K H zs ps → ∀ (i : Nat) x d, zs[i]? = some x → (ps.map mD)[i]? = some d → Rds K H x d := fun hz i x d e1 e2 => by
    obtain ⟨q, hq, hn⟩ := Paired.get hz e1
    rw [List.getElem?_map, hq] at e2
    cases e2
    exact msv_rds hn
  refine eqD_of ⟨_, _, .lst s1 (by rw [n1.length, List.length_map]) (rd n1), .lst s2 (by rw [n2.length, List.length_map]) (rd n2), mDs_shL _, mDs_shL _, ?_⟩
  have e : PyData.eqv (.list (ps.map mD)) (.list (ps.map mD)) = true := mDs_eqv ps
  rw [e]; exact h
/-- what the curve has in a told number's stead -/
def hk (cs : List Rat) (t : Told) : Rat := if t.k = 1 then Cv.ev (slopeL cs) t.x else Cv.ev cs t.x
def msd (cs : List Rat) (ts : List Told) : List Ms := (ts.filter fun t => !decide (hk cs t = t.n)).map fun t => (t.x, t.k)
theorem msd_snoc (cs : List Rat) (ts : List Told) (t : Told) : msd cs (ts ++ [t]) = msd cs ts ++ (if hk cs t = t.n then [] else [(t.x, t.k)]) := by
  unfold msd
  rw [List.filter_append, List.map_append]
  congr 1
  by_cases h : hk cs t = t.n
  · rw [if_pos h, List.filter_cons, decide_eq_true h]; rfl
  · rw [if_neg h, List.filter_cons, decide_eq_false h]; rfl
theorem tell_k {pss : List (List Rat)} (h : P23 pss) : ∀ t ∈ tell pss, t.k = 0 ∨ t.k = 1 := fun t ht => by
  unfold tell at ht
  obtain ⟨l, hl, ht⟩ := List.mem_flatten.mp ht
  obtain ⟨ps, hps, rfl⟩ := List.mem_map.mp hl
  unfold tellP at ht
  obtain ⟨k, hk, rfl⟩ := List.mem_map.mp ht
  have := List.mem_range.mp hk
  have := h ps hps
  show (k : Int) = 0 ∨ (k : Int) = 1
  lia
theorem tell_rb {pss : List (List Rat)} {n : Nat} (hn : 1 ≤ n) (h : ∀ ps ∈ pss, ∀ q ∈ ps, RB n q) : ∀ t ∈ tell pss, RB n t.x ∧ RB n t.n := fun t ht => by
  unfold tell at ht
  obtain ⟨l, hl, ht⟩ := List.mem_flatten.mp ht
  obtain ⟨ps, hps, rfl⟩ := List.mem_map.mp hl
  have g : ∀ j, RB n (ps.getD j 0) := fun j => by
    rw [List.getD_eq_getElem?_getD]
    cases e : ps[j]? with
    | none => exact RB.zero hn
    | some t => exact h ps hps t (List.mem_of_getElem? e)
  unfold tellP at ht
  obtain ⟨k, hk, rfl⟩ := List.mem_map.mp ht
  exact ⟨g _, g _⟩
theorem rb_nat11 {k : Nat} (hk : k ≤ 1000) : RB 11 ((k : Nat) : Rat) := ⟨by rw [Rat.num_natCast]; unfold Bd; lia, by rw [Rat.den_natCast]; unfold Bd; decide⟩
theorem slope_rb {cs : List Rat} {n : Nat} (hl : cs.length ≤ 1000) (hn : 1 ≤ n) (h : ∀ q ∈ cs, RB n q) : ∀ q ∈ slopeL cs, RB (n + 11) q := fun q hq => by
  unfold slopeL at hq
  obtain ⟨j, hj, rfl⟩ := List.mem_map.mp hq
  have hj' := List.mem_range.mp hj
  have g : RB n (cs.getD (j + 1) 0) := by
    rw [List.getD_eq_getElem?_getD]
    cases e : cs[j + 1]? with
    | none => exact RB.zero hn
    | some t => exact h t (List.mem_of_getElem? e)
  exact g.times (rb_nat11 (by lia))
theorem slope_length (cs : List Rat) : (slopeL cs).length = cs.length - 1 := by unfold slopeL; rw [List.length_map, List.length_range]
theorem msd_on {pss : List (List Rat)} {cs : List Rat} (h23 : P23 pss) (h : ∀ ps ∈ pss, OnC cs ps) : msd cs (tell pss) = [] := by
  unfold msd
  have e : (tell pss).filter (fun t => !decide (hk cs t = t.n)) = [] := by
    rw [List.filter_eq_nil_iff]
    intro t ht
    unfold tell at ht
    obtain ⟨l, hl, ht⟩ := List.mem_flatten.mp ht
    obtain ⟨ps, hps, rfl⟩ := List.mem_map.mp hl
    unfold tellP at ht
    obtain ⟨k, hk', rfl⟩ := List.mem_map.mp ht
    have hk' := List.mem_range.mp hk'
    have hp := h23 ps hps
    obtain ⟨o1, o2⟩ := h ps hps
    have z : hk cs ⟨ps.getD 0 0, (k : Int), ps.getD (k + 1) 0⟩ = ps.getD (k + 1) 0 := by
      unfold hk
      match k, hk' with
      | 0, _ => exact o1
      | 1, hk' => exact (L2.slope_ev _ _).trans (o2 (by lia))
      | k + 2, hk' => lia
    rw [z, decide_eq_true rfl]; decide
  rw [e]; rfl

inductive spUnlike (K : PySem.W.Frag) (vs : List V) (H : Hp) (Q : VK) (E_3 : XK) : Prop
  | mk (l : Addr) (ys : List V) (qs : List Rat) (h1 : vs = [.ref l]) (h2 : SqL K H l ys) (h3 : NumsT H ys qs) (h4 : qs.Nodup) (h5 : qs.length ≤ 17) (h6 : ∀ H', Same H H' → Q (.bl true) H') : spUnlike K vs H Q E_3
inductive spIsPt (K : PySem.W.Frag) (vs : List V) (H : Hp) (Q : VK) (E_3 : XK) : Prop
  | mk (x : V) (ps : List Rat) (h1 : vs = [x]) (h2 : PtV K H x ps) (h3 : (ps.length = 2 ∨ ps.length = 3)) (h4 : ∀ H', Same H H' → Q (.bl true) H') : spIsPt K vs H Q E_3
inductive spPtsOf (K : PySem.W.Frag) (vs : List V) (H : Hp) (Q : VK) (E_3 : XK) : Prop
  | mk (b : Bool) (r : Addr) (xs : List V) (pss : List (List Rat)) (h1 : vs = [.ref r]) (h2 : Sq b K H r xs) (h3 : PtsT K H xs pss) (h4 : P23 pss) (h5 : 1 ≤ pss.length) (h6 : (pss.map fun ps => ps.getD 0 0).Nodup) (h7 : (tell pss).length ≤ 12) (h8 : ∀ (p : Addr) (H' : Hp), Same H H' → SqT K H' p xs → (b = false → p = r) → Q (.ref p) H') : spPtsOf K vs H Q E_3
theorem isn_gcd (q : Rat) : (Int.gcd q.num (q.den : Int) : Int) = 1 := by
  have h : Int.gcd q.num (q.den : Int) = 1 := q.reduced
  rw [h]; rfl
theorem Sq.len {b : Bool} {K : PySem.W.Frag} {H : Hp} {r : Addr} {xs : List V} (h : Sq b K H r xs) : SqL K H r xs ∨ SqT K H r xs := by
  cases b
  · exact .inr h
  · exact .inl h

theorem slice_to {K : PySem.W.Frag} {H : Hp} {r : Addr} {xs : List V} {v : Nat} {Q : VK} (hS : SqT K H r xs) (hv : v ≤ xs.length) (h : ∀ (p : Addr) (H' : Hp), Same H H' → SqT K H' p (xs.take v) → Q (.ref p) H') : rSlTA K (.ref r) none (some (v : Int)) H Q := by
  by_cases e : v = xs.length
  · refine .inr ⟨r, xs, rfl, hS, ⟨rfl, by rw [HT.sIx_nat]; lia⟩, h r H (Same.refl _) ?_⟩
    rw [List.take_of_length_le (by lia)]; exact hS
  · refine .inl ⟨r, xs, rfl, hS, by rw [HT.sIx_nat]; lia, fun p hp => ?_⟩
    rw [cut_to]
    exact h p _ (Same.new hp) (SqT.of upd_same)
theorem cat_pts {K : PySem.W.Frag} {H : Hp} {a b : Addr} {xs ys : List V} {Q : VK} (ha : SqT K H a xs) (hb : SqT K H b ys) (hl : xs.length + ys.length ≤ sizeLine) (h : ∀ (p : Addr) (H' : Hp), Same H H' → SqT K H' p (xs ++ ys) → Q (.ref p) H') : rCatTA K (.ref a) (.ref b) H Q := by
  by_cases ex : xs = []
  · subst ex
    exact .inr ⟨a, b, ys, rfl, rfl, ha, hb, h b H (Same.refl _) hb⟩
  · refine .inl ⟨a, b, xs, ys, rfl, rfl, ha, hb, ex, hl, fun ey => ?_, fun _ p hp => h p _ (Same.new hp) (SqT.of upd_same)⟩
    subst ey
    exact h a H (Same.refl _) (by rw [List.append_nil]; exact ha)
theorem paired_drop {α β : Type} {F : α → β → Prop} : ∀ {l₁ : List α} {l₂ : List β} (i : Nat), Paired F l₁ l₂ → Paired F (l₁.drop i) (l₂.drop i)
  | _, _, i, .nil => by rw [List.drop_nil, List.drop_nil]; exact .nil
  | _, _, 0, .cons h t => .cons h t
  | _, _, i + 1, .cons _ t => paired_drop i t

theorem tell_app (A B : List (List Rat)) : tell (A ++ B) = tell A ++ tell B := by unfold tell; rw [List.map_append, List.flatten_append]
theorem kn_app (A B : List (List Rat)) : kn (A ++ B) = kn A ++ kn B := by unfold kn; rw [tell_app, List.map_append]
theorem row0_app (A B : List (List Rat)) : row0 (A ++ B) = row0 A ++ row0 B := by unfold row0; rw [List.map_append, List.flatten_append]
theorem getD_app {l m : List Rat} {i : Nat} (h : i < l.length) : (l ++ m).getD i 0 = l.getD i 0 := by
  rw [List.getD_eq_getElem?_getD, List.getD_eq_getElem?_getD, List.getElem?_append_left h]
theorem tab_prefix {A B : List (List Rat)} (h23 : P23 (A ++ B)) (hnd : ((A ++ B).map fun ps => ps.getD 0 0).Nodup) : ∀ k j, j + k < (tell A).length → (tab (A ++ B) k).getD j 0 = (tab A k).getD j 0
  | 0, j, h => by
    show (row0 (A ++ B)).getD j 0 = (row0 A).getD j 0
    rw [row0_app, getD_app (by rw [row0_length]; lia)]
  | k + 1, j, h => by
    have i1 := tab_prefix h23 hnd k (j + 1) (by lia)
    have i0 := tab_prefix h23 hnd k j (by lia)
    have kA := kn_length A
    have kl : (kn (A ++ B)).length = (kn A).length + (kn B).length := by rw [kn_app, List.length_append]
    show (nextR (tab (A ++ B) k) (kn (A ++ B)) (slOf (A ++ B)) (k + 1)).getD j 0 = (nextR (tab A k) (kn A) (slOf A) (k + 1)).getD j 0
    rw [nextR_getD (by lia), nextR_getD (by lia), i1, i0, kn_app, getD_app (l := kn A) (i := j + (k + 1)) (by lia), getD_app (l := kn A) (i := j) (by lia)]
    by_cases he : (kn A).getD (j + (k + 1)) 0 = (kn A).getD j 0
    · rw [if_pos he, if_pos he]
      have h23A : P23 A := fun ps hp => h23 ps (List.mem_append_left _ hp)
      have hndA : (A.map fun ps => ps.getD 0 0).Nodup := by
        rw [List.map_append] at hnd
        exact (List.nodup_append.mp hnd).1
      obtain ⟨_, ps, p1, p2, p3, _⟩ := knots_eq h23A hndA (by lia) (by lia) he
      rw [← p3, slOf_at hnd (List.mem_append_left _ p1) p2, slOf_at hndA p1 p2]
    · rw [if_neg he, if_neg he]
theorem steps_prefix {A B : List (List Rat)} (h23 : P23 (A ++ B)) (hnd : ((A ++ B).map fun ps => ps.getD 0 0).Nodup) : (stepsOf (A ++ B)).take (tell A).length = stepsOf A := by
  unfold stepsOf
  rw [tell_app, List.length_append, ← List.map_take, List.take_range, Nat.min_eq_left (by lia)]
  exact List.map_congr_left fun k hk => tab_prefix h23 hnd k 0 (by have := List.mem_range.mp hk; lia)
inductive spPutIn (K : PySem.W.Frag) (vs : List V) (H : Hp) (Q : VK) (E_3 : XK) : Prop
  | mk (r : Addr) (x : V) (xs : List V) (pss : List (List Rat)) (ps : List Rat) (h1 : vs = [.ref r, x]) (h2 : SqT K H r xs) (h3 : PtsT K H xs pss) (h4 : PtT K H x ps) (h5 : P23 (pss ++ [ps])) (h6 : ((pss ++ [ps]).map fun ps => ps.getD 0 0).Nodup) (h7 : (tell (pss ++ [ps])).length ≤ 12) (h8 : ∀ (p : Addr) (H' : Hp), Same H H' → SqT K H' p (xs ++ [x]) → Q (.ref p) H') : spPutIn K vs H Q E_3
theorem pt_cut {K : PySem.W.Frag} {H : Hp} {us : List V} {ps : List Rat} {t p : Addr} (n : Nat) (hS : SqT K H t (us.take (n + 1))) (hn : Nums K H us ps) (h0 : us[0]? = some (.ref p)) (hp : H p = some (nT (ps.getD 0 0))) : PtT K H (.ref t) (ps.take (n + 1)) := by
  refine ⟨t, _, p, rfl, hS, Paired.take _ hn, ?_, ?_⟩
  · rw [List.getElem?_take, if_pos (by lia)]; exact h0
  · cases ps with
    | nil => exact hp
    | cons a r => exact hp

inductive spToldS (K : PySem.W.Frag) (vs : List V) (H : Hp) (Q : VK) (E_3 : XK) : Prop
  | mk (b : Bool) (r : Addr) (xs : List V) (pss : List (List Rat)) (h1 : vs = [.ref r]) (h2 : Sq b K H r xs) (h3 : Pts K H xs pss) (h4 : P23 pss) (h5 : pss.length ≤ 100) (h6 : ∀ (p : Addr) (H' : Hp) (ys : List V), Same H H' → H p = none → H' p = some (.lst ys) → Tls K H' ys (tell pss) → Q (.ref p) H') : spToldS K vs H Q E_3
section
variable {X : Cx}
theorem ixSeq (K : PySem.W.Frag) (e : X.K = K := by rfl) : IxR X (rIx K) := by subst e; exact ix_seq
end
theorem ix_of {K : PySem.W.Frag} {b : Bool} {H : Hp} {p : Addr} {xs : List V} {i : Int} {v : V} {Q : VK} (h : Sq b K H p xs) (e : atI xs i = some v) (q : Q v H) : rIx K (.ref p) (.int i) H Q := by
  cases b
  · exact .inr (.inl ⟨p, xs, i, v, rfl, rfl, h, e, q⟩)
  · exact .inl ⟨p, xs, i, v, rfl, rfl, h, e, q⟩
theorem Sq.any {b : Bool} {K : PySem.W.Frag} {H : Hp} {r : Addr} {xs : List V} (h : Sq b K H r xs) : SqL K H r xs ∨ SqT K H r xs := by
  cases b
  · exact .inr h
  · exact .inl h
def CrS (b : Bool) (K : PySem.W.Frag) (H : Hp) (c : Addr) (cs : List Rat) : Prop := ∃ xs, Sq b K H c xs ∧ Nums K H xs cs
theorem CrS.same {b : Bool} {K : PySem.W.Frag} {H H' : Hp} {c : Addr} {cs : List Rat} (h : CrS b K H c cs) (s : Same H H') : CrS b K H' c cs := let ⟨xs, h1, h2⟩ := h; ⟨xs, Sq.same h1 s, Nums.same h2 s⟩
inductive spSlopeAt3 (K : PySem.W.Frag) (vs : List V) (H : Hp) (Q : VK) (E_3 : XK) : Prop
  | mk (b : Bool) (c rx : Addr) (cs : List Rat) (x : Rat) (m n : Nat) (h1 : vs = [.ref c, .ref rx]) (h2 : CrS b K H c cs) (h3 : NumV K H (.ref rx) x) (h4 : (∀ q ∈ cs, RB m q)) (h5 : RB n x) (h6 : cs.length ≤ 20) (h7 : 1 ≤ m) (h8 : (m + 11 + n * cs.length + 4) * (cs.length + 2) ≤ 90000000) (h9 : ∀ p H', Same H H' → H' p = some (nT (Cv.ev (slopeL cs) x)) → RB ((m + 11 + n * cs.length + 4) * (cs.length + 1)) (Cv.ev (slopeL cs) x) → Q (.ref p) H') : spSlopeAt3 K vs H Q E_3
inductive spMissed3 (K : PySem.W.Frag) (vs : List V) (H : Hp) (Q : VK) (E_3 : XK) : Prop
  | mk (d b : Bool) (r c : Addr) (xs : List V) (pss : List (List Rat)) (cs : List Rat) (m n : Nat) (h1 : vs = [.ref r, .ref c]) (h2 : Sq d K H r xs) (h3 : Pts K H xs pss) (h4 : P23 pss) (h5 : pss.length ≤ 20) (h6 : CrS b K H c cs) (h7 : cs.length ≤ 20) (h8 : (∀ ps ∈ pss, ∀ q ∈ ps, RB n q)) (h9 : (∀ q ∈ cs, RB m q)) (h10 : 1 ≤ m) (h11 : 1 ≤ n) (h12 : (m + 11 + n * cs.length + 4) * (cs.length + 2) ≤ 90000000) (h13 : ∀ (p : Addr) (H' : Hp) (ys : List V), Same H H' → H p = none → H' p = some (.lst ys) → Mss K H' ys (msd cs (tell pss)) → Q (.ref p) H') : spMissed3 K vs H Q E_3

theorem atV {xs : List V} {i : Nat} {x : V} {k : Int} (h : xs[i]? = some x) (e : k = (i : Int)) : atI xs k = some x := by subst e; exact atI_nat h
theorem ev_take_succ (x : Rat) (l : List Rat) (i : Nat) (v : Rat) (h : l[i]? = some v) : Cv.ev (l.take (i + 1)) x = Cv.ev (l.take i) x + v * x ^ i := by
  have hi : i < l.length := (List.getElem?_eq_some_iff.mp h).1
  rw [List.take_add_one, h]
  show Cv.ev (l.take i ++ [v]) x = _
  rw [Cv.ev_snoc, List.length_take, Nat.min_eq_left (by lia)]
theorem newton_app (X : Rat) (rk rs : List Rat) : ∀ (ks ss : List Rat), ks.length = ss.length → newton (ks ++ rk) (ss ++ rs) X = newton ks ss X + L2.prV X ks * newton rk rs X
  | [], [], _ => by show newton rk rs X = 0 + 1 * newton rk rs X; grind
  | k :: ks, s :: ss, h => by
    have ih := newton_app X rk rs ks ss (by simpa using h)
    show s + (X - k) * newton (ks ++ rk) (ss ++ rs) X = s + (X - k) * newton ks ss X + (X - k) * L2.prV X ks * newton rk rs X
    rw [ih]; grind
theorem newton_take {X k s : Rat} {ks ss : List Rat} {i : Nat} (hk : ks[i]? = some k) (hs : ss[i]? = some s) : newton (ks.take (i + 1)) (ss.take (i + 1)) X = newton (ks.take i) (ss.take i) X + s * L2.prV X (ks.take i) := by
  have h1 := (List.getElem?_eq_some_iff.mp hk).1
  have h2 := (List.getElem?_eq_some_iff.mp hs).1
  rw [List.take_add_one, List.take_add_one, hk, hs]
  exact newton_snoc X k s _ _ (by rw [List.length_take, List.length_take]; lia)
theorem prV_take {X k : Rat} {ks : List Rat} {i : Nat} (hk : ks[i]? = some k) : L2.prV X (ks.take (i + 1)) = L2.prV X (ks.take i) * Cv.ev [0 - k, 1] X := by
  rw [List.take_add_one, hk, L2.prV_app]
  show _ * ((X - k) * 1) = _ * ((0 - k) + X * (1 + X * 0))
  grind
def Mf : Nat → Nat
  | 0 => 1
  | k + 1 => (k + 1) * (Mf k + 19) + 1
theorem Mf_le : ∀ k, k ≤ 7 → Mf k ≤ 280000 := by decide
theorem ev_zapp (X : Rat) (n : Nat) : ∀ fs : List Rat, Cv.ev (fs ++ List.replicate n 0) X = Cv.ev fs X
  | [] => by rw [List.nil_append, Cv.ev_zeros]; rfl
  | f :: fs => by
    show f + X * Cv.ev (fs ++ List.replicate n 0) X = f + X * Cv.ev fs X
    rw [ev_zapp X n fs]
inductive spNewSteps (K : PySem.W.Frag) (vs : List V) (H : Hp) (Q : VK) (E_3 : XK) : Prop
  | mk (r : Addr) (x : V) (xs : List V) (pss : List (List Rat)) (ps : List Rat) (hh n : Nat) (h1 : vs = [.ref r, x]) (h2 : SqT K H r xs) (h3 : PtsT K H xs pss) (h4 : PtT K H x ps) (h5 : P23 (pss ++ [ps])) (h6 : ((pss ++ [ps]).map fun ps => ps.getD 0 0).Nodup) (h7 : (tell (pss ++ [ps])).length ≤ 12) (h8 : (∀ q ∈ pss ++ [ps], ∀ c ∈ q, RB hh c)) (h9 : (∀ q ∈ pss ++ [ps], RB n (q.getD 0 0))) (h10 : 1 ≤ hh) (h11 : hh + 2 * n + 2 ≤ 1000) (h12 : ∀ (l : Addr) (H' : Hp) (zs : List V), Same H H' → H l = none → H' l = some (.lst zs) → Nums K H' zs ((stepsOf (pss ++ [ps])).drop (tell pss).length) → Q (.ref l) H') : spNewSteps K vs H Q E_3
inductive spProdL (K : PySem.W.Frag) (vs : List V) (H : Hp) (Q : VK) (E_3 : XK) : Prop
  | mk (r u : Addr) (xs ys : List V) (qs ps : List Rat) (m n : Nat) (h1 : vs = [.ref r, .ref u]) (h2 : SqL K H r xs) (h3 : Nums K H xs qs) (h4 : SqL K H u ys) (h5 : Nums K H ys ps) (h6 : (∀ q ∈ qs, RB m q)) (h7 : (∀ q ∈ ps, RB n q)) (h8 : m + n ≤ 400000) (h9 : 1 ≤ qs.length) (h10 : 1 ≤ ps.length) (h11 : qs.length ≤ 20) (h12 : ps.length ≤ 20) (h13 : ∀ (p : Addr) (H' : Hp) (zs : List V) (ms : List Rat), Same H H' → H p = none → H' p = some (.lst zs) → Nums K H' zs ms → ms.length = qs.length + ps.length - 1 → (∀ x, Cv.ev ms x = Cv.ev qs x * Cv.ev ps x) → (∀ q ∈ ms, RB (qs.length * (m + n + 1) + 1) q) → Q (.ref p) H') : spProdL K vs H Q E_3
inductive spBehind (K : PySem.W.Frag) (vs : List V) (H : Hp) (Q : VK) (E_3 : XK) : Prop
  | mk (c kl sl : Addr) (kv sv : List V) (cs ks ss : List Rat) (m1 m2 : Nat) (h1 : vs = [.ref c, .ref kl, .ref sl]) (h2 : Crv K H c cs) (h3 : SqL K H kl kv) (h4 : Nums K H kv ks) (h5 : SqL K H sl sv) (h6 : Nums K H sv ss) (h7 : ss.length ≤ 2) (h8 : ss.length ≤ ks.length) (h9 : ks.length ≤ 8) (h10 : cs.length ≤ 8) (h11 : (∀ q ∈ ks, RB 16 q)) (h12 : (∀ q ∈ ss, RB m1 q)) (h13 : (∀ q ∈ cs, RB m2 q)) (h14 : 1 ≤ m2) (h15 : m1 ≤ 200000) (h16 : m2 ≤ 3000000) (h17 : ∀ (p : Addr) (H' : Hp) (zs : List V) (fs : List Rat), Same H H' → H' p = some (.lst zs) → Nums K H' zs fs → fs.length ≤ 9 → (∀ X, Cv.ev fs X = Cv.ev cs X + L2.prV X (ks.take (ks.length - ss.length)) * newton (ks.drop (ks.length - ss.length)) ss X) → (∀ q ∈ fs, RB (m2 + 1000000) q) → Q (.ref p) H') : spBehind K vs H Q E_3

theorem kit_ll (K : PySem.W.Frag) : PySem.W.kitOne K (.type "list") (.type "list") = some true := by kernel_rfl

section
variable {P : Program} {w : World} {K : PySem.W.Frag} {mg : Str → Option Value} {base : Heap}
theorem sc__law_pen : FnScope ["_law_script", "_law_k", "_law_cell"] ["_law_script", "_law_k"] (defScope (top 38)) := ⟨rfl, rfl, rfl, by decide +kernel, rfl, by decide +kernel, by decide +kernel⟩
set_option maxHeartbeats 4000000 in
theorem ok__law_pen {f : Addr} {fd : FuncData} (F : Fun K "_law_pen" "_law_pen" (top 38) f fd) (b_len : mg "len" = none) (hT : P.given.tree = none) :
    FnOk P w K mg base CX0 33 f fd ["_law_script", "_law_k"] (spPen K) := by
  refine F.ok sc__law_pen (fun vs H Q E h => ?_) (fun cdv A outer s H vs Q E hr h => ?_)
  · obtain ⟨_, _, _, rfl, _⟩ := h; rfl
  refine ⟨_, (pss_consC (K := K) (ps_set (i := 2) sc__law_pen.nd rfl (Or.inl rfl) (pe_op op_add (pe_op op_mulC pe_int (pv 1)) pe_int))
    (pss_consC (K := K) (ps_ifC (K := K) (pt_cmpR op_lt (pv 1) (pe_callB (lenK K) rfl b_len bt_len (pa_cons (pv 0) pa_nil)) (nomark _)) (pss_one (ps_set (i := 2) sc__law_pen.nd rfl (Or.inl rfl) (pe_ix (ixL K) (pv 0) (pv 1) (fun u v => rfl)))) (pss_one (ps_ifC (K := K) (pt_cmpR op_gt (pe_callB (lenK K) rfl b_len bt_len (pa_cons (pv 0) pa_nil)) pe_int (nomark _)) (pss_one (ps_set (i := 2) sc__law_pen.nd rfl (Or.inl rfl) (pe_op op_add (pe_ix (ixL K) (pv 0) (pe_op op_mod (pv 1) (pe_callB (lenK K) rfl b_len bt_len (pa_cons (pv 0) pa_nil))) (fun u v => rfl)) (pe_op op_mulC pe_int (pv 1))))) pss_nil (by rfl) (by rfl))) (by rfl) (by rfl))
    (pss_consC (K := K) (ps_ifC (K := K) (pt_cmpR op_ge (pv 2) (pe_op op_pow pe_int pe_int) (nomark _)) (pss_one (ps_ret (pe_lst (pa_cons (pe_op op_sub (pv 2) (pe_op op_pow pe_int pe_int)) (pa_cons (pe_op op_mod (pv 2) pe_int) (pa_cons pe_int pa_nil)))))) pss_nil (by rfl) (by rfl))
    (pss_one (ps_ret (pe_lst (pa_cons pe_int (pa_cons (pe_op op_add (pe_op op_mod (pv 2) pe_int) (pe_op op_mulC pe_int (pv 1))) (pa_cons pe_int pa_nil)))))) (by rfl)) (by rfl)) (by rfl)), ?_⟩
  obtain ⟨a, ns, k, rfl, hS, h63, h0, h62, q⟩ := h
  have hl : (ns.map V.int).length = ns.length := List.length_map _
  have P3 : 3 ≤ sizeLine := by decide
  have C1 : CPow 10 18 := by unfold CPow; decide
  refine ⟨_, rfl, _, _, rfl, rfl, .inl ⟨by decide, by decide⟩, _, _, rfl, rfl, ?_⟩
  refine ⟨_, rfl, _, rfl, a, _, rfl, .inl hS, _, _, rfl, rfl, _, rfl, ?_⟩
  rw [hl]
  have hk1 : k < (ns.length : Int) → ∃ v : Int, atI (ns.map V.int) k = some (.int v) := fun c => at_ints h0 c
  have hk2 : 0 < (ns.length : Int) → ∃ v : Int, atI (ns.map V.int) (k % (ns.length : Int)) = some (.int v) := fun c => at_ints (Int.emod_nonneg _ (by lia)) (Int.emod_lt_of_pos _ c)
  refine ite2 (fun c => ?_) (fun c => ?_)
  · obtain ⟨v, hv⟩ := (hk1 (of_decide_eq_true c))
    refine ⟨_, rfl, _, rfl, a, _, _, _, rfl, rfl, hS, hv, ?_⟩
    refine ⟨_, rfl, _, _, rfl, rfl, C1, _, _, rfl, rfl, _, rfl, ?_⟩
    refine ite2 (fun c => ?_) (fun c => ?_)
    · exact ⟨_, rfl, _, _, rfl, rfl, C1, _, _, rfl, rfl, _, rfl, _, _, rfl, rfl, (by first | decide | (dsimp only; decide)), P3, fun p hp => q p _ _ hp⟩
    · exact ⟨_, rfl, _, _, rfl, rfl, (by first | decide | (dsimp only; decide)), _, rfl, _, _, rfl, rfl, .inl ⟨by decide, by decide⟩, _, _, rfl, rfl, P3, fun p hp => q p _ _ hp⟩
  · refine ⟨_, rfl, a, _, rfl, .inl hS, _, _, rfl, rfl, _, rfl, ?_⟩
    rw [hl]
    refine ite2 (fun c => ?_) (fun c => ?_)
    · obtain ⟨v, hv⟩ := (hk2 (of_decide_eq_true c))
      have c' : 0 < (((ns.map V.int).length : Nat) : Int) := by rw [hl]; exact of_decide_eq_true c
      rw [← hl] at hv
      refine ⟨_, rfl, _, rfl, _, rfl, a, _, rfl, .inl hS, _, _, rfl, rfl, c', a, _, _, _, rfl, rfl, hS, hv, _, rfl, _, _, rfl, rfl, .inl ⟨by decide, by decide⟩, _, _, rfl, rfl, ?_⟩
      refine ⟨_, rfl, _, _, rfl, rfl, C1, _, _, rfl, rfl, _, rfl, ?_⟩
      refine ite2 (fun c => ?_) (fun c => ?_)
      · exact ⟨_, rfl, _, _, rfl, rfl, C1, _, _, rfl, rfl, _, rfl, _, _, rfl, rfl, (by first | decide | (dsimp only; decide)), P3, fun p hp => q p _ _ hp⟩
      · exact ⟨_, rfl, _, _, rfl, rfl, (by first | decide | (dsimp only; decide)), _, rfl, _, _, rfl, rfl, .inl ⟨by decide, by decide⟩, _, _, rfl, rfl, P3, fun p hp => q p _ _ hp⟩
    · refine ⟨_, rfl, _, _, rfl, rfl, C1, _, _, rfl, rfl, _, rfl, ?_⟩
      refine ite2 (fun c => ?_) (fun c => ?_)
      · exact ⟨_, rfl, _, _, rfl, rfl, C1, _, _, rfl, rfl, _, rfl, _, _, rfl, rfl, (by first | decide | (dsimp only; decide)), P3, fun p hp => q p _ _ hp⟩
      · exact ⟨_, rfl, _, _, rfl, rfl, (by first | decide | (dsimp only; decide)), _, rfl, _, _, rfl, rfl, .inl ⟨by decide, by decide⟩, _, _, rfl, rfl, P3, fun p hp => q p _ _ hp⟩
theorem sc__law_lowest : FnScope ["_law_top", "_law_bottom", "_law_one", "_law_other"] ["_law_top", "_law_bottom"] (defScope (top 40)) := ⟨rfl, rfl, rfl, by decide +kernel, rfl, by decide +kernel, by decide +kernel⟩
set_option maxHeartbeats 4000000 in
theorem ok__law_lowest {f : Addr} {fd : FuncData} (F : Fun K "_law_lowest" "_law_lowest" (top 40) f fd) (b_abs : mg "abs" = none) (hT : P.given.tree = none) :
    FnOk P w K mg base CX0 33 f fd ["_law_top", "_law_bottom"] (spLow) := by
  refine F.ok sc__law_lowest (fun vs H Q E h => ?_) (fun cdv A outer s H vs Q E hr h => ?_)
  · obtain ⟨_, _, rfl, _⟩ := h; rfl
  refine ⟨_, (pss_consC (K := K) (ps_set (i := 2) sc__law_lowest.nd rfl (Or.inl rfl) (pe_callB call_abs rfl b_abs bt_abs (pa_cons (pv 0) pa_nil)))
    (pss_consC (K := K) (ps_set (i := 3) sc__law_lowest.nd rfl (Or.inl rfl) (pe_callB call_abs rfl b_abs bt_abs (pa_cons (pv 1) pa_nil)))
    (pss_consC (K := K) (ps_while PassesOwn.never (pt_cmpR op_gt (pv 3) pe_int (nomark _)) (pss_one (ps_par (i := 2) (j := 3) rfl sc__law_lowest.nd rfl rfl (by decide) rfl rfl (pa_cons (pv 3) (pa_cons (pe_op op_mod (pv 2) (pv 3)) pa_nil)) (by with_unfolding_all rfl))))
    (pss_consC (K := K) (ps_ifC (K := K) (pt_cmpR op_lt (pv 1) pe_int (nomark _)) (pss_one (ps_set (i := 2) sc__law_lowest.nd rfl (Or.inl rfl) (pe_op op_sub pe_int (pv 2)))) pss_nil (by rfl) (by rfl))
    (pss_one (ps_ret (pe_tup (pa_cons (pe_op (op_fdivX hr hT) (pv 0) (pv 2)) (pa_cons (pe_op (op_fdivX hr hT) (pv 1) (pv 2)) pa_nil))))) (by rfl)) (by rfl)) (by rfl)) (by rfl)), ?_⟩
  obtain ⟨a, b, rfl, hb, q⟩ := h
  refine ⟨_, rfl, a, rfl, ?_⟩
  refine ⟨_, rfl, b, rfl, ?_⟩
  refine while_by (L3 H a b fun H a b σ H' => H' = H ∧ ∃ (x y : Int), σ = [some (.int a), some (.int b), some (.int x), some (.int y)] ∧ 0 ≤ x ∧ 0 ≤ y ∧ Int.gcd x y = Int.gcd a b) (fun σ _ => mu 3 σ)
    ⟨rfl, _, _, rfl, ?_, ?_, ?_⟩ ?_ ?_
  · rw [Nm.abs_if]; exact Int.natCast_nonneg _
  · rw [Nm.abs_if]; exact Int.natCast_nonneg _
  · rw [Nm.abs_if, Nm.abs_if]; rfl
  · rintro σ H' hR1
    refine anE2 hR1 fun hq1 hz3 => ?_
    refine exE2 hz3 fun x y hz3' => ?_
    clear hz3
    refine anE4 hz3' fun hq2 hx hy hg => ?_
    clear hz3'
    obtain rfl := hq1
    obtain rfl := hq2
    try clear hR1
    refine ⟨_, rfl, _, _, rfl, rfl, _, rfl, ?_⟩
    by_cases hy0 : y = 0
    · subst hy0
      refine iteF ?_
      have e : (Int.gcd a b : Int) = x := by rw [← hg, Int.gcd_zero]; lia
      subst e
      refine ⟨_, rfl, _, _, rfl, rfl, _, rfl, ?_⟩
      have hd : Nm.msr a b ≠ 0 := Nm.msr_ne hb
      have fin : ∀ p, H' p = none → Q (.ref p) (upd H' p (.tup [.int (a.fdiv (Nm.msr a b)), .int (b.fdiv (Nm.msr a b))])) := fun p hp => by
        rw [Nm.top_msr hb, Nm.bottom_msr hb]; exact q p hp
      by_cases hb0 : b < 0
      · have hd' : Nm.msr a b = 0 - (Int.gcd a b : Int) := by unfold Nm.msr; rw [if_pos hb0]; lia
        rw [hd'] at hd fin
        refine iteTc (by rw [decide_eq_true hb0] <;> rfl) ⟨_, rfl, _, _, rfl, rfl, ?_⟩
        exact ⟨_, rfl, _, rfl, _, _, rfl, rfl, hd, _, rfl, _, rfl, _, _, rfl, rfl, hd, (by decide : 2 ≤ sizeLine), fin⟩
      · have hd' : Nm.msr a b = (Int.gcd a b : Int) := by unfold Nm.msr; rw [if_neg hb0]
        rw [hd'] at hd fin
        refine iteFc (by rw [decide_eq_false hb0] <;> rfl) ?_
        exact ⟨_, rfl, _, rfl, _, _, rfl, rfl, hd, _, rfl, _, rfl, _, _, rfl, rfl, hd, (by decide : 2 ≤ sizeLine), fin⟩
    · have hyp : 0 < y := by lia
      refine iteTc (by rw [decide_eq_true hyp] <;> rfl) ?_
      refine ⟨_, rfl, _, rfl, _, rfl, _, _, rfl, rfl, hyp, _, _, rfl, ⟨rfl, y, x % y, rfl, hy, Int.emod_nonneg _ hy0, ?_⟩, ?_⟩
      · rw [Nm.gcd_turn]; exact hg
      · show (x % y).toNat < y.toNat
        have := Int.emod_lt_of_pos x hyp
        lia
  · rintro σ H' Q1 Q2 hm hR2
    obtain ⟨v, e, i, j, e1, e2, k, ek, q1⟩ := hR2
    try clear hR2
    exact ⟨v, e, i, j, e1, e2, k, ek, hm _ _ q1⟩
theorem sc__law_draw : FnScope ["_law_pen_here", "_law_many", "_law_drawn", "_law_number_here"] ["_law_pen_here", "_law_many"] (defScope (top 39)) := ⟨rfl, rfl, rfl, by decide +kernel, rfl, by decide +kernel, by decide +kernel⟩
set_option maxHeartbeats 4000000 in
theorem ok__law_draw {f : Addr} {fd : FuncData} (F : Fun K "_law_draw" "_law_draw" (top 39) f fd) (hT : P.given.tree = none) :
    FnOk P w K mg base CX0 33 f fd ["_law_pen_here", "_law_many"] (spDraw) := by
  refine F.ok sc__law_draw (fun vs H Q E h => ?_) (fun cdv A outer s H vs Q E hr h => ?_)
  · obtain ⟨_, _, rfl, _⟩ := h; rfl
  refine ⟨_, (pss_consC (K := K) (ps_asg (pe_op op_add (pe_ix (ixL K) (pv 0) pe_int (fun u v => rfl)) pe_int) (pg_sub (pv 0) pe_int set_list))
    (pss_consC (K := K) (ps_ifC (K := K) (pt_cmpR op_gt (pe_ix (ixL K) (pv 0) pe_int (fun u v => rfl)) pe_int (nomark _)) (pss_consC (K := K) (ps_set (i := 2) sc__law_draw.nd rfl (Or.inl rfl) (pe_op op_mod (pe_ix (ixL K) (pv 0) pe_int (fun u v => rfl)) (pv 1)))
    (pss_consC (K := K) (ps_asg (pe_op (op_fdivX hr hT) (pe_ix (ixL K) (pv 0) pe_int (fun u v => rfl)) (pv 1)) (pg_sub (pv 0) pe_int set_list))
    (pss_one (ps_ret (pv 2))) (by rfl)) (by rfl)) pss_nil (by rfl) (by rfl))
    (pss_consC (K := K) (ps_set (i := 3) sc__law_draw.nd rfl (Or.inl rfl) (pe_op op_mod (pe_op op_mulC (pe_op op_add (pe_op op_add (pe_ix (ixL K) (pv 0) pe_int (fun u v => rfl)) (pe_op op_mulC pe_int (pe_ix (ixL K) (pv 0) pe_int (fun u v => rfl)))) pe_int) pe_int) pe_int))
    (pss_consC (K := K) (ps_set (i := 3) sc__law_draw.nd rfl (Or.inl rfl) (pe_op op_mod (pe_op op_mulC (pv 3) (pe_op op_add (pe_op op_add (pe_op op_mod (pv 3) pe_int) (pe_ix (ixL K) (pv 0) pe_int (fun u v => rfl))) pe_int)) pe_int))
    (pss_one (ps_ret (pe_op op_mod (pe_op (op_fdivX hr hT) (pe_op op_mod (pe_op op_mulC (pv 3) (pe_op op_add (pe_op op_mod (pv 3) pe_int) pe_int)) pe_int) pe_int) (pv 1)))) (by rfl)) (by rfl)) (by rfl)) (by rfl)), ?_⟩
  obtain ⟨a, m, rfl, ⟨c0, c1, c2, hp⟩, h1, h2, q0⟩ := h
  have q : ∀ d c0' c2' : Int, 0 ≤ d → d < m → Q (.int d) (upd H a (.lst [.int c0', .int c1, .int c2'])) := fun d _ _ h3 h4 => q0 d _ h3 h4 .put .put
  have hm : m ≠ 0 := by lia
  have q' : ∀ (o : HO) (d c0' c2' : Int), 0 ≤ d → d < m → Q (.int d) (upd (upd H a o) a (.lst [.int c0', .int c1, .int c2'])) := fun o d c0' c2' h3 h4 => by rw [upd_upd]; exact q d c0' c2' h3 h4
  refine ⟨_, rfl, a, _, _, _, rfl, rfl, SqL.of hp, rfl, _, _, rfl, rfl, _, rfl, a, _, _, _, rfl, rfl, hp, rfl, ?_⟩
  refine ⟨_, rfl, a, _, _, _, rfl, rfl, SqL.of upd_same, rfl, _, _, rfl, rfl, _, rfl, ?_⟩
  refine ite2 (fun c => ?_) (fun c => ?_)
  · refine ⟨_, rfl, a, _, _, _, rfl, rfl, SqL.of upd_same, rfl, _, rfl, _, _, rfl, rfl, (by lia : 0 < m), ?_⟩
    refine ⟨_, rfl, a, _, _, _, rfl, rfl, SqL.of upd_same, rfl, _, rfl, _, _, rfl, rfl, hm, _, rfl, a, _, _, _, rfl, rfl, upd_same, rfl, ?_⟩
    refine ⟨_, rfl, ?_⟩
    exact q' _ _ _ _ (Int.emod_nonneg _ (by lia)) (Int.emod_lt_of_pos _ (by lia))
  · have cl : ∀ z : Int, 0 < z → (0 : Int) < z := fun _ h => h
    refine ⟨_, rfl, a, _, _, _, rfl, rfl, SqL.of upd_same, rfl, _, rfl, a, _, _, _, rfl, rfl, SqL.of upd_same, rfl, _, _, rfl, rfl, .inl ⟨by decide, by decide⟩, _, _, rfl, rfl, _, _, rfl, rfl, _, _, rfl, rfl, .inr (.inl ⟨by decide, by decide⟩), _, _, rfl, rfl, (by first | decide | (dsimp only; decide)), ?_⟩
    have n1 := Int.emod_nonneg ((c1 + 40503 * (c2 + 1) + 1) * 48271) (show (2147483647 : Int) ≠ 0 by decide)
    have n2 := Int.emod_lt_of_pos ((c1 + 40503 * (c2 + 1) + 1) * 48271) (show (0 : Int) < 2147483647 by decide)
    generalize hN : (c1 + 40503 * (c2 + 1) + 1) * 48271 % 2147483647 = N at n1 n2
    refine ⟨_, rfl, _, rfl, _, _, rfl, rfl, (by first | decide | (dsimp only; decide)), _, rfl, a, _, _, _, rfl, rfl, SqL.of upd_same, rfl, _, _, rfl, rfl, _, _, rfl, rfl, _, _, rfl, rfl, .inl ?_, _, _, rfl, rfl, (by first | decide | (dsimp only; decide)), ?_⟩
    · (try rw [hN]); lia
    try rw [hN]
    have n3 := Int.emod_nonneg (N * (N % 65521 + (c2 + 1) + 3)) (show (2147483629 : Int) ≠ 0 by decide)
    have n4 := Int.emod_lt_of_pos (N * (N % 65521 + (c2 + 1) + 3)) (show (0 : Int) < 2147483629 by decide)
    generalize N * (N % 65521 + (c2 + 1) + 3) % 2147483629 = M at n3 n4
    refine ⟨_, rfl, _, rfl, _, _, rfl, rfl, (by first | decide | (dsimp only; decide)), _, _, rfl, rfl, _, _, rfl, rfl, .inl ⟨by lia, by lia⟩, _, _, rfl, rfl, (by first | decide | (dsimp only; decide)), _, _, rfl, rfl, (by first | decide | (dsimp only; decide)), _, rfl, _, _, rfl, rfl, (by lia : 0 < m), ?_⟩
    exact q _ _ _ (Int.emod_nonneg _ (by lia)) (Int.emod_lt_of_pos _ (by lia))
theorem sc__law_number : FnScope ["_law_pen_here"] ["_law_pen_here"] (defScope (top 44)) := ⟨rfl, rfl, rfl, by decide +kernel, rfl, by decide +kernel, by decide +kernel⟩
set_option maxHeartbeats 4000000 in
theorem ok__law_number {f : Addr} {fd : FuncData} (F : Fun K "_law_number" "_law_number" (top 44) f fd) (F__law_lowest : Fd P w K mg base 33 "_law_lowest" ["_law_top", "_law_bottom"] (spLow)) (F__law_draw : Fd P w K mg base 33 "_law_draw" ["_law_pen_here", "_law_many"] (spDraw)) (hT : P.given.tree = none) :
    FnOk P w K mg base CX0 34 f fd ["_law_pen_here"] (spNum 8) := by
  refine F.ok sc__law_number (fun vs H Q E h => ?_) (fun cdv A outer s H vs Q E hr h => ?_)
  · obtain ⟨_, rfl, _⟩ := h; rfl
  refine ⟨_, (pss_consC (K := K) (ps_ifC (K := K) (pt_cmpR op_gt (pe_fn F__law_draw hr rfl (pa_cons (pv 0) (pa_cons pe_int pa_nil))) pe_int (nomark _)) (pss_one (ps_ret (pe_fn F__law_lowest hr rfl (pa_cons (pe_op op_sub (pe_fn F__law_draw hr rfl (pa_cons (pv 0) (pa_cons pe_int pa_nil))) pe_int) (pa_cons (pe_op op_add pe_int (pe_fn F__law_draw hr rfl (pa_cons (pv 0) (pa_cons (pe_ix (ixL K) (pe_lst (pa_cons pe_int (pa_cons pe_int pa_nil))) (pe_fn F__law_draw hr rfl (pa_cons (pv 0) (pa_cons pe_int pa_nil))) (fun u v => rfl)) pa_nil)))) pa_nil))))) pss_nil (by rfl) (by rfl))
    (pss_one (ps_ret (pe_fn F__law_lowest hr rfl (pa_cons (pe_op op_sub (pe_fn F__law_draw hr rfl (pa_cons (pv 0) (pa_cons pe_int pa_nil))) pe_int) (pa_cons (pe_op op_add pe_int (pe_fn F__law_draw hr rfl (pa_cons (pv 0) (pa_cons pe_int pa_nil)))) pa_nil))))) (by rfl)), ?_⟩
  obtain ⟨a, rfl, pn, q⟩ := h
  have b8 : ∀ x : Int, -200 < x → x < 200 → Bd 8 x := fun x h1 h2 => by unfold Bd; lia
  refine ⟨_, rfl, a, 6, rfl, pn, by decide, by decide, fun w H1 w0 w1 o1 p1 => ⟨_, _, rfl, rfl, _, rfl, ?_⟩⟩
  refine ite2 (fun c => ?_) (fun c => ?_)
  · refine ⟨_, rfl, a, 19, rfl, p1, by decide, by decide, fun d H2 d0 d1 o2 p2 => ⟨_, _, rfl, rfl, ?_⟩⟩
    refine ⟨_, rfl, (by decide : 2 ≤ sizeLine), fun l hl => ?_⟩
    refine ⟨_, rfl, a, 2, rfl, p2.same hl, by decide, by decide, fun e H3 e0 e1 o3 p3 => ?_⟩
    obtain ⟨v, hv, hm⟩ := (at_menu (xs := [1, 4]) (i := e) e0 e1)
    have hv1 : 1 ≤ v ∧ v ≤ 4 := by simp at hm; lia
    have hl3 : H3 l = some (.lst [.int 1, .int 4]) := by
      refine exE3 p2 fun x0 x1 x2 ex => ?_
      rw [o3 l (ne_of_none ex hl).symm]; exact upd_same
    refine ⟨l, _, _, _, rfl, rfl, SqL.of hl3, hv, a, v, rfl, p3, by lia, by lia, fun g H4 g0 g1 o4 p4 => ⟨_, _, rfl, rfl, _, _, rfl, by lia, fun r hr => ?_⟩⟩
    exact q _ r _ (o1.mv.trans (o2.mv.trans ((Mv.new hl).trans (o3.mv.trans (o4.mv.trans (Mv.new hr)))))) (p4.same hr) upd_same (Bd.num (b8 _ (by lia) (by lia))) (Bd.den (by lia) (b8 _ (by lia) (by lia)))
  · refine ⟨_, rfl, a, 199, rfl, p1, by decide, by decide, fun d H2 d0 d1 o2 p2 => ⟨_, _, rfl, rfl, ?_⟩⟩
    refine ⟨_, rfl, a, 9, rfl, p2, by decide, by decide, fun e H3 e0 e1 o3 p3 => ⟨_, _, rfl, rfl, _, _, rfl, by lia, fun r hr => ?_⟩⟩
    exact q _ r _ (o1.mv.trans (o2.mv.trans (o3.mv.trans (Mv.new hr)))) (p3.same hr) upd_same (Bd.num (b8 _ (by lia) (by lia))) (Bd.den (by lia) (b8 _ (by lia) (by lia)))
theorem sc__law_plus : FnScope ["_law_a", "_law_b"] ["_law_a", "_law_b"] (defScope (top 41)) := ⟨rfl, rfl, rfl, by decide +kernel, rfl, by decide +kernel, by decide +kernel⟩
set_option maxHeartbeats 4000000 in
theorem ok__law_plus {f : Addr} {fd : FuncData} (F : Fun K "_law_plus" "_law_plus" (top 41) f fd) (F__law_lowest : Fd P w K mg base 33 "_law_lowest" ["_law_top", "_law_bottom"] (spLow)) (hT : P.given.tree = none) :
    FnOk P w K mg base CX0 34 f fd ["_law_a", "_law_b"] (spBin K (· + ·)) := by
  refine F.ok sc__law_plus (fun vs H Q E h => ?_) (fun cdv A outer s H vs Q E hr h => ?_)
  · obtain ⟨_, _, _, _, _, _, rfl, _⟩ := h; rfl
  refine ⟨_, (pss_one (ps_ret (pe_fn F__law_lowest hr rfl (pa_cons (pe_op op_add (pe_op op_mulC (pe_ix (ixT K) (pv 0) pe_int (fun u v => rfl)) (pe_ix (ixT K) (pv 1) pe_int (fun u v => rfl))) (pe_op op_mulC (pe_ix (ixT K) (pv 1) pe_int (fun u v => rfl)) (pe_ix (ixT K) (pv 0) pe_int (fun u v => rfl)))) (pa_cons (pe_op op_mulC (pe_ix (ixT K) (pv 0) pe_int (fun u v => rfl)) (pe_ix (ixT K) (pv 1) pe_int (fun u v => rfl))) pa_nil))))), ?_⟩
  obtain ⟨x, y, p, q, m, n, rfl, ⟨r, rfl, hr⟩, ⟨u, rfl, hu⟩, hp, hq, hmn, k⟩ := h
  refine ⟨_, rfl, r, _, _, _, rfl, rfl, hr, rfl, _, rfl, u, _, _, _, rfl, rfl, hu, rfl, _, _, rfl, rfl, MulC.bd hp.1 hq.2, _, rfl, u, _, _, _, rfl, rfl, hu, rfl, _, rfl, r, _, _, _, rfl, rfl, hr, rfl, _, _, rfl, rfl, MulC.bd hq.1 hp.2, _, _, rfl, rfl, ?_⟩
  refine ⟨_, rfl, r, _, _, _, rfl, rfl, hr, rfl, _, rfl, u, _, _, _, rfl, rfl, hu, rfl, _, _, rfl, rfl, MulC.bd hp.2 hq.2, ?_⟩
  refine ⟨_, _, rfl, Int.mul_ne_zero (Nm.den_ne p) (Nm.den_ne q), fun z hz => ?_⟩
  have e := k z hz
  try dsimp only at e
  rw [← Nm.plus_eq] at e
  exact e
theorem sc__law_places : FnScope ["_law_pen_here", "_law_many", "_law_found", "_law_k", "_law_x"] ["_law_pen_here", "_law_many"] (defScope (top 47)) := ⟨rfl, rfl, rfl, by decide +kernel, rfl, by decide +kernel, by decide +kernel⟩
set_option maxHeartbeats 4000000 in
theorem ok__law_places {f : Addr} {fd : FuncData} (F : Fun K "_law_places" "_law_places" (top 47) f fd) (F__law_number : Fd P w K mg base 34 "_law_number" ["_law_pen_here"] (spNum 8)) (F__law_plus : Fd P w K mg base 34 "_law_plus" ["_law_a", "_law_b"] (spBin K (· + ·))) (b_range : mg "range" = none) (hT : P.given.tree = none) :
    FnOk P w K mg base CX0 35 f fd ["_law_pen_here", "_law_many"] (spPlacesT K 8) := by
  refine F.ok sc__law_places (fun vs H Q E h => ?_) (fun cdv A outer s H vs Q E hr h => ?_)
  · obtain ⟨_, _, rfl, _⟩ := h; rfl
  refine ⟨_, (pss_consC (K := K) (ps_set (i := 2) sc__law_places.nd rfl (Or.inl rfl) (pe_lst pa_nil))
    (pss_consC (K := K) (ps_forC (K := K) PassesOwn.never rfl (pi_range1 rfl b_range (pa_cons (pv 1) pa_nil)) (pg_name (i := 3) sc__law_places.nd rfl (Or.inl rfl)) (pss_consC (K := K) (ps_set (i := 4) sc__law_places.nd rfl (Or.inl rfl) (pe_fn F__law_number hr rfl (pa_cons (pv 0) pa_nil)))
    (pss_consC (K := K) (ps_while PassesOwn.never (pt_cmpR (inD K hr) (pv 4) (pv 2) (by with_unfolding_all rfl)) (pss_one (ps_set (i := 4) sc__law_places.nd rfl (Or.inl rfl) (pe_fn F__law_plus hr rfl (pa_cons (pv 4) (pa_cons (pe_tup (pa_cons pe_int (pa_cons pe_int pa_nil))) pa_nil))))))
    (pss_one (ps_expr (pe_bmK K PySem.F.plainAttrs_list PySem.F.slot_list_append PySem.F.type_list_append mt_append (pv 2) (pa_cons (pv 4) pa_nil)))) (by rfl)) (by rfl)) (by rfl))
    (pss_one (ps_ret (pv 2))) (by rfl)) (by rfl)), ?_⟩
  obtain ⟨a, m, rfl, pn, h0, h100, q⟩ := h
  have P0 : 0 ≤ sizeLine := by decide
  have P2 : 2 ≤ sizeLine := by decide
  refine ⟨P0, fun l hl => ?_⟩
  have la : l ≠ a := pn.ne' hl
  obtain ⟨M, hM⟩ : ∃ M : Nat, (M : Int) = m := ⟨m.toNat, by lia⟩
  subst hM
  refine ⟨_, rfl, (M : Int), rfl, by lia, by lia, ?_⟩
  rw [Int.toNat_natCast]
  refine for_range (n := M) (L4 a H M l fun a H M l i σ H' => Mv a H H' ∧ Pen H' a ∧ ∃ zs qs z3 z4, σ = [some (.ref a), some (.int (M : Int)), some (.ref l), z3, z4] ∧ H' l = some (.lst zs) ∧ NumsT H' zs qs ∧ qs.length = i ∧ qs.Nodup ∧ ∀ q ∈ qs, RB (8 + 8) q) ⟨Mv.new hl, pn.same hl, [], [], none, none, rfl, upd_same, .nil, rfl, List.nodup_nil, (fun _ h => nomatch h)⟩ ?_ ?_
  · rintro i σ H' hi hR1
    refine anE3 hR1 fun mv pn' hz7 => ?_
    refine exE4 hz7 fun zs qs z3 z4 hz7' => ?_
    clear hz7
    refine anE6 hz7' fun hq6 el hz hql hnd hb => ?_
    clear hz7'
    obtain rfl := hq6
    try clear hR1
    refine ⟨_, rfl, a, rfl, pn', fun x0 r H3 m3 p3 hr bn bd => ?_⟩
    have el3 := m3 _ _ la el
    have hz3 := NumsT.mv hz pn' m3
    have hzl := hz.length
    refine ⟨fun μ σ H4 => Same H3 H4 ∧ ∃ (r : Addr) (x : Rat) (j : Nat), σ = [some (.ref a), some (.int (M : Int)), some (.ref l), some (.int (0 + (i : Int))), some (.ref r)] ∧ H4 r = some (nT x) ∧ x = x0 + (j : Rat) ∧ μ = cnt x qs ∧ j + cnt x qs ≤ qs.length,
      ⟨_, Same.refl _, r, x0, 0, rfl, hr, (by have z : ((0 : Nat) : Rat) = 0 := rfl; rw [z]; grind), rfl, by have := cnt_le x0 qs; lia⟩, ?_⟩
    rintro μ σ H4 hR2
    refine anE2 hR2 fun s4 hz10 => ?_
    refine exE3 hz10 fun r' x j hz10' => ?_
    clear hz10
    refine anE5 hz10' fun hq8 hr' hx hq9 hj => ?_
    clear hz10'
    obtain rfl := hq8
    obtain rfl := hq9
    try clear hR2
    have hxb : RB (8 + 8) x := by
      rw [hx]
      exact (RB.plus ⟨bn, bd⟩ (rb_nat (j := j) (by lia))).mono (by lia)
    refine ⟨_, rfl, _, rfl, ?_⟩
    refine inN (NumV.of hr') (SqL.of (s4 _ _ el3)) (NumsT.same hz3 s4).nums ?_
    refine ⟨_, rfl, ?_⟩
    by_cases hin : x ∈ qs
    · refine iteTc (by rw [decide_eq_true hin] <;> rfl) ⟨_, fun _ _ h => h, ?_⟩
      refine ⟨_, rfl, P2, fun t ht => ⟨_, _, _, _, 8 + 8, 1, rfl, NumV.of ((Same.new ht) _ _ hr'), NumV.of (upd_same (o := nT 1)), hxb, RB.one (by decide), by lia, fun u hu => ?_⟩⟩
      refine ⟨_, cnt_lt hin, (s4.trans (Same.new ht)).trans (Same.new hu), u, x + 1, j + 1, rfl, upd_same, ?_, rfl, by have := cnt_lt hin; lia⟩
      rw [hx, Rat.natCast_add]
      have z : ((1 : Nat) : Rat) = 1 := rfl
      rw [z]; grind
    · refine iteFc (by rw [decide_eq_false hin] <;> rfl) ?_
      have el4 := s4 _ _ el3
      refine ⟨_, rfl, .inl ⟨rfl, _, SqL.of el4⟩, _, rfl, l, zs, .ref r', rfl, rfl, el4, Nat.lt_of_lt_of_le (show zs.length < 300 by lia) (by decide), ?_⟩
      refine ⟨Mv.put' ((mv.trans m3).trans s4.mv) hl, (p3.sm s4).put' la, zs ++ [.ref r'], qs ++ [x], _, _, rfl, upd_same, Paired.snoc (NumsT.put (NumsT.same hz3 s4) el4) (NumT.put ⟨_, rfl, hr'⟩ el4), by simp [hql], ?_, fun c hc => ?_⟩
      · rw [List.nodup_append]
        exact ⟨hnd, by simp, fun b hb c hc => by rw [List.mem_singleton.mp hc]; exact fun z => hin (z ▸ hb)⟩
      · rcases List.mem_append.mp hc with z | z
        · exact hb c z
        · rw [List.mem_singleton.mp z]; exact hxb
  · rintro σ H' hR3
    refine anE3 hR3 fun mv pn' hz12 => ?_
    refine exE4 hz12 fun zs qs z3 z4 hz12' => ?_
    clear hz12
    refine anE6 hz12' fun hq11 el hz hql hnd hb => ?_
    clear hz12'
    obtain rfl := hq11
    try clear hR3
    exact ⟨_, rfl, q l H' zs qs mv pn' hl el hz (by rw [hql]) hnd hb⟩
theorem sc__law_points : FnScope ["_law_pen_here", "_law_most", "_law_room", "_law_found", "_law_x"] ["_law_pen_here", "_law_most"] (defScope (top 48)) := ⟨rfl, rfl, rfl, by decide +kernel, rfl, by decide +kernel, by decide +kernel⟩
set_option maxHeartbeats 4000000 in
theorem ok__law_points {f : Addr} {fd : FuncData} (F : Fun K "_law_points" "_law_points" (top 48) f fd) (F__law_places : Fd P w K mg base 35 "_law_places" ["_law_pen_here", "_law_many"] (spPlacesT K 8)) (F__law_draw : Fd P w K mg base 33 "_law_draw" ["_law_pen_here", "_law_many"] (spDraw)) (F__law_number : Fd P w K mg base 34 "_law_number" ["_law_pen_here"] (spNum 8)) (b_tuple : mg "tuple" = none) (hT : P.given.tree = none) :
    FnOk P w K mg base CX0 36 f fd ["_law_pen_here", "_law_most"] (spPointsT K 8) := by
  refine F.ok sc__law_points (fun vs H Q E h => ?_) (fun cdv A outer s H vs Q E hr h => ?_)
  · obtain ⟨_, _, rfl, _⟩ := h; rfl
  refine ⟨_, (pss_consC (K := K) (ps_set (i := 2) sc__law_points.nd rfl (Or.inl rfl) (pe_op op_add pe_int (pe_fn F__law_draw hr rfl (pa_cons (pv 0) (pa_cons (pv 1) pa_nil)))))
    (pss_consC (K := K) (ps_set (i := 3) sc__law_points.nd rfl (Or.inl rfl) (pe_lst pa_nil))
    (pss_consC (K := K) (ps_forC (K := K) PassesOwn.never rfl (piL K (pe_fn F__law_places hr rfl (pa_cons (pv 0) (pa_cons (pv 2) pa_nil)))) (pg_name (i := 4) sc__law_points.nd rfl (Or.inl rfl)) (pss_one (ps_ifC (K := K) (PW.pt (pw_and (pt_cmpR op_gt (pv 2) pe_int (nomark _)) (pw_and1 (pt_cmpR op_eq (pe_fn F__law_draw hr rfl (pa_cons (pv 0) (pa_cons pe_int pa_nil))) pe_int (nomark _))))) (pss_consC (K := K) (ps_expr (pe_bmK K PySem.F.plainAttrs_list PySem.F.slot_list_append PySem.F.type_list_append mt_append (pv 3) (pa_cons (pe_tup (pa_cons (pv 4) (pa_cons (pe_fn F__law_number hr rfl (pa_cons (pv 0) pa_nil)) (pa_cons (pe_fn F__law_number hr rfl (pa_cons (pv 0) pa_nil)) pa_nil)))) pa_nil)))
    (pss_one (ps_set (i := 2) sc__law_points.nd rfl (Or.inl rfl) (pe_op op_sub (pv 2) pe_int))) (by rfl)) (pss_one (ps_ifC (K := K) (pt_cmpR op_gt (pv 2) pe_int (nomark _)) (pss_consC (K := K) (ps_expr (pe_bmK K PySem.F.plainAttrs_list PySem.F.slot_list_append PySem.F.type_list_append mt_append (pv 3) (pa_cons (pe_tup (pa_cons (pv 4) (pa_cons (pe_fn F__law_number hr rfl (pa_cons (pv 0) pa_nil)) pa_nil))) pa_nil)))
    (pss_one (ps_set (i := 2) sc__law_points.nd rfl (Or.inl rfl) (pe_op op_sub (pv 2) pe_int))) (by rfl)) pss_nil (by rfl) (by rfl))) (by rfl) (by rfl))) (by rfl))
    (pss_one (ps_ret (pe_callTy (tupleK K) rfl b_tuple bt_tuple (pa_cons (pv 3) pa_nil)))) (by rfl)) (by rfl)) (by rfl)), ?_⟩
  obtain ⟨a, most, rfl, pn, h1, h100, q⟩ := h
  have P0 : 0 ≤ sizeLine := by decide
  have P2 : 2 ≤ sizeLine := by decide
  have P3 : 3 ≤ sizeLine := by decide
  refine ⟨_, rfl, _, rfl, a, most, rfl, pn, h1, by lia, fun d H1 d0 d1 o1 p1 => ⟨_, _, rfl, rfl, ?_⟩⟩
  refine ⟨P0, fun l hl1 => ?_⟩
  have la : l ≠ a := p1.ne' hl1
  have hl : H l = none := Mv.free o1.mv la hl1
  obtain ⟨R, hR⟩ : ∃ R : Nat, (R : Int) = 1 + d := ⟨(1 + d).toNat, by lia⟩
  refine ⟨_, rfl, _, rfl, a, 1 + d, rfl, p1.same hl1, by lia, by lia, fun w Hw ws qs mw pw hw ew hq hql hnd hb => ⟨w, rfl, ⟨_, SqL.of ew⟩, ?_⟩⟩
  have hwl := hq.length
  have wa : w ≠ a := (p1.same (o := .lst []) hl1).ne' hw
  have wl : w ≠ l := (ne_of_none (upd_same (H := H1) (a := l) (o := .lst [])) hw).symm
  refine for_list (xs := ws) (L9 a H w ws qs most l K d fun a H w ws qs most l K d i σ H' => Mv a H H' ∧ Pen H' a ∧ H' w = some (.lst ws) ∧ NumsT H' ws qs ∧ ∃ (room : Int) (ys : List V) (pss : List (List Rat)) (z4 : Option V), σ = [some (.ref a), some (.int most), some (.int room), some (.ref l), z4] ∧ H' l = some (.lst ys) ∧ PtsT K H' ys pss ∧ P23 pss ∧ (∀ ps ∈ pss, ∀ q ∈ ps, RB (8 + 8) q) ∧ (pss.map fun ps => ps.getD 0 0) = qs.take pss.length ∧ pss.length ≤ i ∧ ((tell pss).length : Int) + room = 1 + d ∧ 0 ≤ room ∧ (room = 0 ∨ pss.length = i))
    ⟨Mv.put' o1.mv hl |>.trans mw, pw, ew, hq, 1 + d, [], [], none, rfl, mw _ _ la upd_same, .nil, (fun _ h => nomatch h), (fun _ h => nomatch h), rfl, Nat.le_refl _, by simp [tell], by lia, .inr rfl⟩ (fun i σ H' _ h => SqL.of h.2.2.1) ?_ ?_
  · rintro i v σ H' hv hR1
    obtain ⟨mv, pn', ew', hq', room, ys, pss, z4, rfl, el, hps, h23, hrb, hplc, hpi, hrm, hr0, hdone⟩ := hR1
    try clear hR1
    obtain ⟨x, hx, vx, rfl, hvx⟩ := (Paired.get hq' hv)
    have hxn : NumT H' (.ref vx) x := ⟨_, rfl, hvx⟩
    have hxb := hb x (List.mem_of_getElem? hx)
    have hiq : i < qs.length := (List.getElem?_eq_some_iff.mp hx).1
    have hyl := hps.length
    have add : ∀ (ps : List Rat), ps.getD 0 0 = x → pss.length = i → ((pss ++ [ps]).map fun ps => ps.getD 0 0) = qs.take (pss ++ [ps]).length := fun ps h0 hlen => by
      rw [List.map_append, hplc, List.length_append, List.length_singleton, hlen, List.take_add_one, hx]
      show qs.take i ++ [ps.getD 0 0] = qs.take i ++ [x]
      rw [h0]
    refine ⟨_, rfl, _, _, rfl, rfl, _, rfl, ?_⟩
    by_cases h2 : (1 : Int) < room
    · refine iteTc (by rw [decide_eq_true h2] <;> rfl) ?_
      have hlen : pss.length = i := by lia
      refine ⟨_, rfl, a, 4, rfl, pn', by decide, by decide, fun e H2 e0 e1 o2 p2 => ⟨rfl, _, rfl, ?_⟩⟩
      have el2 := o2.mv _ _ la el
      refine ite2 (fun c => ?_) (fun c => ?_)
      · refine ⟨_, rfl, .inl ⟨rfl, _, SqL.of el2⟩, _, rfl, _, rfl, a, rfl, p2, fun y1 r1 H3 m3 p3 hr1 bn1 bd1 => ⟨_, rfl, a, rfl, p3, fun y2 r2 H4 m4 p4 hr2 bn2 bd2 => ⟨P3, fun t ht => ?_⟩⟩⟩
        have M4 := (o2.mv.trans m3).trans m4
        have s5 : Same H4 (upd H4 t (.tup [.ref vx, .ref r1, .ref r2])) := Same.new ht
        have et : (upd H4 t (.tup [.ref vx, .ref r1, .ref r2])) t = some (.tup [.ref vx, .ref r1, .ref r2]) := upd_same
        have hr1' : H4 r1 = some (nT y1) := m4 r1 _ (p3.ne hr1 (nT_ne y1)) hr1
        have el5 := s5 _ _ (M4 _ _ la el)
        have tn : Nums K (upd H4 t (.tup [.ref vx, .ref r1, .ref r2])) [.ref vx, .ref r1, .ref r2] [x, y1, y2] := .cons (((hxn.mv pn' M4).same s5).num) (.cons (NumV.of (s5 _ _ hr1')) (.cons (NumV.of (s5 _ _ hr2)) .nil))
        have Mt := M4.trans s5.mv
        have hv5 := Mt vx _ (pn'.ne hvx (nT_ne x)) hvx
        have pt := p4.sm s5
        generalize upd H4 t (.tup [.ref vx, .ref r1, .ref r2]) = H5 at s5 et el5 tn Mt pt hv5 ⊢
        have pt5 : PtsT K H5 ys pss := PtsT.mv hps pn' Mt
        have nt5 : PtT K H5 (.ref t) [x, y1, y2] := ⟨t, _, vx, rfl, SqT.of et, tn, rfl, hv5⟩
        refine ⟨l, ys, .ref t, rfl, rfl, el5, Nat.lt_of_lt_of_le (show ys.length < 300 by lia) (by decide), ?_⟩
        refine ⟨_, rfl, _, _, rfl, rfl, ?_⟩
        refine ⟨Mv.put' (mv.trans Mt) hl, pt.put' la, by rw [upd_ne wl]; exact Mt _ _ wa ew', NumsT.put (NumsT.mv hq' pn' Mt) el5, room - 2, ys ++ [.ref t], pss ++ [[x, y1, y2]], some (.ref vx), ?_, upd_same, Paired.snoc (PtsT.put pt5 el5) (nt5.put el5), ?_, ?_, add _ rfl hlen, by rw [List.length_append, List.length_singleton]; lia, ?_, by lia, .inr (by rw [List.length_append, List.length_singleton]; lia)⟩
        · rfl
        · intro ps hp
          rcases List.mem_append.mp hp with z | z
          · exact h23 ps z
          · rw [List.mem_singleton.mp z]; exact .inr rfl
        · intro ps hp c hc
          rcases List.mem_append.mp hp with z | z
          · exact hrb ps z c hc
          · rw [List.mem_singleton.mp z] at hc
            rcases List.mem_cons.mp hc with z | hc
            · rw [z]; exact hxb
            · rcases List.mem_cons.mp hc with z | hc
              · rw [z]; exact RB.mono ⟨bn1, bd1⟩ (by lia)
              · rw [List.mem_singleton.mp hc]; exact RB.mono ⟨bn2, bd2⟩ (by lia)
        · rw [tell_snoc, List.length_append, tellP_length]
          show (((tell pss).length + 2 : Nat) : Int) + (room - 2) = 1 + d
          lia
      · refine ⟨_, rfl, _, _, rfl, rfl, _, rfl, ?_⟩
        refine iteTc (by rw [decide_eq_true (show (0 : Int) < room by lia)] <;> rfl) ?_
        refine ⟨_, rfl, .inl ⟨rfl, _, SqL.of el2⟩, _, rfl, _, rfl, a, rfl, p2, fun y1 r1 H3 m3 p3 hr1 bn1 bd1 => ⟨P2, fun t ht => ?_⟩⟩
        have M4 : Mv a H' H3 := o2.mv.trans m3
        have s5 : Same H3 (upd H3 t (.tup [.ref vx, .ref r1])) := Same.new ht
        have et : (upd H3 t (.tup [.ref vx, .ref r1])) t = some (.tup [.ref vx, .ref r1]) := upd_same
        have el5 := s5 _ _ (M4 _ _ la el)
        have tn : Nums K (upd H3 t (.tup [.ref vx, .ref r1])) [.ref vx, .ref r1] [x, y1] := .cons (((hxn.mv pn' M4).same s5).num) (.cons (NumV.of (s5 _ _ hr1)) .nil)
        have Mt := M4.trans s5.mv
        have hv5 := Mt vx _ (pn'.ne hvx (nT_ne x)) hvx
        have pt := p3.sm s5
        generalize upd H3 t (.tup [.ref vx, .ref r1]) = H5 at s5 et el5 tn Mt pt hv5 ⊢
        have pt5 : PtsT K H5 ys pss := PtsT.mv hps pn' Mt
        have nt5 : PtT K H5 (.ref t) [x, y1] := ⟨t, _, vx, rfl, SqT.of et, tn, rfl, hv5⟩
        refine ⟨l, ys, .ref t, rfl, rfl, el5, Nat.lt_of_lt_of_le (show ys.length < 300 by lia) (by decide), ?_⟩
        refine ⟨_, rfl, _, _, rfl, rfl, ?_⟩
        refine ⟨Mv.put' (mv.trans Mt) hl, pt.put' la, by rw [upd_ne wl]; exact Mt _ _ wa ew', NumsT.put (NumsT.mv hq' pn' Mt) el5, room - 1, ys ++ [.ref t], pss ++ [[x, y1]], some (.ref vx), ?_, upd_same, Paired.snoc (PtsT.put pt5 el5) (nt5.put el5), ?_, ?_, add _ rfl hlen, by rw [List.length_append, List.length_singleton]; lia, ?_, by lia, .inr (by rw [List.length_append, List.length_singleton]; lia)⟩
        · rfl
        · intro ps hp
          rcases List.mem_append.mp hp with z | z
          · exact h23 ps z
          · rw [List.mem_singleton.mp z]; exact .inl rfl
        · intro ps hp c hc
          rcases List.mem_append.mp hp with z | z
          · exact hrb ps z c hc
          · rw [List.mem_singleton.mp z] at hc
            rcases List.mem_cons.mp hc with z | hc
            · rw [z]; exact hxb
            · rw [List.mem_singleton.mp hc]; exact RB.mono ⟨bn1, bd1⟩ (by lia)
        · rw [tell_snoc, List.length_append, tellP_length]
          show (((tell pss).length + 1 : Nat) : Int) + (room - 1) = 1 + d
          lia
    · refine iteFc (by rw [decide_eq_false h2] <;> rfl) (iteF ?_)
      refine ⟨_, rfl, _, _, rfl, rfl, _, rfl, ?_⟩
      by_cases h0 : (0 : Int) < room
      · refine iteTc (by rw [decide_eq_true h0] <;> rfl) ?_
        have hlen : pss.length = i := by lia
        refine ⟨_, rfl, .inl ⟨rfl, _, SqL.of el⟩, _, rfl, _, rfl, a, rfl, pn', fun y1 r1 H3 m3 p3 hr1 bn1 bd1 => ⟨P2, fun t ht => ?_⟩⟩
        have M4 : Mv a H' H3 := m3
        have s5 : Same H3 (upd H3 t (.tup [.ref vx, .ref r1])) := Same.new ht
        have et : (upd H3 t (.tup [.ref vx, .ref r1])) t = some (.tup [.ref vx, .ref r1]) := upd_same
        have el5 := s5 _ _ (M4 _ _ la el)
        have tn : Nums K (upd H3 t (.tup [.ref vx, .ref r1])) [.ref vx, .ref r1] [x, y1] := .cons (((hxn.mv pn' M4).same s5).num) (.cons (NumV.of (s5 _ _ hr1)) .nil)
        have Mt := M4.trans s5.mv
        have hv5 := Mt vx _ (pn'.ne hvx (nT_ne x)) hvx
        have pt := p3.sm s5
        generalize upd H3 t (.tup [.ref vx, .ref r1]) = H5 at s5 et el5 tn Mt pt hv5 ⊢
        have pt5 : PtsT K H5 ys pss := PtsT.mv hps pn' Mt
        have nt5 : PtT K H5 (.ref t) [x, y1] := ⟨t, _, vx, rfl, SqT.of et, tn, rfl, hv5⟩
        refine ⟨l, ys, .ref t, rfl, rfl, el5, Nat.lt_of_lt_of_le (show ys.length < 300 by lia) (by decide), ?_⟩
        refine ⟨_, rfl, _, _, rfl, rfl, ?_⟩
        refine ⟨Mv.put' (mv.trans Mt) hl, pt.put' la, by rw [upd_ne wl]; exact Mt _ _ wa ew', NumsT.put (NumsT.mv hq' pn' Mt) el5, room - 1, ys ++ [.ref t], pss ++ [[x, y1]], some (.ref vx), ?_, upd_same, Paired.snoc (PtsT.put pt5 el5) (nt5.put el5), ?_, ?_, add _ rfl hlen, by rw [List.length_append, List.length_singleton]; lia, ?_, by lia, .inr (by rw [List.length_append, List.length_singleton]; lia)⟩
        · rfl
        · intro ps hp
          rcases List.mem_append.mp hp with z | z
          · exact h23 ps z
          · rw [List.mem_singleton.mp z]; exact .inl rfl
        · intro ps hp c hc
          rcases List.mem_append.mp hp with z | z
          · exact hrb ps z c hc
          · rw [List.mem_singleton.mp z] at hc
            rcases List.mem_cons.mp hc with z | hc
            · rw [z]; exact hxb
            · rw [List.mem_singleton.mp hc]; exact RB.mono ⟨bn1, bd1⟩ (by lia)
        · rw [tell_snoc, List.length_append, tellP_length]
          show (((tell pss).length + 1 : Nat) : Int) + (room - 1) = 1 + d
          lia
      · exact iteFc (by rw [decide_eq_false h0] <;> rfl) ⟨mv, pn', ew', hq', room, ys, pss, _, rfl, el, hps, h23, hrb, hplc, by lia, hrm, hr0, .inl (by lia)⟩
  · rintro σ H' hR2
    obtain ⟨mv, pn', ew', hq', room, ys, pss, z4, rfl, el, hps, h23, hrb, hplc, hpi, hrm, hr0, hdone⟩ := hR2
    try clear hR2
    have hpl : 1 ≤ pss.length := by
      have h2 := tell_length_le pss fun ps hp => by have := h23 ps hp; lia
      lia
    have la' : H' l = some (.lst ys) := el
    refine ⟨_, rfl, l, ys, rfl, .inl ⟨SqL.of el, fun r hr => ?_⟩⟩
    have sr : Same H' (upd H' r (.tup ys)) := Same.new hr
    refine q r _ ys pss (mv.trans sr.mv) (pn'.sm sr) (SqT.of upd_same) (PtsT.same hps sr) h23 hrb hpl (by lia) (by lia) ?_
    rw [hplc]
    exact (List.take_sublist _ _).nodup hnd
theorem sc_told_in : FnScope ["points", "told", "point", "k"] ["points"] (defScope (top 24)) := ⟨rfl, rfl, rfl, by decide +kernel, rfl, by decide +kernel, by decide +kernel⟩
set_option maxHeartbeats 4000000 in
theorem ok_told_in {f : Addr} {fd : FuncData} (F : Fun K "told_in" "told_in" (top 24) f fd) (b_range : mg "range" = none) (b_len : mg "len" = none) (hT : P.given.tree = none) :
    FnOk P w K mg base CX0 33 f fd ["points"] (spToldT K) := by
  refine F.ok sc_told_in (fun vs H Q E h => ?_) (fun cdv A outer s H vs Q E hr h => ?_)
  · obtain ⟨_, _, _, rfl, _⟩ := h; rfl
  refine ⟨_, (pss_consC (K := K) (ps_set (i := 1) sc_told_in.nd rfl (Or.inl rfl) (pe_lst pa_nil))
    (pss_consC (K := K) (ps_forC (K := K) PassesOwn.never rfl (piT K (pv 0)) (pg_name (i := 2) sc_told_in.nd rfl (Or.inl rfl)) (pss_one (ps_forC (K := K) PassesOwn.never rfl (pi_range1 rfl b_range (pa_cons (pe_op op_sub (pe_callB (lenK K) rfl b_len bt_len (pa_cons (pv 2) pa_nil)) pe_int) pa_nil)) (pg_name (i := 3) sc_told_in.nd rfl (Or.inl rfl)) (pss_one (ps_expr (pe_bmK K PySem.F.plainAttrs_list PySem.F.slot_list_append PySem.F.type_list_append mt_append (pv 1) (pa_cons (pe_tup (pa_cons (pe_ix (ixT K) (pv 2) pe_int (fun u v => rfl)) (pa_cons (pv 3) (pa_cons (pe_ix (ixT K) (pv 2) (pe_op op_add (pv 3) pe_int) (fun u v => rfl)) pa_nil)))) pa_nil)))) (by rfl))) (by rfl))
    (pss_one (ps_ret (pv 1))) (by rfl)) (by rfl)), ?_⟩
  obtain ⟨r, xs, pss, rfl, hS, hp, h23, h100, q⟩ := h
  have P0 : 0 ≤ sizeLine := by decide
  have P3 : 3 ≤ sizeLine := by decide
  have hxl := hp.length
  refine ⟨P0, fun p hp0 => ?_⟩
  refine ⟨_, rfl, r, rfl, ⟨_, SqT.same hS (Same.new hp0)⟩, for_tup (xs := xs) (L5 H r p K pss fun H r p K pss i σ H' => Same H H' ∧ ∃ ys z2 z3, σ = [some (.ref r), some (.ref p), z2, z3] ∧ H' p = some (.lst ys) ∧ TlsT K H' ys (tell (pss.take i))) ⟨Same.new hp0, [], none, none, rfl, upd_same, .nil⟩ (fun i σ H' _ h => hS.same h.1) ?_ ?_⟩
  · rintro i v σ H' hv hR1
    refine anE2 hR1 fun sm hz20 => ?_
    refine exE3 hz20 fun ys z2 z3 hz20' => ?_
    clear hz20
    refine anE3 hz20' fun hq19 ep hys => ?_
    clear hz20'
    obtain rfl := hq19
    try clear hR1
    obtain ⟨ps, hps, a, zs, pp, rfl, hzs, hzn, hz0, hpp⟩ := (Paired.get hp hv)
    have hpl := h23 ps (List.mem_of_getElem? hps)
    have hzl := hzn.length
    have hyl : ys.length ≤ 200 := by
      have h1 := tell_length_le (pss.take i) (h23.take i)
      rw [List.length_take] at h1
      rw [hys.length]; lia
    refine ⟨_, rfl, a, zs, rfl, .inr (hzs.same sm), _, _, rfl, rfl, _, rfl, by lia, by lia, ?_⟩
    rw [show (((zs.length : Nat) : Int) - 1).toNat = ps.length - 1 from nat_pred hzl]
    refine for_range (n := ps.length - 1) (L8 H r p a K pss i ps fun H r p a K pss i ps k σ H2 => Same H H2 ∧ ∃ ys2 z3, σ = [some (.ref r), some (.ref p), some (.ref a), z3] ∧ H2 p = some (.lst ys2) ∧ TlsT K H2 ys2 (tell (pss.take i) ++ (tellP ps).take k)) ⟨sm, ys, z3, rfl, ep, by rw [List.take_zero, List.append_nil]; exact hys⟩ ?_ ?_
    · rintro k σ H2 hk hR2
      refine anE2 hR2 fun sm2 hz24 => ?_
      refine exE2 hz24 fun ys2 z3' hz24' => ?_
      clear hz24
      refine anE3 hz24' fun hq23 ep2 hys2 => ?_
      clear hz24'
      obtain rfl := hq23
      try clear hR2
      have g0 := getD_some (l := ps) (i := 0) (by lia)
      have gk := getD_some (l := ps) (i := k + 1) (by lia)
      obtain ⟨xk, hxk, hnk⟩ := (Paired.get' hzn gk)
      have ak : atI zs (0 + (k : Int) + 1) = some xk := by rw [show 0 + (k : Int) + 1 = ((k + 1 : Nat) : Int) by lia]; exact atI_nat hxk
      have hyl2 : ys2.length ≤ 204 := by
        have h1 := hys.length
        have h2 := tellP_length ps
        rw [hys2.length, List.length_append, List.length_take]; exact nat_204 hyl hk hpl h1
      refine ⟨_, rfl, .inl ⟨rfl, _, SqL.of ep2⟩, _, rfl, a, zs, _, .ref pp, rfl, rfl, hzs.same sm2, atI_nat (j := 0) hz0, _, rfl, _, rfl, _, rfl, _, _, rfl, rfl, a, zs, _, xk, rfl, rfl, hzs.same sm2, ak, P3, fun t ht => ?_⟩
      have s3 : Same H2 (upd H2 t (.tup [.ref pp, .int (0 + (k : Int)), xk])) := Same.new ht
      have tp : t ≠ p := (ne_of_none ep2 ht).symm
      have hp3 : (upd (upd H2 t (.tup [.ref pp, .int (0 + (k : Int)), xk])) p (.lst (ys2 ++ [.ref t]))) pp = some (nT (ps.getD 0 0)) := by
        have z := s3 _ _ (sm2 _ _ hpp)
        rw [upd_ne (ne_of z (s3 _ _ ep2) (fun z => by cases z))]; exact z
      refine ⟨p, ys2, .ref t, rfl, rfl, s3 _ _ ep2, Nat.lt_of_lt_of_le (show ys2.length < 300 by lia) (by decide), (sm2.trans s3).put hp0, ys2 ++ [.ref t], _, rfl, upd_same, ?_⟩
      have gt : (tellP ps)[k]? = some ⟨ps.getD 0 0, (k : Int), ps.getD (k + 1) 0⟩ := by
        unfold tellP
        rw [List.getElem?_map, List.getElem?_range hk]; rfl
      rw [List.take_add_one, gt, ← List.append_assoc]
      refine Paired.snoc (TlsT.put (TlsT.same hys2 s3) (s3 _ _ ep2)) ⟨t, pp, xk, rfl, SqT.of ?_, hp3, ((hnk.same sm2).same s3).put (s3 _ _ ep2)⟩
      rw [upd_ne tp, upd_same, Int.zero_add]
    · rintro σ H2 hR3
      refine anE2 hR3 fun sm2 hz26 => ?_
      refine exE2 hz26 fun ys2 z3' hz26' => ?_
      clear hz26
      refine anE3 hz26' fun hq25 ep2 hys2 => ?_
      clear hz26'
      obtain rfl := hq25
      try clear hR3
      refine ⟨sm2, ys2, _, _, rfl, ep2, ?_⟩
      have e : pss.take (i + 1) = pss.take i ++ [ps] := by rw [List.take_add_one, hps]; rfl
      rw [e, tell_snoc]
      have et : (tellP ps).take (ps.length - 1) = tellP ps := List.take_of_length_le (by rw [tellP_length]; exact Nat.le_refl _)
      rw [et] at hys2
      exact hys2
  · rintro σ H' hR4
    refine anE2 hR4 fun sm hz28 => ?_
    refine exE3 hz28 fun ys z2 z3 hz28' => ?_
    clear hz28
    refine anE3 hz28' fun hq27 ep hys => ?_
    clear hz28'
    obtain rfl := hq27
    try clear hR4
    rw [hxl, List.take_length] at hys
    exact ⟨_, rfl, q p H' ys sm hp0 ep hys⟩
theorem sc_knots_of : FnScope ["points"] ["points"] (defScope (top 25)) := ⟨rfl, rfl, rfl, by decide +kernel, rfl, by decide +kernel, by decide +kernel⟩
set_option maxHeartbeats 4000000 in
theorem ok_knots_of {f : Addr} {fd : FuncData} (F : Fun K "knots_of" "knots_of" (top 25) f fd) (F_told_in : Fd P w K mg base 33 "told_in" ["points"] (spToldT K)) (hT : P.given.tree = none) :
    FnOk P w K mg base CX0 34 f fd ["points"] (spKnotsT K) := by
  refine F.ok sc_knots_of (fun vs H Q E h => ?_) (fun cdv A outer s H vs Q E hr h => ?_)
  · obtain ⟨_, _, _, rfl, _⟩ := h; rfl
  refine ⟨_, (pss_one (ps_ret (pe_lc rfl (N := ["told"]) (nt := 1) (js := []) (CompOk.look (NX := ["points"]) (sc := defScope (top 25)) rfl rfl (by decide +kernel)) (piL K (pe_fn F_told_in hr rfl (pa_cons (pv 0) pa_nil))) (fun u1 u2 u3 u4 u5 => (pg_name (i := 0) (show List.Nodup (["told"] : List Str) from by decide +kernel) rfl (Or.inl rfl))) (stays_name (by decide)) (fun u1 u2 u3 u4 u5 => pts_nil) (fun u1 u2 u3 u4 u5 => (pe_ix (ixT K) (pv 0) pe_int (fun u v => rfl)))))), ?_⟩
  obtain ⟨r, xs, pss, rfl, hS, hp, h23, h100, q⟩ := h
  refine lc_of ⟨_, rfl, r, xs, pss, rfl, hS, hp, h23, h100, fun w Hw ws sw hw ew htw => ⟨w, rfl, ⟨_, SqL.of ew⟩, ?_⟩⟩
  have hwl : ws.length ≤ 200 := by
    have h1 := tell_length_le pss fun ps hp => by have := h23 ps hp; lia
    rw [htw.length]; lia
  refine lc_lst (xs := ws) (L2 Hw pss fun Hw pss i zs H' => H' = Hw ∧ zs.length = i ∧ NumsT Hw zs (((tell pss).take i).map Told.x)) ⟨rfl, rfl, .nil⟩ (fun i zs H' _ h => ⟨by rw [h.1]; exact SqL.of ew, h.2.1⟩) (Nat.le_of_lt (small1000 (by lia))) ?_ ?_
  · rintro i v zs H' hv ⟨rfl, hzl, hzn⟩
    obtain ⟨t, ht, a, rx, rn, rfl, ha, hx, _⟩ := (Paired.get htw hv)
    have hx : NumT H' (.ref rx) t.x := ⟨_, rfl, hx⟩
    refine ⟨_, rfl, a, _, _, _, rfl, rfl, ha, rfl, rfl, by simp [hzl], ?_⟩
    rw [List.take_add_one, ht, List.map_append]
    exact Paired.snoc hzn hx
  rintro zs H' ⟨rfl, hzl, hzn⟩ p hp0
  rw [htw.length, List.take_length] at hzn
  exact q p _ zs (sw.trans (Same.new hp0)) (sw.free hp0) upd_same (NumsT.same hzn (Same.new hp0))
theorem sc_slopes_in : FnScope ["points", "slopes", "point"] ["points"] (defScope (top 28)) := ⟨rfl, rfl, rfl, by decide +kernel, rfl, by decide +kernel, by decide +kernel⟩
set_option maxHeartbeats 4000000 in
theorem ok_slopes_in {f : Addr} {fd : FuncData} (F : Fun K "slopes_in" "slopes_in" (top 28) f fd) (b_len : mg "len" = none) (hT : P.given.tree = none) :
    FnOk P w K mg base CX0 33 f fd ["points"] (spSlopes K) := by
  refine F.ok sc_slopes_in (fun vs H Q E h => ?_) (fun cdv A outer s H vs Q E hr h => ?_)
  · obtain ⟨_, _, _, rfl, _⟩ := h; rfl
  refine ⟨_, (pss_consC (K := K) (ps_set (i := 1) sc_slopes_in.nd rfl (Or.inl rfl) pe_dnewT)
    (pss_consC (K := K) (ps_forC (K := K) PassesOwn.never rfl (piT K (pv 0)) (pg_name (i := 2) sc_slopes_in.nd rfl (Or.inl rfl)) (pss_one (ps_ifC (K := K) (pt_cmpR op_eq (pe_callB (lenK K) rfl b_len bt_len (pa_cons (pv 2) pa_nil)) pe_int (nomark _)) (pss_one (ps_dput hr.units1 (pv 1) (pe_ix (ixT K) (pv 2) pe_int (fun u v => rfl)) (pe_ix (ixT K) (pv 2) pe_int (fun u v => rfl)) rfl)) pss_nil (by rfl) (by rfl))) (by rfl))
    (pss_one (ps_ret (pv 1))) (by rfl)) (by rfl)), ?_⟩
  obtain ⟨r, xs, pss, rfl, hS, hp, h23, h100, hnd, q⟩ := h
  have hxl := hp.length
  refine fun d hd => ?_
  refine ⟨_, rfl, r, rfl, ⟨_, SqT.same hS (Same.new hd)⟩, for_tup (xs := xs) (L5 H r d K pss fun H r d K pss i σ H' => Same H H' ∧ ∃ kvs z2, σ = [some (.ref r), some (.ref d), z2] ∧ H' d = some (.dT kvs) ∧ kvs.length ≤ i ∧ SlD K H kvs (pss.take i)) ⟨Same.new hd, [], none, rfl, upd_same, Nat.le_refl _, (fun _ h => nomatch h)⟩ (fun i σ H' _ h => hS.same h.1) ?_ ?_⟩
  · rintro i v σ H' hv hR1
    refine anE2 hR1 fun sm hz32 => ?_
    refine exE2 hz32 fun kvs z2 hz32' => ?_
    clear hz32
    refine anE4 hz32' fun hq31 ed hkl hall => ?_
    clear hz32'
    obtain rfl := hq31
    try clear hR1
    have hi : i < xs.length := (List.getElem?_eq_some_iff.mp hv).1
    obtain ⟨ps, hps, a, us, p, rfl, hus, hun, hu0, hp0⟩ := (Paired.get hp hv)
    have hpl := h23 ps (List.mem_of_getElem? hps)
    have hul := hun.length
    have e : pss.take (i + 1) = pss.take i ++ [ps] := by rw [List.take_add_one, hps]; rfl
    refine ⟨_, rfl, a, us, rfl, .inr (hus.same sm), rfl, _, rfl, ?_⟩
    by_cases h3 : ps.length = 3
    · refine iteTc (by rw [decide_eq_true (show V.int (us.length : Int) = V.int 3 by rw [hul, h3]; rfl)] <;> rfl) ?_
      have g2 := getD_some (l := ps) (i := 2) (by lia)
      obtain ⟨x2, hx2, hn2⟩ := (Paired.get' hun g2)
      refine ⟨_, rfl, a, us, _, x2, rfl, rfl, hus.same sm, atI_nat (j := 2) hx2, _, rfl, _, rfl, a, us, _, .ref p, rfl, rfl, hus.same sm, atI_nat (j := 0) hu0, d, _, rfl, DPut.t (k := kQ (ps.getD 0 0)) ed (sm _ _ hp0) (Nat.lt_of_lt_of_le (show kvs.length < 300 by lia) (by decide)), ?_⟩
      refine ⟨sm.put hd, putK kvs (kQ (ps.getD 0 0)) x2, _, rfl, upd_same, Nat.le_trans (length_putK _ _ _) (by lia), ?_⟩
      rw [e]
      intro ps' hp' h3'
      rw [valV_put]
      rcases List.mem_append.mp hp' with z | z
      · have hne := nd_take hnd hps ps' z
        rw [if_neg (fun z => hne (kQ_inj z))]
        exact hall ps' z h3'
      · rw [List.mem_singleton.mp z, if_pos rfl]
        exact ⟨x2, rfl, hn2⟩
    · refine iteFc (by rw [decide_eq_false (show ¬ V.int (us.length : Int) = V.int 3 from fun z => h3 (by have := V.int.inj z; lia))] <;> rfl) ⟨sm, kvs, _, rfl, ed, by lia, ?_⟩
      rw [e]
      intro ps' hp' h3'
      rcases List.mem_append.mp hp' with z | z
      · exact hall ps' z h3'
      · rw [List.mem_singleton.mp z] at h3'; exact absurd h3' h3
  · rintro σ H' hR2
    refine anE2 hR2 fun sm hz36 => ?_
    refine exE2 hz36 fun kvs z2 hz36' => ?_
    clear hz36
    refine anE4 hz36' fun hq35 ed hkl hall => ?_
    clear hz36'
    obtain rfl := hq35
    try clear hR2
    rw [hxl, List.take_length] at hall
    exact ⟨_, rfl, q d H' kvs sm hd ed (hall.same sm)⟩
theorem sc_first_row : FnScope ["points", "row", "point"] ["points"] (defScope (top 27)) := ⟨rfl, rfl, rfl, by decide +kernel, rfl, by decide +kernel, by decide +kernel⟩
set_option maxHeartbeats 4000000 in
theorem ok_first_row {f : Addr} {fd : FuncData} (F : Fun K "first_row" "first_row" (top 27) f fd) (b_len : mg "len" = none) (hT : P.given.tree = none) :
    FnOk P w K mg base CX0 33 f fd ["points"] (spRow0 K) := by
  refine F.ok sc_first_row (fun vs H Q E h => ?_) (fun cdv A outer s H vs Q E hr h => ?_)
  · obtain ⟨_, _, _, rfl, _⟩ := h; rfl
  refine ⟨_, (pss_consC (K := K) (ps_set (i := 1) sc_first_row.nd rfl (Or.inl rfl) (pe_lst pa_nil))
    (pss_consC (K := K) (ps_forC (K := K) PassesOwn.never rfl (piT K (pv 0)) (pg_name (i := 2) sc_first_row.nd rfl (Or.inl rfl)) (pss_one (ps_expr (pe_bmK K PySem.F.plainAttrs_list PySem.F.slot_list_extend PySem.F.type_list_extend mt_extend (pv 1) (pa_cons (pe_op op_rep (pe_lst (pa_cons (pe_ix (ixT K) (pv 2) pe_int (fun u v => rfl)) pa_nil)) (pe_op op_sub (pe_callB (lenK K) rfl b_len bt_len (pa_cons (pv 2) pa_nil)) pe_int)) pa_nil)))) (by rfl))
    (pss_one (ps_ret (pv 1))) (by rfl)) (by rfl)), ?_⟩
  obtain ⟨r, xs, pss, rfl, hS, hp, h23, h100, q⟩ := h
  have P0 : 0 ≤ sizeLine := by decide
  have P1 : 1 ≤ sizeLine := by decide
  have hxl := hp.length
  refine ⟨P0, fun p hp0 => ?_⟩
  refine ⟨_, rfl, r, rfl, ⟨_, SqT.same hS (Same.new hp0)⟩, for_tup (xs := xs) (L5 H r p K pss fun H r p K pss i σ H' => Same H H' ∧ ∃ ys z2, σ = [some (.ref r), some (.ref p), z2] ∧ H' p = some (.lst ys) ∧ Nums K H' ys (row0 (pss.take i))) ⟨Same.new hp0, [], none, rfl, upd_same, .nil⟩ (fun i σ H' _ h => hS.same h.1) ?_ ?_⟩
  · rintro i v σ H' hv hR1
    refine anE2 hR1 fun sm hz38 => ?_
    refine exE2 hz38 fun ys z2 hz38' => ?_
    clear hz38
    refine anE3 hz38' fun hq37 ep hys => ?_
    clear hz38'
    obtain rfl := hq37
    try clear hR1
    obtain ⟨ps, hps, a, us, pp, rfl, hus, hun, hu0, hpp⟩ := (Paired.get hp hv)
    have hpl := h23 ps (List.mem_of_getElem? hps)
    have hul := hun.length
    have e : pss.take (i + 1) = pss.take i ++ [ps] := by rw [List.take_add_one, hps]; rfl
    have g1 := getD_some (l := ps) (i := 1) (by lia)
    obtain ⟨x1, hx1, hn1⟩ := (Paired.get' hun g1)
    have hyl : ys.length ≤ 200 := by
      have h1 := tell_length_le (pss.take i) (h23.take i)
      rw [List.length_take] at h1
      rw [hys.length, row0_length]; lia
    refine ⟨_, rfl, .inl ⟨rfl, _, SqL.of ep⟩, _, rfl, a, us, _, x1, rfl, rfl, hus.same sm, atI_nat (j := 1) hx1, P1, fun l hl => ?_⟩
    have s1 : Same H' (upd H' l (.lst [x1])) := Same.new hl
    refine ⟨_, rfl, a, us, rfl, .inr ((hus.same sm).same s1), _, _, rfl, rfl, l, _, [x1], rfl, rfl, upd_same, by lia, by lia, ?_, fun m hm => ?_⟩
    · have z : (((us.length : Nat) : Int) - 1).toNat ≤ 2 := nat_two hul hpl
      exact Nat.le_trans (Nat.mul_le_mul (Nat.le_refl _) z) (by show 2 ≤ sizeLine; decide)
    have s2 := s1.trans (Same.new (o := .lst (List.replicate (((us.length : Nat) : Int) - 1).toNat [x1]).flatten) hm)
    have en : (((us.length : Nat) : Int) - 1).toNat = ps.length - 1 := nat_pred hul
    have ep2 := s2 _ _ ep
    refine ⟨p, m, ys, _, rfl, rfl, ep2, upd_same, ?_, ?_⟩
    · rw [len_rep, en]
      exact Nat.le_trans (show ys.length + (ps.length - 1) * 1 ≤ 300 from nat_300 hyl hpl) (by decide)
    refine ⟨(sm.trans s2).put hp0, _, _, rfl, upd_same, ?_⟩
    rw [e, row0_snoc, en]
    have hr : Nums K (upd (upd H' l (.lst [x1])) m (.lst (List.replicate (((us.length : Nat) : Int) - 1).toNat [x1]).flatten)) (List.replicate (ps.length - 1) [x1]).flatten (List.replicate (ps.length - 1) (ps.getD 1 0)) := rep_nums ((hn1.same sm).same s2) _
    rw [en] at hr ep2 s2
    exact Paired.append (Nums.put (Nums.same hys s2) ep2) (Nums.put hr ep2)
  · rintro σ H' hR2
    refine anE2 hR2 fun sm hz42 => ?_
    refine exE2 hz42 fun ys z2 hz42' => ?_
    clear hz42
    refine anE3 hz42' fun hq41 ep hys => ?_
    clear hz42'
    obtain rfl := hq41
    try clear hR2
    rw [hxl, List.take_length] at hys
    exact ⟨_, rfl, q p H' ys sm hp0 ep hys⟩
theorem sc_common_measure : FnScope ["one", "other", "great", "small", "rest"] ["one", "other"] (defScope (top 7)) := ⟨rfl, rfl, rfl, by decide +kernel, rfl, by decide +kernel, by decide +kernel⟩
set_option maxHeartbeats 4000000 in
theorem ok_common_measure {f : Addr} {fd : FuncData} (F : Fun K "common_measure" "common_measure" (top 7) f fd) (b_abs : mg "abs" = none) (hT : P.given.tree = none) :
    FnOk P w K mg base CX0 33 f fd ["one", "other"] (spGcd) := by
  refine F.ok sc_common_measure (fun vs H Q E h => ?_) (fun cdv A outer s H vs Q E hr h => ?_)
  · obtain ⟨_, _, rfl, _⟩ := h; rfl
  refine ⟨_, (pss_consC (K := K) (ps_set (i := 2) sc_common_measure.nd rfl (Or.inl rfl) (pe_callB call_abs rfl b_abs bt_abs (pa_cons (pv 0) pa_nil)))
    (pss_consC (K := K) (ps_set (i := 3) sc_common_measure.nd rfl (Or.inl rfl) (pe_callB call_abs rfl b_abs bt_abs (pa_cons (pv 1) pa_nil)))
    (pss_consC (K := K) (ps_while PassesOwn.never (pt_cmpR op_ne (pv 3) pe_int (nomark _)) (pss_consC (K := K) (ps_set (i := 4) sc_common_measure.nd rfl (Or.inl rfl) (pe_op op_mod (pv 2) (pv 3)))
    (pss_consC (K := K) (ps_set (i := 2) sc_common_measure.nd rfl (Or.inl rfl) (pv 3))
    (pss_one (ps_set (i := 3) sc_common_measure.nd rfl (Or.inl rfl) (pv 4))) (by rfl)) (by rfl)))
    (pss_one (ps_ret (pv 2))) (by rfl)) (by rfl)) (by rfl)), ?_⟩
  obtain ⟨a, b, rfl, q⟩ := h
  refine ⟨_, rfl, a, rfl, ?_⟩
  refine ⟨_, rfl, b, rfl, ?_⟩
  refine while_by (L3 H a b fun H a b σ H' => H' = H ∧ ∃ (x y : Int) (r : Option V), σ = [some (.int a), some (.int b), some (.int x), some (.int y), r] ∧ 0 ≤ x ∧ 0 ≤ y ∧ Int.gcd x y = Int.gcd a b) (fun σ _ => mu 3 σ)
    ⟨rfl, _, _, none, rfl, ?_, ?_, ?_⟩ ?_ ?_
  · rw [Nm.abs_if]; exact Int.natCast_nonneg _
  · rw [Nm.abs_if]; exact Int.natCast_nonneg _
  · rw [Nm.abs_if, Nm.abs_if]; rfl
  · rintro σ H' hR1
    refine anE2 hR1 fun hq43 hz45 => ?_
    refine exE3 hz45 fun x y r hz45' => ?_
    clear hz45
    refine anE4 hz45' fun hq44 hx hy hg => ?_
    clear hz45'
    obtain rfl := hq43
    obtain rfl := hq44
    try clear hR1
    refine ⟨_, rfl, rfl, _, rfl, ?_⟩
    by_cases hy0 : y = 0
    · subst hy0
      refine iteFc (by rw [decide_eq_true rfl] <;> rfl) ⟨_, rfl, ?_⟩
      have e : (Int.gcd a b : Int) = x := by rw [← hg, Int.gcd_zero]; lia
      rw [e] at q
      exact q
    · refine iteTc (by rw [decide_eq_false (fun z => hy0 (V.int.inj z))] <;> rfl) ?_
      have hyp : 0 < y := by lia
      refine ⟨_, rfl, _, rfl, _, _, rfl, rfl, hyp, ?_⟩
      refine ⟨_, rfl, _, rfl, ⟨rfl, y, x % y, _, rfl, hy, Int.emod_nonneg _ hy0, ?_⟩, ?_⟩
      · rw [Nm.gcd_turn]; exact hg
      · show (x % y).toNat < y.toNat
        have := Int.emod_lt_of_pos x hyp
        lia
  · rintro σ H' Q1 Q2 hm hR2
    obtain ⟨v, e, s1, k, ek, q1⟩ := hR2
    try clear hR2
    exact ⟨v, e, s1, k, ek, hm _ _ q1⟩
theorem sc_number_of : FnScope ["top", "bottom", "measure"] ["top", "bottom"] (defScope (top 9)) := ⟨rfl, rfl, rfl, by decide +kernel, rfl, by decide +kernel, by decide +kernel⟩
set_option maxHeartbeats 4000000 in
theorem ok_number_of {f : Addr} {fd : FuncData} (F : Fun K "number_of" "number_of" (top 9) f fd) (F_common_measure : Fd P w K mg base 33 "common_measure" ["one", "other"] (spGcd)) (hT : P.given.tree = none) :
    FnOk P w K mg base CX0 34 f fd ["top", "bottom"] (spLow) := by
  refine F.ok sc_number_of (fun vs H Q E h => ?_) (fun cdv A outer s H vs Q E hr h => ?_)
  · obtain ⟨_, _, rfl, _⟩ := h; rfl
  refine ⟨_, (pss_consC (K := K) (ps_ifC (K := K) (pt_cmpR op_eq (pv 1) pe_int (nomark _)) (pss_one ps_never) pss_nil (by rfl) (by rfl))
    (pss_consC (K := K) (ps_set (i := 2) sc_number_of.nd rfl (Or.inl rfl) (pe_fn F_common_measure hr rfl (pa_cons (pv 0) (pa_cons (pv 1) pa_nil))))
    (pss_consC (K := K) (ps_ifC (K := K) (pt_cmpR op_lt (pv 1) pe_int (nomark _)) (pss_one (ps_set (i := 2) sc_number_of.nd rfl (Or.inl rfl) (pe_un un_neg (pv 2)))) pss_nil (by rfl) (by rfl))
    (pss_one (ps_ret (pe_tup (pa_cons (pe_op (op_fdivX hr hT) (pv 0) (pv 2)) (pa_cons (pe_op (op_fdivX hr hT) (pv 1) (pv 2)) pa_nil))))) (by rfl)) (by rfl)) (by rfl)), ?_⟩
  obtain ⟨a, b, rfl, hb, q⟩ := h
  refine ⟨_, rfl, rfl, _, rfl, ?_⟩
  refine iteFc (by rw [decide_eq_false (fun z => hb (V.int.inj z))] <;> rfl) ?_
  refine ⟨_, rfl, _, rfl, a, b, rfl, ?_⟩
  refine ⟨_, rfl, _, _, rfl, rfl, _, rfl, ?_⟩
  have hd : Nm.msr a b ≠ 0 := Nm.msr_ne hb
  have fin : ∀ p, H p = none → Q (.ref p) (upd H p (.tup [.int (a.fdiv (Nm.msr a b)), .int (b.fdiv (Nm.msr a b))])) := fun p hp => by
    rw [Nm.top_msr hb, Nm.bottom_msr hb]; exact q p hp
  by_cases hb0 : b < 0
  · have hd' : Nm.msr a b = -(Int.gcd a b : Int) := by unfold Nm.msr; rw [if_pos hb0]
    rw [hd'] at hd fin
    refine iteTc (by rw [decide_eq_true hb0] <;> rfl) ⟨_, rfl, _, rfl, ?_⟩
    exact ⟨_, rfl, _, rfl, _, _, rfl, rfl, hd, _, rfl, _, rfl, _, _, rfl, rfl, hd, (by decide : 2 ≤ sizeLine), fin⟩
  · have hd' : Nm.msr a b = (Int.gcd a b : Int) := by unfold Nm.msr; rw [if_neg hb0]
    rw [hd'] at hd fin
    refine iteFc (by rw [decide_eq_false hb0] <;> rfl) ?_
    exact ⟨_, rfl, _, rfl, _, _, rfl, rfl, hd, _, rfl, _, rfl, _, _, rfl, rfl, hd, (by decide : 2 ≤ sizeLine), fin⟩
theorem sc_over : FnScope ["a", "b"] ["a", "b"] (defScope (top 11)) := ⟨rfl, rfl, rfl, by decide +kernel, rfl, by decide +kernel, by decide +kernel⟩
set_option maxHeartbeats 4000000 in
theorem ok_over {f : Addr} {fd : FuncData} (F : Fun K "over" "over" (top 11) f fd) (F_number_of : Fd P w K mg base 34 "number_of" ["top", "bottom"] (spLow)) (hT : P.given.tree = none) :
    FnOk P w K mg base CX0 35 f fd ["a", "b"] (spOver K) := by
  refine F.ok sc_over (fun vs H Q E h => ?_) (fun cdv A outer s H vs Q E hr h => ?_)
  · obtain ⟨_, _, _, _, _, _, rfl, _⟩ := h; rfl
  refine ⟨_, (pss_one (ps_ret (pe_fn F_number_of hr rfl (pa_cons (pe_op op_mulC (pe_ix (ixT K) (pv 0) pe_int (fun u v => rfl)) (pe_ix (ixT K) (pv 1) pe_int (fun u v => rfl))) (pa_cons (pe_op op_mulC (pe_ix (ixT K) (pv 0) pe_int (fun u v => rfl)) (pe_ix (ixT K) (pv 1) pe_int (fun u v => rfl))) pa_nil))))), ?_⟩
  obtain ⟨x, y, p, q, m, n, rfl, ⟨r, rfl, hr'⟩, ⟨u, rfl, hu⟩, q0, hp, hq, hmn, k⟩ := h
  have hn : q.num ≠ 0 := fun z => q0 (Rat.num_eq_zero.mp z)
  refine ⟨_, rfl, r, _, _, _, rfl, rfl, hr', rfl, _, rfl, u, _, _, _, rfl, rfl, hu, rfl, _, _, rfl, rfl, MulC.bd hp.1 hq.2, ?_⟩
  refine ⟨_, rfl, r, _, _, _, rfl, rfl, hr', rfl, _, rfl, u, _, _, _, rfl, rfl, hu, rfl, _, _, rfl, rfl, MulC.bd hp.2 hq.1, ?_⟩
  refine ⟨_, _, rfl, Int.mul_ne_zero (Nm.den_ne p) hn, fun z hz => ?_⟩
  have e := k z hz
  rw [← over_eq p q q0] at e
  exact e
theorem sc_minus : FnScope ["a", "b"] ["a", "b"] (defScope (top 10)) := ⟨rfl, rfl, rfl, by decide +kernel, rfl, by decide +kernel, by decide +kernel⟩
set_option maxHeartbeats 4000000 in
theorem ok_minus {f : Addr} {fd : FuncData} (F : Fun K "minus" "minus" (top 10) f fd) (F_number_of : Fd P w K mg base 34 "number_of" ["top", "bottom"] (spLow)) (hT : P.given.tree = none) :
    FnOk P w K mg base CX0 35 f fd ["a", "b"] (spBin K (· - ·)) := by
  refine F.ok sc_minus (fun vs H Q E h => ?_) (fun cdv A outer s H vs Q E hr h => ?_)
  · obtain ⟨_, _, _, _, _, _, rfl, _⟩ := h; rfl
  refine ⟨_, (pss_one (ps_ret (pe_fn F_number_of hr rfl (pa_cons (pe_op op_sub (pe_op op_mulC (pe_ix (ixT K) (pv 0) pe_int (fun u v => rfl)) (pe_ix (ixT K) (pv 1) pe_int (fun u v => rfl))) (pe_op op_mulC (pe_ix (ixT K) (pv 1) pe_int (fun u v => rfl)) (pe_ix (ixT K) (pv 0) pe_int (fun u v => rfl)))) (pa_cons (pe_op op_mulC (pe_ix (ixT K) (pv 0) pe_int (fun u v => rfl)) (pe_ix (ixT K) (pv 1) pe_int (fun u v => rfl))) pa_nil))))), ?_⟩
  obtain ⟨x, y, p, q, m, n, rfl, ⟨r, rfl, hr⟩, ⟨u, rfl, hu⟩, hp, hq, hmn, k⟩ := h
  refine ⟨_, rfl, r, _, _, _, rfl, rfl, hr, rfl, _, rfl, u, _, _, _, rfl, rfl, hu, rfl, _, _, rfl, rfl, MulC.bd hp.1 hq.2, _, rfl, u, _, _, _, rfl, rfl, hu, rfl, _, rfl, r, _, _, _, rfl, rfl, hr, rfl, _, _, rfl, rfl, MulC.bd hq.1 hp.2, _, _, rfl, rfl, ?_⟩
  refine ⟨_, rfl, r, _, _, _, rfl, rfl, hr, rfl, _, rfl, u, _, _, _, rfl, rfl, hu, rfl, _, _, rfl, rfl, MulC.bd hp.2 hq.2, ?_⟩
  refine ⟨_, _, rfl, Int.mul_ne_zero (Nm.den_ne p) (Nm.den_ne q), fun z hz => ?_⟩
  have e := k z hz
  try dsimp only at e
  rw [← Nm.minus_eq] at e
  exact e
theorem sc_next_row : FnScope ["ahead", "knots", "slopes", "k", "row", "j"] ["ahead", "knots", "slopes", "k"] (defScope (top 29)) := ⟨rfl, rfl, rfl, by decide +kernel, rfl, by decide +kernel, by decide +kernel⟩
set_option maxHeartbeats 4000000 in
theorem ok_next_row {f : Addr} {fd : FuncData} (F : Fun K "next_row" "next_row" (top 29) f fd) (F_over : Fd P w K mg base 35 "over" ["a", "b"] (spOver K)) (F_minus : Fd P w K mg base 35 "minus" ["a", "b"] (spBin K (· - ·))) (b_range : mg "range" = none) (b_len : mg "len" = none) (hT : P.given.tree = none) :
    FnOk P w K mg base CX0 36 f fd ["ahead", "knots", "slopes", "k"] (spNextRow K) := by
  refine F.ok sc_next_row (fun vs H Q E h => ?_) (fun cdv A outer s H vs Q E hr h => ?_)
  · obtain ⟨_, _, _, _, _, _, _, _, _, _, _, _, rfl, _⟩ := h; rfl
  refine ⟨_, (pss_consC (K := K) (ps_set (i := 4) sc_next_row.nd rfl (Or.inl rfl) (pe_lst pa_nil))
    (pss_consC (K := K) (ps_forC (K := K) PassesOwn.never rfl (pi_range1 rfl b_range (pa_cons (pe_op op_sub (pe_callB (lenK K) rfl b_len bt_len (pa_cons (pv 1) pa_nil)) (pv 3)) pa_nil)) (pg_name (i := 5) sc_next_row.nd rfl (Or.inl rfl)) (pss_one (ps_ifC (K := K) (pt_cmpR (eqD K hr.units) (pe_ix (ixL K) (pv 1) (pe_op op_add (pv 5) (pv 3)) (fun u v => rfl)) (pe_ix (ixL K) (pv 1) (pv 5) (fun u v => rfl)) (nomark _)) (pss_one (ps_expr (pe_bmK K PySem.F.plainAttrs_list PySem.F.slot_list_append PySem.F.type_list_append mt_append (pv 4) (pa_cons (pe_dget hr.units1 (pv 2) (pe_ix (ixL K) (pv 1) (pv 5) (fun u v => rfl)) (fun u v => rfl)) pa_nil)))) (pss_one (ps_expr (pe_bmK K PySem.F.plainAttrs_list PySem.F.slot_list_append PySem.F.type_list_append mt_append (pv 4) (pa_cons (pe_fn F_over hr rfl (pa_cons (pe_fn F_minus hr rfl (pa_cons (pe_ix (ixL K) (pv 0) (pe_op op_add (pv 5) pe_int) (fun u v => rfl)) (pa_cons (pe_ix (ixL K) (pv 0) (pv 5) (fun u v => rfl)) pa_nil))) (pa_cons (pe_fn F_minus hr rfl (pa_cons (pe_ix (ixL K) (pv 1) (pe_op op_add (pv 5) (pv 3)) (fun u v => rfl)) (pa_cons (pe_ix (ixL K) (pv 1) (pv 5) (fun u v => rfl)) pa_nil))) pa_nil))) pa_nil)))) (by rfl) (by rfl))) (by rfl))
    (pss_one (ps_ret (pv 4))) (by rfl)) (by rfl)), ?_⟩
  obtain ⟨ra, rk, d, as, ks, A, kn, kvs, sl, k, m, n, rfl, hA, hAn, hK, hKn, hd, hsl, h1, hkl, hlen, h100, hbA, hbK, hm, hn, q⟩ := h
  have P0 : 0 ≤ sizeLine := by decide
  have hal := hAn.length
  have hkl' := hKn.length
  refine ⟨P0, fun p hp0 => ?_⟩
  have s0 : Same H (upd H p (.lst [])) := Same.new hp0
  refine ⟨_, rfl, rk, ks, rfl, .inl (Same.seq s0 hK), _, rfl, _, _, rfl, rfl, _, rfl, by lia, by lia, ?_⟩
  rw [show (((ks.length : Nat) : Int) - (k : Int)).toNat = kn.length - k by lia]
  refine for_range (n := kn.length - k) (L10 H ra rk d k p K A kn sl fun H ra rk d k p K A kn sl i σ H' => Same H H' ∧ ∃ zs z5, σ = [some (.ref ra), some (.ref rk), some (.ref d), some (.int (k : Int)), some (.ref p), z5] ∧ H' p = some (.lst zs) ∧ zs.length = i ∧ Nums K H' zs ((nextR A kn sl k).take i)) ⟨s0, [], none, rfl, upd_same, rfl, .nil⟩ ?_ ?_
  · rintro j σ H' hj hR1
    refine anE2 hR1 fun sm hz48 => ?_
    refine exE2 hz48 fun zs z5 hz48' => ?_
    clear hz48
    refine anE4 hz48' fun hq47 ep hzl hzs => ?_
    clear hz48'
    obtain rfl := hq47
    try clear hR1
    have gk := getD_some (l := kn) (i := j + k) (by lia)
    have g0 := getD_some (l := kn) (i := j) (by lia)
    have ga := getD_some (l := A) (i := j + 1) (by lia)
    have gb := getD_some (l := A) (i := j) (by lia)
    obtain ⟨xk, hxk, ak, rfl, hak⟩ := (Paired.get' hKn gk)
    obtain ⟨x0, hx0, a0, rfl, ha0⟩ := (Paired.get' hKn g0)
    obtain ⟨xa, hxa, hna⟩ := (Paired.get' hAn ga)
    obtain ⟨xb, hxb, hnb⟩ := (Paired.get' hAn gb)
    have ek : atI ks (0 + (j : Int) + (k : Int)) = some (.ref ak) := by rw [show 0 + (j : Int) + (k : Int) = ((j + k : Nat) : Int) by lia]; exact atI_nat hxk
    have e0 : atI ks (0 + (j : Int)) = some (.ref a0) := by rw [show 0 + (j : Int) = ((j : Nat) : Int) by lia]; exact atI_nat hx0
    have ea : atI as (0 + (j : Int) + 1) = some xa := by rw [show 0 + (j : Int) + 1 = ((j + 1 : Nat) : Int) by lia]; exact atI_nat hxa
    have eb : atI as (0 + (j : Int)) = some xb := by rw [show 0 + (j : Int) = ((j : Nat) : Int) by lia]; exact atI_nat hxb
    have hK' := Same.seq sm hK
    have hA' := Same.seq sm hA
    have nk : NumV K H' (.ref ak) (kn.getD (j + k) 0) := NumV.of (sm _ _ hak)
    have n0 : NumV K H' (.ref a0) (kn.getD j 0) := NumV.of (sm _ _ ha0)
    have hj2 : j < (nextR A kn sl k).length := by rw [nextR_length]; exact hj
    have et : (nextR A kn sl k).take (j + 1) = (nextR A kn sl k).take j ++ [(nextR A kn sl k).getD j 0] := by rw [List.take_add_one, getD_some hj2]; rfl
    have zlt : zs.length < sizeLine := Nat.lt_of_lt_of_le (show zs.length < 300 by lia) (by decide)
    refine ⟨_, rfl, _, rfl, _, rfl, _, _, rfl, rfl, rk, ks, _, _, rfl, rfl, hK', ek, _, rfl, _, rfl, rk, ks, _, _, rfl, rfl, hK', e0, ?_⟩
    refine eqN nk n0 ?_
    refine ⟨_, rfl, ?_⟩
    by_cases he : kn.getD (j + k) 0 = kn.getD j 0
    · refine iteTc (by rw [decide_eq_true he] <;> rfl) ?_
      obtain ⟨v, hv, hnv⟩ := (hsl j (by lia) he)
      refine ⟨_, rfl, .inl ⟨rfl, _, SqL.of ep⟩, _, rfl, _, rfl, _, rfl, rk, ks, _, _, rfl, rfl, hK', e0, d, v, rfl, ?_, ?_⟩
      · rw [← hv]; exact DGet.t (k := kQ (kn.getD j 0)) (sm _ _ hd) (sm _ _ ha0)
      refine ⟨p, zs, v, rfl, rfl, ep, zlt, sm.put hp0, _, _, rfl, upd_same, by simp [hzl], ?_⟩
      rw [et, nextR_getD hj, if_pos he]
      exact Paired.snoc (Nums.put hzs ep) ((hnv.same sm).put ep)
    · refine iteFc (by rw [decide_eq_false he] <;> rfl) ?_
      have ba := hbA _ (getD_mem (l := A) (i := j + 1) (by lia))
      have bb := hbA _ (getD_mem (l := A) (i := j) (by lia))
      have bk := hbK _ (getD_mem (l := kn) (i := j + k) (by lia))
      have b0 := hbK _ (getD_mem (l := kn) (i := j) (by lia))
      refine ⟨_, rfl, .inl ⟨rfl, _, SqL.of ep⟩, _, rfl, _, rfl, _, _, rfl, rfl, ra, as, _, _, rfl, rfl, hA', ea, _, rfl, _, rfl, ra, as, _, _, rfl, rfl, hA', eb, _, _, _, _, m, m, rfl, hna.same sm, hnb.same sm, ba, bb, by lia, fun t ht => ?_⟩
      have s1 : Same H' (upd H' t (nT (A.getD (j + 1) 0 - A.getD j 0))) := Same.new ht
      refine ⟨_, rfl, _, rfl, _, rfl, _, _, rfl, rfl, rk, ks, _, _, rfl, rfl, Same.seq s1 hK', ek, _, rfl, _, rfl, rk, ks, _, _, rfl, rfl, Same.seq s1 hK', e0, _, _, _, _, n, n, rfl, nk.same s1, n0.same s1, bk, b0, by lia, fun u hu => ?_⟩
      have s2 := s1.trans (Same.new (o := nT (kn.getD (j + k) 0 - kn.getD j 0)) hu)
      refine ⟨_, _, _, _, m + m + 1, n + n + 1, rfl, NumV.of ((Same.new hu) _ _ upd_same), NumV.of upd_same, (fun z => he (by grind)), ba.minus bb, bk.minus b0, by lia, fun r hr' => ?_⟩
      have s3 := s2.trans (Same.new (o := nT ((A.getD (j + 1) 0 - A.getD j 0) / (kn.getD (j + k) 0 - kn.getD j 0))) hr')
      have ep3 := s3 _ _ ep
      refine ⟨p, zs, .ref r, rfl, rfl, ep3, zlt, (sm.trans s3).put hp0, _, _, rfl, upd_same, by simp [hzl], ?_⟩
      rw [et, nextR_getD hj, if_neg he]
      exact Paired.snoc (Nums.put (Nums.same hzs s3) ep3) ((NumV.of upd_same).put ep3)
  · rintro σ H' hR2
    refine anE2 hR2 fun sm hz54 => ?_
    refine exE2 hz54 fun zs z5 hz54' => ?_
    clear hz54
    refine anE4 hz54' fun hq53 ep hzl hzs => ?_
    clear hz54'
    obtain rfl := hq53
    try clear hR2
    rw [List.take_of_length_le (by rw [nextR_length]; exact Nat.le_refl _)] at hzs
    exact ⟨_, rfl, q p H' zs sm hp0 ep hzs⟩
theorem sc_table_of : FnScope ["points", "knots", "slopes", "table", "k"] ["points"] (defScope (top 30)) := ⟨rfl, rfl, rfl, by decide +kernel, rfl, by decide +kernel, by decide +kernel⟩
set_option maxHeartbeats 4000000 in
theorem ok_table_of {f : Addr} {fd : FuncData} (F : Fun K "table_of" "table_of" (top 30) f fd) (F_knots_of : Fd P w K mg base 34 "knots_of" ["points"] (spKnotsT K)) (F_slopes_in : Fd P w K mg base 33 "slopes_in" ["points"] (spSlopes K)) (F_first_row : Fd P w K mg base 33 "first_row" ["points"] (spRow0 K)) (F_next_row : Fd P w K mg base 36 "next_row" ["ahead", "knots", "slopes", "k"] (spNextRow K)) (b_range : mg "range" = none) (b_len : mg "len" = none) (hT : P.given.tree = none) :
    FnOk P w K mg base CX0 37 f fd ["points"] (spTable K) := by
  refine F.ok sc_table_of (fun vs H Q E h => ?_) (fun cdv A outer s H vs Q E hr h => ?_)
  · obtain ⟨_, _, _, _, _, rfl, _⟩ := h; rfl
  refine ⟨_, (pss_consC (K := K) (ps_set (i := 1) sc_table_of.nd rfl (Or.inl rfl) (pe_fn F_knots_of hr rfl (pa_cons (pv 0) pa_nil)))
    (pss_consC (K := K) (ps_set (i := 2) sc_table_of.nd rfl (Or.inl rfl) (pe_fn F_slopes_in hr rfl (pa_cons (pv 0) pa_nil)))
    (pss_consC (K := K) (ps_set (i := 3) sc_table_of.nd rfl (Or.inl rfl) (pe_lst pa_nil))
    (pss_consC (K := K) (ps_forC (K := K) PassesOwn.never rfl (pi_range1 rfl b_range (pa_cons (pe_callB (lenK K) rfl b_len bt_len (pa_cons (pv 1) pa_nil)) pa_nil)) (pg_name (i := 4) sc_table_of.nd rfl (Or.inl rfl)) (pss_one (ps_expr (pe_bmK K PySem.F.plainAttrs_list PySem.F.slot_list_append PySem.F.type_list_append mt_append (pv 3) (pa_cons (pe_ifExp (pt_cmpR op_eq (pv 4) pe_int (nomark _)) (pe_fn F_first_row hr rfl (pa_cons (pv 0) pa_nil)) (pe_fn F_next_row hr rfl (pa_cons (pe_ix (ixL K) (pv 3) (pe_op op_sub (pv 4) pe_int) (fun u v => rfl)) (pa_cons (pv 1) (pa_cons (pv 2) (pa_cons (pv 4) pa_nil)))))) pa_nil)))) (by rfl))
    (pss_one (ps_ret (pv 3))) (by rfl)) (by rfl)) (by rfl)) (by rfl)), ?_⟩
  obtain ⟨r, xs, pss, hh, n, rfl, hS, hp, h23, h100, hnd, h12, hb, hbk, hn1, hn40, q⟩ := h
  have P0 : 0 ≤ sizeLine := by decide
  refine ⟨_, rfl, r, xs, pss, rfl, hS, hp, h23, h100, fun w Hw ws sw hw ew hws => ?_⟩
  refine ⟨_, rfl, r, xs, pss, rfl, hS.same sw, PtsT.same hp sw, h23, h100, hnd, fun d Hd kvs sd hd ed hsl => ?_⟩
  refine ⟨P0, fun p hp0 => ?_⟩
  have s0 : Same Hd (upd Hd p (.lst [])) := Same.new hp0
  have sH : Same H Hd := sw.trans sd
  have hpH : H p = none := sH.free hp0
  have hwl : ws.length = (tell pss).length := by rw [hws.length, List.length_map]
  have ewd := sd _ _ ew
  have hwd : NumsT Hd ws (kn pss) := NumsT.same hws sd
  refine ⟨_, rfl, w, ws, rfl, .inl (SqL.of (s0 _ _ ewd)), _, rfl, by lia, by lia, ?_⟩
  rw [show ((ws.length : Nat) : Int).toNat = (tell pss).length by lia]
  refine for_range (n := (tell pss).length) (L8 Hd r w d p K H pss fun Hd r w d p K H pss i σ H' => Same Hd H' ∧ ∃ ys z, σ = [some (.ref r), some (.ref w), some (.ref d), some (.ref p), z] ∧ H' p = some (.lst ys) ∧ Paired (FR K H p H') ys ((List.range i).map (tab pss))) ⟨s0, [], none, rfl, upd_same, .nil⟩ ?_ ?_
  · rintro i σ H' hi hR1
    refine anE2 hR1 fun sm hz56 => ?_
    refine exE2 hz56 fun ys z hz56' => ?_
    clear hz56
    refine anE3 hz56' fun hq55 ep hys => ?_
    clear hz56'
    obtain rfl := hq55
    try clear hR1
    have hyl : ys.length = i := by rw [hys.length, List.length_map, List.length_range]
    have sHH := sH.trans sm
    have zlt : ys.length < sizeLine := Nat.lt_of_lt_of_le (show ys.length < 300 by lia) (by decide)
    have er : (List.range (i + 1)).map (tab pss) = (List.range i).map (tab pss) ++ [tab pss i] := by rw [List.range_succ, List.map_append]; rfl
    have fin : ∀ (l : Addr) (H3 : Hp) (zs : List V), Same H' H3 → H' l = none → H3 l = some (.lst zs) → Nums K H3 zs (tab pss i) → Same Hd (upd H3 p (.lst (ys ++ [.ref l]))) ∧ ∃ ys' z, [some (V.ref r), some (.ref w), some (.ref d), some (.ref p), some (.int (0 + (i : Int)))] = [some (.ref r), some (.ref w), some (.ref d), some (.ref p), z] ∧ (upd H3 p (.lst (ys ++ [.ref l]))) p = some (.lst ys') ∧ Paired (FR K H p (upd H3 p (.lst (ys ++ [.ref l])))) ys' ((List.range (i + 1)).map (tab pss)) := fun l H3 zs s3 hl el hn => by
      have ep3 := s3 _ _ ep
      have lp : l ≠ p := (ne_of_none ep hl).symm
      refine ⟨(sm.trans s3).put hp0, _, _, rfl, upd_same, ?_⟩
      rw [er]
      exact Paired.snoc (Paired.mapP hys fun _ _ z => (z.same s3).put ep3) (FR.put ⟨l, zs, rfl, lp, sHH.free hl, el, hn⟩ ep3)
    refine ⟨_, rfl, .inl ⟨rfl, _, SqL.of ep⟩, _, rfl, rfl, _, rfl, ?_⟩
    match i, hi, fin, hys, hyl with
    | 0, hi, fin, hys, hyl =>
      refine iteT ?_
      refine ⟨_, rfl, r, xs, pss, rfl, hS.same sHH, PtsT.same hp sHH, h23, h100, fun l H3 zs s3 hl el hn => ?_⟩
      exact ⟨p, ys, .ref l, rfl, rfl, s3 _ _ ep, zlt, fin l H3 zs s3 hl el hn⟩
    | i + 1, hi, fin, hys, hyl =>
      refine iteFc (by rw [decide_eq_false (show ¬ V.int (0 + ((i + 1 : Nat) : Int)) = V.int 0 from fun z => by have := V.int.inj z; lia)] <;> rfl) ?_
      obtain ⟨xv, hxv, a, zs, rfl, hap, haH, ha, hzs⟩ := (Paired.get' hys (last_range (tab pss) i))
      have ea : atI ys (0 + ((i + 1 : Nat) : Int) - 1) = some (.ref a) := by rw [show 0 + ((i + 1 : Nat) : Int) - 1 = ((i : Nat) : Int) by lia]; exact atI_nat hxv
      have hbl := bnd_up hn40 (show i ≤ 10 by lia)
      refine ⟨_, rfl, _, rfl, _, _, rfl, rfl, p, ys, _, _, rfl, rfl, SqL.of ep, ea, _, rfl, _, rfl, _, rfl, a, w, d, zs, ws, tab pss i, kn pss, kvs, slOf pss, i + 1, bnd hh n i, n, by rw [Int.zero_add]; rfl, SqL.of ha, hzs, SqL.of (sm _ _ ewd), NumsT.same hwd sm, sm _ _ ed, ?_, by lia, by rw [kn_length]; lia, by rw [tab_length _ _ (by lia), kn_length]; lia, by rw [kn_length]; lia, tab_rb h23 hn1 hb hbk i (by lia), kn_rb hbk, by lia, by lia, fun l H3 zs' s3 hl el hn => ?_⟩
      · intro j hj he
        rw [kn_length] at hj
        refine anE2 (knots_eq h23 hnd (by lia) hj he) fun _ hz59 => ?_
        refine exE1 hz59 fun ps hz59' => ?_
        clear hz59
        refine anE4 hz59' fun h1 h2 h3 _ => ?_
        clear hz59'
        obtain ⟨v, hv, hnv⟩ := (hsl ps h1 h2)
        have e4 := slOf_at hnd h1 h2
        rw [h3] at hv e4
        rw [e4]
        exact ⟨v, hv, hnv.same sm⟩
      · exact ⟨p, ys, .ref l, rfl, rfl, s3 _ _ ep, zlt, fin l H3 zs' s3 hl el hn⟩
  · rintro σ H' hR2
    refine anE2 hR2 fun sm hz61 => ?_
    refine exE2 hz61 fun ys z hz61' => ?_
    clear hz61
    refine anE3 hz61' fun hq60 ep hys => ?_
    clear hz61'
    obtain rfl := hq60
    try clear hR2
    exact ⟨_, rfl, q p H' ys (sH.trans sm) hpH ep hys⟩
theorem sc_steps_of : FnScope ["points"] ["points"] (defScope (top 31)) := ⟨rfl, rfl, rfl, by decide +kernel, rfl, by decide +kernel, by decide +kernel⟩
set_option maxHeartbeats 4000000 in
theorem ok_steps_of {f : Addr} {fd : FuncData} (F : Fun K "steps_of" "steps_of" (top 31) f fd) (F_table_of : Fd P w K mg base 37 "table_of" ["points"] (spTable K)) (hT : P.given.tree = none) :
    FnOk P w K mg base CX0 38 f fd ["points"] (spSteps K) := by
  refine F.ok sc_steps_of (fun vs H Q E h => ?_) (fun cdv A outer s H vs Q E hr h => ?_)
  · obtain ⟨_, _, _, _, _, rfl, _⟩ := h; rfl
  refine ⟨_, (pss_one (ps_ret (pe_lc rfl (N := ["row"]) (nt := 1) (js := []) (CompOk.look (NX := ["points"]) (sc := defScope (top 31)) rfl rfl (by decide +kernel)) (piL K (pe_fn F_table_of hr rfl (pa_cons (pv 0) pa_nil))) (fun u1 u2 u3 u4 u5 => (pg_name (i := 0) (show List.Nodup (["row"] : List Str) from by decide +kernel) rfl (Or.inl rfl))) (stays_name (by decide)) (fun u1 u2 u3 u4 u5 => pts_nil) (fun u1 u2 u3 u4 u5 => (pe_ix (ixL K) (pv 0) pe_int (fun u v => rfl)))))), ?_⟩
  obtain ⟨r, xs, pss, hh, n, rfl, hS, hp, h23, h100, hnd, h12, hb, hbk, hn1, hn40, q⟩ := h
  refine lc_of ⟨_, rfl, r, xs, pss, hh, n, rfl, hS, hp, h23, h100, hnd, h12, hb, hbk, hn1, hn40, fun w Hw ws sw hw ew hws => ⟨w, rfl, ⟨_, SqL.of ew⟩, ?_⟩⟩
  have hwl : ws.length = (tell pss).length := by rw [hws.length, List.length_map, List.length_range]
  refine lc_lst (xs := ws) (L3 Hw K pss fun Hw K pss i zs H' => H' = Hw ∧ zs.length = i ∧ Nums K Hw zs ((stepsOf pss).take i)) ⟨rfl, rfl, .nil⟩ (fun i zs H' _ h => ⟨by rw [h.1]; exact SqL.of ew, h.2.1⟩) (Nat.le_of_lt (small1000 (by lia))) ?_ ?_
  · rintro i v zs H' hv ⟨rfl, hzl, hzn⟩
    have hi : i < ws.length := (List.getElem?_eq_some_iff.mp hv).1
    obtain ⟨rs, hrs, a, us, rfl, hap, haH, ha, hus⟩ := (Paired.get hws hv)
    have ers : rs = tab pss i := by
      rw [List.getElem?_map, List.getElem?_range (by lia)] at hrs
      exact (Option.some.inj hrs).symm
    subst ers
    have hl := tab_length pss i (by lia)
    obtain ⟨x0, hx0, hn0⟩ := (Paired.get' hus (getD_some (l := tab pss i) (i := 0) (by lia)))
    refine ⟨_, rfl, a, us, _, x0, rfl, rfl, SqL.of ha, atI_nat (j := 0) hx0, rfl, by simp [hzl], ?_⟩
    have e : (stepsOf pss).take (i + 1) = (stepsOf pss).take i ++ [(tab pss i).getD 0 0] := by
      rw [List.take_add_one]
      congr 1
      unfold stepsOf
      rw [List.getElem?_map, List.getElem?_range (by lia)]; rfl
    rw [e]
    exact Paired.snoc hzn hn0
  rintro zs H' ⟨rfl, hzl, hzn⟩ p hp0
  rw [hwl, ← stepsOf_length, List.take_length] at hzn
  exact q p _ zs (sw.trans (Same.new hp0)) (sw.free hp0) upd_same (Nums.same hzn (Same.new hp0))
theorem sc_are_unlike : FnScope ["places"] ["places"] (defScope (top 22)) := ⟨rfl, rfl, rfl, by decide +kernel, rfl, by decide +kernel, by decide +kernel⟩
set_option maxHeartbeats 4000000 in
theorem ok_are_unlike {f : Addr} {fd : FuncData} (F : Fun K "are_unlike" "are_unlike" (top 22) f fd) (b_len : mg "len" = none) (b_set : mg "set" = none) (hT : P.given.tree = none) :
    FnOk P w K mg base CX0 33 f fd ["places"] (spUnlike K) := by
  refine F.ok sc_are_unlike (fun vs H Q E h => ?_) (fun cdv A outer s H vs Q E hr h => ?_)
  · obtain ⟨_, _, _, rfl, _⟩ := h; rfl
  refine ⟨_, (pss_one (ps_ret (pe_cmpR op_eq (pe_callB call_lenS rfl b_len bt_len (pa_cons (pe_callTy (setR K rfl hr.units) rfl b_set bt_set (pa_cons (pv 0) pa_nil)) pa_nil)) (pe_callB (lenK K) rfl b_len bt_len (pa_cons (pv 0) pa_nil)) (nomark _)))), ?_⟩
  obtain ⟨l, ys, qs, rfl, hS, hn, hnd, h17, q⟩ := h
  have hl := hn.length
  refine ⟨_, rfl, l, ys, qs, rfl, hS, hn, hnd, h17, fun p hp => ⟨p, qs.length, rfl, upd_same, by lia, ?_⟩⟩
  have s1 : Same H (upd H p (SetO p qs.length)) := Same.new hp
  refine ⟨_, rfl, l, ys, rfl, .inl (Same.seq s1 hS), rfl, ?_⟩
  have e : (V.int ((qs.length : Nat) : Int) = V.int ((ys.length : Nat) : Int)) := by rw [hl]
  rw [decide_eq_true e]
  exact q _ s1
theorem sc_is_whole : FnScope ["thing"] ["thing"] (defScope (top 6)) := ⟨rfl, rfl, rfl, by decide +kernel, rfl, by decide +kernel, by decide +kernel⟩
set_option maxHeartbeats 4000000 in
theorem ok_is_whole {f : Addr} {fd : FuncData} (F : Fun K "is_whole" "is_whole" (top 6) f fd) (b_isinstance : mg "isinstance" = none) (b_int : mg "int" = none) (b_bool : mg "bool" = none) (hT : P.given.tree = none) :
    FnOk P w K mg base CX0 33 f fd ["thing"] (spWhole K) := by
  refine F.ok sc_is_whole (fun vs H Q E h => ?_) (fun cdv A outer s H vs Q E hr h => ?_)
  · obtain ⟨_, _, rfl, _⟩ := h; rfl
  refine ⟨_, (pss_one (ps_ret (pe_and (pe_callB (isiK K) rfl b_isinstance bt_isinstance (pa_cons (pv 0) (pa_cons (pe_bltn (v := .ty "int") rfl b_int bt_int rfl) pa_nil))) (pe_one (pe_not (pe_callB (isiK K) rfl b_isinstance bt_isinstance (pa_cons (pv 0) (pa_cons (pe_bltn (v := .ty "bool") rfl b_bool bt_bool rfl) pa_nil)))))))), ?_⟩
  obtain ⟨x, b, rfl, wx, q⟩ := h
  cases wx with
  | int i => exact ⟨_, rfl, _, _, _, _, rfl, .of (.int i), kit_ii K, true, rfl, iteT ⟨_, rfl, _, _, _, _, rfl, .of (.int i), kit_ib K, false, rfl, q⟩⟩
  | bl y => exact ⟨_, rfl, _, _, _, _, rfl, .of (.bl y), kit_bi K, true, rfl, iteT ⟨_, rfl, _, _, _, _, rfl, .of (.bl y), kit_bb K, true, rfl, q⟩⟩
  | oth ty hk => exact ⟨_, rfl, _, _, _, _, rfl, ty, hk, false, rfl, iteF q⟩
theorem sc_is_number : FnScope ["thing"] ["thing"] (defScope (top 8)) := ⟨rfl, rfl, rfl, by decide +kernel, rfl, by decide +kernel, by decide +kernel⟩
set_option maxHeartbeats 4000000 in
theorem ok_is_number {f : Addr} {fd : FuncData} (F : Fun K "is_number" "is_number" (top 8) f fd) (F_is_whole : Fd P w K mg base 33 "is_whole" ["thing"] (spWhole K)) (F_common_measure : Fd P w K mg base 33 "common_measure" ["one", "other"] (spGcd)) (b_isinstance : mg "isinstance" = none) (b_tuple : mg "tuple" = none) (b_len : mg "len" = none) (hT : P.given.tree = none) :
    FnOk P w K mg base CX0 34 f fd ["thing"] (spIsN K) := by
  refine F.ok sc_is_number (fun vs H Q E h => ?_) (fun cdv A outer s H vs Q E hr h => ?_)
  · obtain ⟨_, _, rfl, _⟩ := h; rfl
  refine ⟨_, (pss_consC (K := K) (ps_ifC (K := K) (PW.pt (pw_or (pt_not (pt_val (pe_callB (isiK K) rfl b_isinstance bt_isinstance (pa_cons (pv 0) (pa_cons (pe_bltn (v := .ty "tuple") rfl b_tuple bt_tuple rfl) pa_nil))))) (pw_or1 (pt_cmpR op_ne (pe_callB (lenK K) rfl b_len bt_len (pa_cons (pv 0) pa_nil)) pe_int (nomark _))))) (pss_one (ps_ret pe_bl)) pss_nil (by rfl) (by rfl))
    (pss_consC (K := K) (ps_ifC (K := K) (PW.pt (pw_or (pt_not (pt_val (pe_fn F_is_whole hr rfl (pa_cons (pe_ix (ixT K) (pv 0) pe_int (fun u v => rfl)) pa_nil)))) (pw_or1 (pt_not (pt_val (pe_fn F_is_whole hr rfl (pa_cons (pe_ix (ixT K) (pv 0) pe_int (fun u v => rfl)) pa_nil))))))) (pss_one (ps_ret pe_bl)) pss_nil (by rfl) (by rfl))
    (pss_one (ps_ret (pe_and (pe_cmpR op_ge (pe_ix (ixT K) (pv 0) pe_int (fun u v => rfl)) pe_int (nomark _)) (pe_one (pe_cmpR op_eq (pe_fn F_common_measure hr rfl (pa_cons (pe_ix (ixT K) (pv 0) pe_int (fun u v => rfl)) (pa_cons (pe_ix (ixT K) (pv 0) pe_int (fun u v => rfl)) pa_nil))) pe_int (nomark _)))))) (by rfl)) (by rfl)), ?_⟩
  obtain ⟨x, p, rfl, ⟨r, rfl, hr'⟩, q⟩ := h
  refine ⟨_, rfl, _, _, _, _, rfl, .tup hr', kit_tt K, true, rfl, iteF ?_⟩
  refine ⟨_, rfl, r, _, rfl, .inr hr', rfl, _, rfl, iteF ?_⟩
  refine ⟨_, rfl, r, _, _, _, rfl, rfl, hr', rfl, _, _, rfl, .int _, _, rfl, iteF ?_⟩
  refine ⟨_, rfl, r, _, _, _, rfl, rfl, hr', rfl, _, _, rfl, .int _, _, rfl, iteF ?_⟩
  refine ⟨_, rfl, r, _, _, _, rfl, rfl, hr', rfl, _, _, rfl, rfl, _, rfl, ?_⟩
  refine iteTc (by rw [decide_eq_true (show (1 : Int) ≤ (p.den : Int) by have := p.den_pos; lia)] <;> rfl) ?_
  refine ⟨_, rfl, r, _, _, _, rfl, rfl, hr', rfl, _, rfl, r, _, _, _, rfl, rfl, hr', rfl, _, _, rfl, rfl, ?_⟩
  rw [decide_eq_true (show V.int (Int.gcd p.num (p.den : Int) : Int) = V.int 1 by rw [isn_gcd])]
  exact q _ (Same.refl _)
theorem sc_is_point : FnScope ["thing"] ["thing"] (defScope (top 21)) := ⟨rfl, rfl, rfl, by decide +kernel, rfl, by decide +kernel, by decide +kernel⟩
set_option maxHeartbeats 4000000 in
theorem ok_is_point {f : Addr} {fd : FuncData} (F : Fun K "is_point" "is_point" (top 21) f fd) (F_is_number : Fd P w K mg base 34 "is_number" ["thing"] (spIsN K)) (b_all : mg "all" = none) (b_isinstance : mg "isinstance" = none) (b_tuple : mg "tuple" = none) (b_len : mg "len" = none) (hT : P.given.tree = none) :
    FnOk P w K mg base CX0 35 f fd ["thing"] (spIsPt K) := by
  refine F.ok sc_is_point (fun vs H Q E h => ?_) (fun cdv A outer s H vs Q E hr h => ?_)
  · obtain ⟨_, _, rfl, _⟩ := h; rfl
  refine ⟨_, (pss_consC (K := K) (ps_ifC (K := K) (PW.pt (pw_or (pt_not (pt_val (pe_callB (isiK K) rfl b_isinstance bt_isinstance (pa_cons (pv 0) (pa_cons (pe_bltn (v := .ty "tuple") rfl b_tuple bt_tuple rfl) pa_nil))))) (pw_or1 (pt_cmpR (notInS K) (pe_callB (lenK K) rfl b_len bt_len (pa_cons (pv 0) pa_nil)) (pe_tup (pa_cons pe_int (pa_cons pe_int pa_nil))) (by with_unfolding_all rfl))))) (pss_one (ps_ret pe_bl)) pss_nil (by rfl) (by rfl))
    (pss_one (ps_ret (pe_callB (allB K rfl) rfl b_all bt_all (pa_cons (pe_lc rfl (N := ["each"]) (nt := 1) (js := []) (CompOk.look (NX := ["thing"]) (sc := defScope (top 21)) rfl rfl (by decide +kernel)) (piT K (pv 0)) (fun u1 u2 u3 u4 u5 => (pg_name (i := 0) (show List.Nodup (["each"] : List Str) from by decide +kernel) rfl (Or.inl rfl))) (stays_name (by decide)) (fun u1 u2 u3 u4 u5 => pts_nil) (fun u1 u2 u3 u4 u5 => (pe_fn F_is_number hr rfl (pa_cons (pv 0) pa_nil)))) pa_nil)))) (by rfl)), ?_⟩
  obtain ⟨x, ps, rfl, ⟨r, rfl, xs, hS, hn⟩, h23, q⟩ := h
  have P2 : 2 ≤ sizeLine := by decide
  have hl := hn.length
  refine ⟨_, rfl, _, _, _, _, rfl, .tup hS, kit_tt K, true, rfl, iteF ?_⟩
  refine ⟨_, rfl, r, xs, rfl, .inr hS, P2, fun t ht => ?_⟩
  have s1 : Same H (upd H t (.tup [.int 2, .int 3])) := Same.new ht
  refine ⟨t, _, rfl, .inr (SqT.of upd_same), rfl, rfl, _, rfl, ?_⟩
  have hin : inV (V.int ((xs.length : Nat) : Int)) [.int 2, .int 3] = true := by
    rcases h23 with z | z
    · rw [hl, z]; rfl
    · rw [hl, z]; rfl
  rw [hin]
  refine iteF ?_
  refine lc_of ⟨_, rfl, r, rfl, ⟨_, SqT.same hS s1⟩, ?_⟩
  refine lc_tup (xs := xs) (fun i zs H' => Same H H' ∧ zs = List.replicate i (.bl true)) ⟨s1, rfl⟩ (fun i zs H' _ p => ⟨SqT.same hS p.1, by rw [p.2, List.length_replicate]⟩) (Nat.le_of_lt (small1000 (by lia))) ?_ ?_
  · rintro i x zs H' hx ⟨sm, rfl⟩
    obtain ⟨c, hc, hcn⟩ := (Paired.get hn hx)
    refine ⟨_, rfl, x, c, rfl, hcn.same sm, fun H2 s2 => ⟨sm.trans s2, ?_⟩⟩
    rw [← List.replicate_succ']
  rintro zs H' ⟨sm, rfl⟩ p hp
  refine ⟨p, List.replicate xs.length true, rfl, SqL.of (by rw [List.map_replicate]; exact upd_same), ?_⟩
  rw [all_rep]
  exact q _ (sm.trans (Same.new hp))
theorem sc_points_of : FnScope ["thing", "points"] ["thing"] (defScope (top 23)) := ⟨rfl, rfl, rfl, by decide +kernel, rfl, by decide +kernel, by decide +kernel⟩
set_option maxHeartbeats 4000000 in
theorem ok_points_of {f : Addr} {fd : FuncData} (F : Fun K "points_of" "points_of" (top 23) f fd) (F_are_unlike : Fd P w K mg base 33 "are_unlike" ["places"] (spUnlike K)) (F_told_in : Fd P w K mg base 33 "told_in" ["points"] (spToldT K)) (F_is_point : Fd P w K mg base 35 "is_point" ["thing"] (spIsPt K)) (b_tuple : mg "tuple" = none) (b_all : mg "all" = none) (b_len : mg "len" = none) (b_isinstance : mg "isinstance" = none) (b_list : mg "list" = none) {t_MOST_TOLD : Tok} (c_MOST_TOLD : mg "MOST_TOLD" = some (.int 12 t_MOST_TOLD)) (hT : P.given.tree = none) :
    FnOk P w K mg base CX0 36 f fd ["thing"] (spPtsOf K) := by
  refine F.ok sc_points_of (fun vs H Q E h => ?_) (fun cdv A outer s H vs Q E hr h => ?_)
  · obtain ⟨_, _, _, _, rfl, _⟩ := h; rfl
  refine ⟨_, (pss_consC (K := K) (ps_ifC (K := K) (PW.pt (pw_or (pt_not (pt_val (pe_callB (isiT K) rfl b_isinstance bt_isinstance (pa_cons (pv 0) (pa_cons (pe_tup (pa_cons (pe_bltn (v := .ty "list") rfl b_list bt_list rfl) (pa_cons (pe_bltn (v := .ty "tuple") rfl b_tuple bt_tuple rfl) pa_nil))) pa_nil))))) (pw_or1 (pt_cmpR op_eq (pe_callB (lenK K) rfl b_len bt_len (pa_cons (pv 0) pa_nil)) pe_int (nomark _))))) (pss_one ps_never) pss_nil (by rfl) (by rfl))
    (pss_consC (K := K) (ps_ifC (K := K) (pt_not (pt_val (pe_callB (allB K rfl) rfl b_all bt_all (pa_cons (pe_lc rfl (N := ["each"]) (nt := 1) (js := []) (CompOk.look (NX := ["thing", "points"]) (sc := defScope (top 23)) rfl rfl (by decide +kernel)) (piS K (pv 0)) (fun u1 u2 u3 u4 u5 => (pg_name (i := 0) (show List.Nodup (["each"] : List Str) from by decide +kernel) rfl (Or.inl rfl))) (stays_name (by decide)) (fun u1 u2 u3 u4 u5 => pts_nil) (fun u1 u2 u3 u4 u5 => (pe_fn F_is_point hr rfl (pa_cons (pv 0) pa_nil)))) pa_nil)))) (pss_one ps_never) pss_nil (by rfl) (by rfl))
    (pss_consC (K := K) (ps_ifC (K := K) (pt_not (pt_val (pe_fn F_are_unlike hr rfl (pa_cons (pe_lc rfl (N := ["point"]) (nt := 1) (js := []) (CompOk.look (NX := ["thing", "points"]) (sc := defScope (top 23)) rfl rfl (by decide +kernel)) (piS K (pv 0)) (fun u1 u2 u3 u4 u5 => (pg_name (i := 0) (show List.Nodup (["point"] : List Str) from by decide +kernel) rfl (Or.inl rfl))) (stays_name (by decide)) (fun u1 u2 u3 u4 u5 => pts_nil) (fun u1 u2 u3 u4 u5 => (pe_ix (ixT K) (pv 0) pe_int (fun u v => rfl)))) pa_nil)))) (pss_one ps_never) pss_nil (by rfl) (by rfl))
    (pss_consC (K := K) (ps_set (i := 1) sc_points_of.nd rfl (Or.inl rfl) (pe_callTy (tupleK K) rfl b_tuple bt_tuple (pa_cons (pv 0) pa_nil)))
    (pss_consC (K := K) (ps_ifC (K := K) (pt_cmpR op_gt (pe_callB (lenK K) rfl b_len bt_len (pa_cons (pe_fn F_told_in hr rfl (pa_cons (pv 1) pa_nil)) pa_nil)) (pe_glob (v := .int 12) rfl c_MOST_TOLD ⟨_, rfl⟩) (nomark _)) (pss_one ps_never) pss_nil (by rfl) (by rfl))
    (pss_one (ps_ret (pv 1))) (by rfl)) (by rfl)) (by rfl)) (by rfl)) (by rfl)), ?_⟩
  obtain ⟨b, r, xs, pss, rfl, hS, hp, h23, h1, hnd, h12, q⟩ := h
  have P2 : 2 ≤ sizeLine := by decide
  have hl := hp.length
  have hge := tell_ge h23
  refine ⟨_, rfl, P2, fun tp htp => ?_⟩
  have s1 : Same H (upd H tp (.tup [.ty "list", .ty "tuple"])) := Same.new htp
  have hS1 := Sq.same hS s1
  refine ⟨r, if b then .type "list" else .type "tuple", tp, [.ty "list", .ty "tuple"], [.type "list", .type "tuple"], true, rfl, ?_, upd_same, rfl, ?_, _, rfl, iteF ?_⟩
  · cases b
    · exact .inl ⟨⟨_, hS1⟩, rfl⟩
    · exact .inr ⟨⟨_, hS1⟩, rfl⟩
  · cases b
    · exact kitA_t K
    · exact kitA_l K
  generalize upd H tp (.tup [.ty "list", .ty "tuple"]) = H1 at s1 hS1 ⊢
  refine ⟨_, rfl, r, xs, rfl, Sq.len hS1, rfl, _, rfl, ?_⟩
  refine iteFc (by rw [decide_eq_false (show ¬ V.int ((xs.length : Nat) : Int) = V.int 0 from fun z => by have := V.int.inj z; lia)] <;> rfl) ?_
  have hp1 := PtsT.same hp s1
  refine lc_seq (b := b) (a := r) (xs := xs) rfl (fun i zs H' => Same H1 H' ∧ zs = List.replicate i (.bl true)) ⟨Same.refl _, rfl⟩ (fun i zs H' _ p => ⟨Sq.same hS1 p.1, by rw [p.2, List.length_replicate]⟩) (Nat.le_of_lt (small1000 (by lia))) ?_ ?_
  · rintro i x zs H' hx ⟨sm, rfl⟩
    obtain ⟨ps, hps, hpt⟩ := (Paired.get hp1 hx)
    refine ⟨_, rfl, x, ps, rfl, (hpt.pt).same sm, h23 ps (List.mem_of_getElem? hps), fun H2 s2 => ⟨sm.trans s2, ?_⟩⟩
    rw [← List.replicate_succ']
  rintro zs H2 ⟨s2, rfl⟩ al hal
  have s3 := s2.trans (Same.new (o := .lst (List.replicate xs.length (.bl true))) hal)
  refine ⟨al, List.replicate xs.length true, rfl, SqL.of (by rw [List.map_replicate]; exact upd_same), _, rfl, ?_⟩
  refine iteFc (by rw [all_rep] <;> rfl) ?_
  generalize upd H2 al (.lst (List.replicate xs.length (.bl true))) = H3 at s3 ⊢
  have hS3 := Sq.same hS1 s3
  have hp3 := PtsT.same hp1 s3
  refine lc_seq (b := b) (a := r) (xs := xs) rfl (L2 H3 pss fun H3 pss i zs H' => H' = H3 ∧ zs.length = i ∧ NumsT H3 zs ((pss.take i).map fun ps => ps.getD 0 0)) ⟨rfl, rfl, .nil⟩ (fun i zs H' _ p => ⟨by rw [p.1]; exact hS3, p.2.1⟩) (Nat.le_of_lt (small1000 (by lia))) ?_ ?_
  · rintro i x zs H' hx ⟨rfl, hzl, hzs⟩
    obtain ⟨ps, hps, a, us, pp, rfl, hus, hun, hu0, hpp⟩ := (Paired.get hp3 hx)
    refine ⟨_, rfl, a, us, _, _, rfl, rfl, hus, atI_nat (j := 0) hu0, rfl, by simp [hzl], ?_⟩
    rw [List.take_add_one, hps, List.map_append]
    exact Paired.snoc hzs ⟨pp, rfl, hpp⟩
  rintro zs Hq ⟨hq, hzl, hzs⟩ pl hpl
  obtain rfl : H3 = Hq := hq.symm
  rw [hl, List.take_length] at hzs
  have s4 : Same H3 (upd H3 pl (.lst zs)) := Same.new hpl
  refine ⟨pl, zs, _, rfl, SqL.of upd_same, NumsT.same hzs s4, hnd, by rw [List.length_map]; lia, fun H5 s5 => ⟨_, rfl, iteF ?_⟩⟩
  have s35 := s4.trans s5
  have hS5 := Sq.same hS3 s35
  have hp5 := PtsT.same hp3 s35
  have s15 := (s1.trans s3).trans s35
  have fin : ∀ (t : Addr) (H6 : Hp), Same H5 H6 → SqT K H6 t xs → (b = false → t = r) → (tCons (tVar 1) tNil) [some (.ref r), some (.ref t)] H6 fun vs H7 => True := fun t H6 _ _ _ => ⟨_, rfl, trivial⟩
  clear fin
  refine ⟨_, rfl, r, xs, rfl, ?_⟩
  cases b
  · refine .inr ⟨hS5, ?_⟩
    have sR := Same.refl H5
    refine ⟨_, rfl, r, xs, pss, rfl, (show SqT K H5 r xs from hS5), PtsT.same hp5 sR, h23, by lia, fun tl H7 tys s7 htl etl htls => ?_⟩
    refine ⟨tl, tys, rfl, .inl (SqL.of etl), _, _, rfl, rfl, _, rfl, ?_⟩
    have htyl := htls.length
    refine iteFc (by rw [decide_eq_false (show ¬ ((12 : Int) < ((tys.length : Nat) : Int)) by lia)] <;> rfl) ⟨_, rfl, q r H7 ((s15.trans sR).trans s7) ((show SqT K H5 r xs from hS5).same s7) (fun _ => rfl)⟩
  · refine .inl ⟨hS5, fun t ht => ?_⟩
    have sT : Same H5 (upd H5 t (.tup xs)) := Same.new ht
    have eT : SqT K (upd H5 t (.tup xs)) t xs := SqT.of upd_same
    refine ⟨_, rfl, t, xs, pss, rfl, eT, PtsT.same hp5 sT, h23, by lia, fun tl H7 tys s7 htl etl htls => ?_⟩
    refine ⟨tl, tys, rfl, .inl (SqL.of etl), _, _, rfl, rfl, _, rfl, ?_⟩
    have htyl := htls.length
    refine iteFc (by rw [decide_eq_false (show ¬ ((12 : Int) < ((tys.length : Nat) : Int)) by lia)] <;> rfl) ⟨_, rfl, q t H7 ((s15.trans sT).trans s7) (eT.same s7) (fun z => by cases z)⟩
theorem sc_put_in : FnScope ["points", "point"] ["points", "point"] (defScope (top 35)) := ⟨rfl, rfl, rfl, by decide +kernel, rfl, by decide +kernel, by decide +kernel⟩
set_option maxHeartbeats 4000000 in
theorem ok_put_in {f : Addr} {fd : FuncData} (F : Fun K "put_in" "put_in" (top 35) f fd) (F_points_of : Fd P w K mg base 36 "points_of" ["thing"] (spPtsOf K)) (b_list : mg "list" = none) (hT : P.given.tree = none) :
    FnOk P w K mg base CX0 37 f fd ["points", "point"] (spPutIn K) := by
  refine F.ok sc_put_in (fun vs H Q E h => ?_) (fun cdv A outer s H vs Q E hr h => ?_)
  · obtain ⟨_, _, _, _, _, rfl, _⟩ := h; rfl
  refine ⟨_, (pss_one (ps_ret (pe_fn F_points_of hr rfl (pa_cons (pe_op op_cat (pe_callTy (listK K) rfl b_list bt_list (pa_cons (pv 0) pa_nil)) (pe_lst (pa_cons (pv 1) pa_nil))) pa_nil)))), ?_⟩
  obtain ⟨r, x, xs, pss, ps, rfl, hS, hp, hx, h23, hnd, h12, q⟩ := h
  have P1 : 1 ≤ sizeLine := by decide
  have hl := hp.length
  have hge := tell_ge h23
  rw [List.length_append, List.length_singleton] at hge
  refine ⟨_, rfl, r, xs, rfl, .inr hS, fun l1 hl1 => ⟨_, rfl, P1, fun l2 hl2 => ?_⟩⟩
  refine ⟨l1, l2, xs, [x], rfl, rfl, (Same.new hl2) _ _ upd_same, upd_same, Nat.le_trans (show _ ≤ 300 by rw [List.length_singleton]; lia) (by decide), fun l3 hl3 => ?_⟩
  have s3 : Same H _ := ((Same.new hl1).trans (Same.new hl2)).trans (Same.new (o := .lst (xs ++ [x])) hl3)
  refine ⟨true, l3, xs ++ [x], pss ++ [ps], rfl, SqL.of upd_same, Paired.snoc (PtsT.same hp s3) (hx.same s3), h23, by rw [List.length_append, List.length_singleton]; lia, hnd, h12, fun p H' s4 hp4 _ => ?_⟩
  exact q p H' (s3.trans s4) hp4
theorem sc_new_steps : FnScope ["points", "point"] ["points", "point"] (defScope (top 36)) := ⟨rfl, rfl, rfl, by decide +kernel, rfl, by decide +kernel, by decide +kernel⟩
set_option maxHeartbeats 4000000 in
theorem ok_new_steps {f : Addr} {fd : FuncData} (F : Fun K "new_steps" "new_steps" (top 36) f fd) (F_steps_of : Fd P w K mg base 38 "steps_of" ["points"] (spSteps K)) (F_put_in : Fd P w K mg base 37 "put_in" ["points", "point"] (spPutIn K)) (F_told_in : Fd P w K mg base 33 "told_in" ["points"] (spToldT K)) (b_len : mg "len" = none) (hT : P.given.tree = none) :
    FnOk P w K mg base CX0 39 f fd ["points", "point"] (spNewSteps K) := by
  refine F.ok sc_new_steps (fun vs H Q E h => ?_) (fun cdv A outer s H vs Q E hr h => ?_)
  · obtain ⟨_, _, _, _, _, _, _, rfl, _⟩ := h; rfl
  refine ⟨_, (pss_one (ps_ret (pe_slice (slL K) (pe_fn F_steps_of hr rfl (pa_cons (pe_fn F_put_in hr rfl (pa_cons (pv 0) (pa_cons (pv 1) pa_nil))) pa_nil)) (po_some (pe_callB (lenK K) rfl b_len bt_len (pa_cons (pe_fn F_told_in hr rfl (pa_cons (pv 0) pa_nil)) pa_nil))) po_none))), ?_⟩
  obtain ⟨r, x, xs, pss, ps, hh, n, rfl, hS, hp, hx, h23, hnd, h12, hb, hbk, hn1, hn40, q⟩ := h
  have hge := tell_ge h23
  have h23p : P23 pss := fun ps hps => h23 ps (List.mem_append_left _ hps)
  have hl2 : (pss ++ [ps]).length = pss.length + 1 := by rw [List.length_append, List.length_singleton]
  refine ⟨_, rfl, _, rfl, r, x, xs, pss, ps, rfl, hS, hp, hx, h23, hnd, h12, fun w H1 s1 hw => ?_⟩
  have hpb : PtsT K H1 (xs ++ [x]) (pss ++ [ps]) := Paired.snoc (PtsT.same hp s1) (hx.same s1)
  refine ⟨w, xs ++ [x], pss ++ [ps], hh, n, rfl, hw, hpb, h23, by lia, hnd, h12, hb, hbk, hn1, hn40, fun st H2 zs s2 hst est hzs => ?_⟩
  have s12 := s1.trans s2
  refine ⟨_, rfl, r, xs, pss, rfl, hS.same s12, PtsT.same hp s12, h23p, by lia, fun tl H3 tys s3 htl etl htls => ⟨tl, tys, rfl, .inl (SqL.of etl), ?_⟩⟩
  have htll := htls.length
  refine ⟨_, rfl, st, zs, rfl, SqL.of (s3 _ _ est), fun l hl => ?_⟩
  rw [cut_from, htll]
  have s4 : Same H3 (upd H3 l (.lst (zs.drop (tell pss).length))) := Same.new hl
  have s13 := s12.trans s3
  exact q l _ _ (s13.trans s4) (s13.free hl) upd_same (paired_drop _ (Nums.same hzs (s3.trans s4)))
theorem sc__law_told : FnScope ["_law_points_here", "_law_found", "_law_point"] ["_law_points_here"] (defScope (top 49)) := ⟨rfl, rfl, rfl, by decide +kernel, rfl, by decide +kernel, by decide +kernel⟩
set_option maxHeartbeats 4000000 in
theorem ok__law_told {f : Addr} {fd : FuncData} (F : Fun K "_law_told" "_law_told" (top 49) f fd) (b_len : mg "len" = none) (hT : P.given.tree = none) :
    FnOk P w K mg base CX0 33 f fd ["_law_points_here"] (spToldS K) := by
  refine F.ok sc__law_told (fun vs H Q E h => ?_) (fun cdv A outer s H vs Q E hr h => ?_)
  · obtain ⟨_, _, _, _, rfl, _⟩ := h; rfl
  refine ⟨_, (pss_consC (K := K) (ps_set (i := 1) sc__law_told.nd rfl (Or.inl rfl) (pe_lst pa_nil))
    (pss_consC (K := K) (ps_forC (K := K) PassesOwn.never rfl (piS K (pv 0)) (pg_name (i := 2) sc__law_told.nd rfl (Or.inl rfl)) (pss_consC (K := K) (ps_expr (pe_bmK K PySem.F.plainAttrs_list PySem.F.slot_list_append PySem.F.type_list_append mt_append (pv 1) (pa_cons (pe_tup (pa_cons (pe_ix (ixT K) (pv 2) pe_int (fun u v => rfl)) (pa_cons pe_int (pa_cons (pe_ix (ixT K) (pv 2) pe_int (fun u v => rfl)) pa_nil)))) pa_nil)))
    (pss_one (ps_ifC (K := K) (pt_cmpR op_eq (pe_callB (lenK K) rfl b_len bt_len (pa_cons (pv 2) pa_nil)) pe_int (nomark _)) (pss_one (ps_expr (pe_bmK K PySem.F.plainAttrs_list PySem.F.slot_list_append PySem.F.type_list_append mt_append (pv 1) (pa_cons (pe_tup (pa_cons (pe_ix (ixT K) (pv 2) pe_int (fun u v => rfl)) (pa_cons pe_int (pa_cons (pe_ix (ixT K) (pv 2) pe_int (fun u v => rfl)) pa_nil)))) pa_nil)))) pss_nil (by rfl) (by rfl))) (by rfl)) (by rfl))
    (pss_one (ps_ret (pv 1))) (by rfl)) (by rfl)), ?_⟩
  obtain ⟨b, r, xs, pss, rfl, hS, hp, h23, h100, q⟩ := h
  have P0 : 0 ≤ sizeLine := by decide
  have P3 : 3 ≤ sizeLine := by decide
  have hxl := hp.length
  refine ⟨P0, fun p hp0 => ?_⟩
  refine for_seq (b := b) (a := r) (n := 0) (xs := xs) rfl (L5 H r p K pss fun H r p K pss i σ H' => Same H H' ∧ ∃ ys z2, σ = [some (.ref r), some (.ref p), z2] ∧ H' p = some (.lst ys) ∧ Tls K H' ys (tell (pss.take i))) ⟨Same.new hp0, [], none, rfl, upd_same, .nil⟩ (fun i σ H' _ h => Sq.same hS h.1) ?_ ?_
  · rintro i v σ H' hv hR1
    refine anE2 hR1 fun sm hz67 => ?_
    refine exE2 hz67 fun ys z2 hz67' => ?_
    clear hz67
    refine anE3 hz67' fun hq66 ep hys => ?_
    clear hz67'
    obtain rfl := hq66
    try clear hR1
    obtain ⟨ps, hps, a, rfl, zs, hzs, hzn⟩ := (Paired.get hp hv)
    have hpl := h23 ps (List.mem_of_getElem? hps)
    have hzl := hzn.length
    have hyl : ys.length ≤ 200 := by
      have h1 := tell_length_le (pss.take i) (h23.take i)
      rw [List.length_take] at h1
      rw [hys.length]; lia
    have g0 := getD_some (l := ps) (i := 0) (by lia)
    have g1 := getD_some (l := ps) (i := 1) (by lia)
    obtain ⟨x0, hx0, hn0⟩ := (Paired.get' hzn g0)
    obtain ⟨x1, hx1, hn1⟩ := (Paired.get' hzn g1)
    have a0 : atI zs 0 = some x0 := atI_nat (j := 0) hx0
    have a1 : atI zs 1 = some x1 := atI_nat (j := 1) hx1
    have e : pss.take (i + 1) = pss.take i ++ [ps] := by rw [List.take_add_one, hps]; rfl
    refine ⟨_, rfl, .inl ⟨rfl, _, SqL.of ep⟩, _, rfl, a, zs, _, x0, rfl, rfl, hzs.same sm, a0, _, rfl, a, zs, _, x1, rfl, rfl, hzs.same sm, a1, P3, fun t ht => ?_⟩
    have s3 : Same H' (upd H' t (.tup [x0, .int 0, x1])) := Same.new ht
    have et : (upd H' t (.tup [x0, .int 0, x1])) t = some (.tup [x0, .int 0, x1]) := upd_same
    have tp : t ≠ p := (ne_of_none ep ht).symm
    have ep3 := s3 _ _ ep
    generalize upd H' t (.tup [x0, .int 0, x1]) = H3 at s3 et ep3 ⊢
    refine ⟨p, ys, .ref t, rfl, rfl, ep3, Nat.lt_of_lt_of_le (show ys.length < 300 by lia) (by decide), ?_⟩
    have sm4 : Same H (upd H3 p (.lst (ys ++ [.ref t]))) := (sm.trans s3).put hp0
    have ep4 : (upd H3 p (.lst (ys ++ [.ref t]))) p = some (.lst (ys ++ [.ref t])) := upd_same
    have hys4 : Tls K (upd H3 p (.lst (ys ++ [.ref t]))) (ys ++ [.ref t]) (tell (pss.take i) ++ [⟨ps.getD 0 0, 0, ps.getD 1 0⟩]) :=
      Paired.snoc (Tls.put (Tls.same hys s3) ep3) ⟨t, x0, x1, rfl, (SqT.of et).put ep3, ((hn0.same sm).same s3).put ep3, ((hn1.same sm).same s3).put ep3⟩
    generalize upd H3 p (.lst (ys ++ [.ref t])) = H4 at sm4 ep4 hys4 ⊢
    refine ⟨_, rfl, a, zs, rfl, .inr (hzs.same sm4), rfl, _, rfl, ?_⟩
    by_cases h3 : ps.length = 3
    · refine iteTc (by rw [decide_eq_true (show V.int (zs.length : Int) = V.int 3 by rw [hzl, h3]; rfl)] <;> rfl) ?_
      have g2 := getD_some (l := ps) (i := 2) (by lia)
      obtain ⟨x2, hx2, hn2⟩ := (Paired.get' hzn g2)
      have a2 : atI zs 2 = some x2 := atI_nat (j := 2) hx2
      refine ⟨_, rfl, .inl ⟨rfl, _, SqL.of ep4⟩, _, rfl, a, zs, _, x0, rfl, rfl, hzs.same sm4, a0, _, rfl, a, zs, _, x2, rfl, rfl, hzs.same sm4, a2, P3, fun u hu => ?_⟩
      have s5 : Same H4 (upd H4 u (.tup [x0, .int 1, x2])) := Same.new hu
      have ep5 := s5 _ _ ep4
      refine ⟨p, _, .ref u, rfl, rfl, ep5, Nat.lt_of_lt_of_le (show (ys ++ [V.ref t]).length < 300 by rw [List.length_append, List.length_singleton]; lia) (by decide), (sm4.trans s5).put hp0, _, _, rfl, upd_same, ?_⟩
      rw [e, tell_snoc]
      have et2 : tellP ps = [⟨ps.getD 0 0, 0, ps.getD 1 0⟩] ++ [⟨ps.getD 0 0, 1, ps.getD 2 0⟩] := by unfold tellP; rw [h3]; rfl
      rw [et2, ← List.append_assoc]
      exact Paired.snoc (Tls.put (Tls.same hys4 s5) ep5) ⟨u, x0, x2, rfl, (SqT.of upd_same).put ep5, ((hn0.same sm4).same s5).put ep5, ((hn2.same sm4).same s5).put ep5⟩
    · refine iteFc (by rw [decide_eq_false (show ¬ V.int (zs.length : Int) = V.int 3 from fun z => h3 (by have := V.int.inj z; lia))] <;> rfl) ⟨sm4, _, _, rfl, ep4, ?_⟩
      rw [e, tell_snoc]
      have et2 : tellP ps = [⟨ps.getD 0 0, 0, ps.getD 1 0⟩] := by unfold tellP; rw [show ps.length = 2 by lia]; rfl
      rw [et2]
      exact hys4
  · rintro σ H' hR2
    refine anE2 hR2 fun sm hz71 => ?_
    refine exE2 hz71 fun ys z2 hz71' => ?_
    clear hz71
    refine anE3 hz71' fun hq70 ep hys => ?_
    clear hz71'
    obtain rfl := hq70
    try clear hR2
    rw [hxl, List.take_length] at hys
    exact ⟨_, rfl, q p H' ys sm hp0 ep hys⟩
theorem sc__law_times : FnScope ["_law_a", "_law_b"] ["_law_a", "_law_b"] (defScope (top 43)) := ⟨rfl, rfl, rfl, by decide +kernel, rfl, by decide +kernel, by decide +kernel⟩
set_option maxHeartbeats 4000000 in
theorem ok__law_times {f : Addr} {fd : FuncData} (F : Fun K "_law_times" "_law_times" (top 43) f fd) (F__law_lowest : Fd P w K mg base 33 "_law_lowest" ["_law_top", "_law_bottom"] (spLow)) (hT : P.given.tree = none) :
    FnOk P w K mg base CX0 34 f fd ["_law_a", "_law_b"] (spBin K (· * ·)) := by
  refine F.ok sc__law_times (fun vs H Q E h => ?_) (fun cdv A outer s H vs Q E hr h => ?_)
  · obtain ⟨_, _, _, _, _, _, rfl, _⟩ := h; rfl
  refine ⟨_, (pss_one (ps_ret (pe_fn F__law_lowest hr rfl (pa_cons (pe_op op_mulC (pe_ix (ixT K) (pv 0) pe_int (fun u v => rfl)) (pe_ix (ixT K) (pv 1) pe_int (fun u v => rfl))) (pa_cons (pe_op op_mulC (pe_ix (ixT K) (pv 0) pe_int (fun u v => rfl)) (pe_ix (ixT K) (pv 1) pe_int (fun u v => rfl))) pa_nil))))), ?_⟩
  obtain ⟨x, y, p, q, m, n, rfl, ⟨r, rfl, hr⟩, ⟨u, rfl, hu⟩, hp, hq, hmn, k⟩ := h
  refine ⟨_, rfl, r, _, _, _, rfl, rfl, hr, rfl, _, rfl, u, _, _, _, rfl, rfl, hu, rfl, _, _, rfl, rfl, MulC.bd hp.1 hq.1, ?_⟩
  refine ⟨_, rfl, r, _, _, _, rfl, rfl, hr, rfl, _, rfl, u, _, _, _, rfl, rfl, hu, rfl, _, _, rfl, rfl, MulC.bd hp.2 hq.2, ?_⟩
  refine ⟨_, _, rfl, Int.mul_ne_zero (Nm.den_ne p) (Nm.den_ne q), fun z hz => ?_⟩
  have e := k z hz
  try dsimp only at e
  rw [← Nm.times_eq] at e
  exact e
theorem sc__law_at : FnScope ["_law_curve", "_law_x", "_law_found", "_law_power", "_law_number_here"] ["_law_curve", "_law_x"] (defScope (top 45)) := ⟨rfl, rfl, rfl, by decide +kernel, rfl, by decide +kernel, by decide +kernel⟩
set_option maxHeartbeats 4000000 in
theorem ok__law_at {f : Addr} {fd : FuncData} (F : Fun K "_law_at" "_law_at" (top 45) f fd) (F__law_plus : Fd P w K mg base 34 "_law_plus" ["_law_a", "_law_b"] (spBin K (· + ·))) (F__law_times : Fd P w K mg base 34 "_law_times" ["_law_a", "_law_b"] (spBin K (· * ·))) (hT : P.given.tree = none) :
    FnOk P w K mg base CX0 35 f fd ["_law_curve", "_law_x"] (spAt2 K) := by
  refine F.ok sc__law_at (fun vs H Q E h => ?_) (fun cdv A outer s H vs Q E hr h => ?_)
  · obtain ⟨_, _, _, _, _, _, _, _, rfl, _⟩ := h; rfl
  refine ⟨_, (pss_consC (K := K) (ps_set (i := 2) sc__law_at.nd rfl (Or.inl rfl) (pe_tup (pa_cons pe_int (pa_cons pe_int pa_nil))))
    (pss_consC (K := K) (ps_set (i := 3) sc__law_at.nd rfl (Or.inl rfl) (pe_tup (pa_cons pe_int (pa_cons pe_int pa_nil))))
    (pss_consC (K := K) (ps_forC (K := K) PassesOwn.never rfl (piS K (pv 0)) (pg_name (i := 4) sc__law_at.nd rfl (Or.inl rfl)) (pss_consC (K := K) (ps_set (i := 2) sc__law_at.nd rfl (Or.inl rfl) (pe_fn F__law_plus hr rfl (pa_cons (pv 2) (pa_cons (pe_fn F__law_times hr rfl (pa_cons (pv 4) (pa_cons (pv 3) pa_nil))) pa_nil))))
    (pss_one (ps_set (i := 3) sc__law_at.nd rfl (Or.inl rfl) (pe_fn F__law_times hr rfl (pa_cons (pv 3) (pa_cons (pv 1) pa_nil))))) (by rfl)) (by rfl))
    (pss_one (ps_ret (pv 2))) (by rfl)) (by rfl)) (by rfl)), ?_⟩
  obtain ⟨b, r, rx, xs, qs, x, c0, n, rfl, hS, hn, hx, hB, hbx, hz, q⟩ := h
  have hl := hn.length
  generalize hM : c0 + n * qs.length + 4 = M at hz q
  have hle : M * 2 ≤ 90000000 := Nat.le_trans (Nat.mul_le_mul_left _ (by lia)) hz
  have hz' : (qs.length + 2) * M ≤ 90000000 := by rw [Nat.mul_comm]; exact hz
  refine ⟨(by decide : 2 ≤ sizeLine), fun f hf => ?_⟩
  refine ⟨(by decide : 2 ≤ sizeLine), fun g hg => ?_⟩
  have s0 : Same H (upd (upd H f (.tup [.int 0, .int 1])) g (.tup [.int 1, .int 1])) := (Same.new hf).trans (Same.new hg)
  refine for_seq (b := b) (a := r) (xs := xs) rfl (L7 H r rx qs x M n fun H r rx qs x M n i σ H' => Same H H' ∧ ∃ (f g : Addr) (z : Option V), σ = [some (.ref r), some (.ref rx), some (.ref f), some (.ref g), z] ∧ H' f = some (nT (Cv.ev (qs.take i) x)) ∧ H' g = some (nT (x ^ i)) ∧ RB ((i + 1) * M) (Cv.ev (qs.take i) x) ∧ RB (n * i + 1) (x ^ i))
    ⟨s0, f, g, none, rfl, (Same.new hg) _ _ upd_same, ?_, RB.zero (by lia), ?_⟩ (fun i σ H' _ p => Sq.same hS p.1) ?_ ?_
  · rw [Rat.pow_zero]; exact upd_same
  · rw [Rat.pow_zero]; exact RB.one (by lia)
  · rintro i v σ H' hv hR1
    refine anE2 hR1 fun sm hz73 => ?_
    refine exE3 hz73 fun f' g' z hz73' => ?_
    clear hz73
    refine anE5 hz73' fun hq72 ef eg bf bg => ?_
    clear hz73'
    obtain rfl := hq72
    try clear hR1
    obtain ⟨c, hc, hcn⟩ := (Paired.get hn hv)
    have hi : i < qs.length := (List.getElem?_eq_some_iff.mp hc).1
    have hcm : c ∈ qs := List.mem_of_getElem? hc
    have hni : n * i ≤ n * qs.length := Nat.mul_le_mul_left n (by lia)
    have hni1 : n * (i + 1) = n * i + n := by rw [Nat.mul_add, Nat.mul_one]
    have hni2 : n * (i + 1) ≤ n * qs.length := Nat.mul_le_mul_left n (by lia)
    have him : (i + 1 + 1) * M ≤ (qs.length + 2) * M := Nat.mul_le_mul_right _ (by lia)
    have him2 : (i + 1 + 1) * M = (i + 1) * M + M := by rw [Nat.add_mul, Nat.one_mul]
    have bt : RB (c0 + (n * i + 1)) (c * x ^ i) := (hB c hcm).times bg
    refine ⟨_, rfl, _, rfl, _, rfl, _, _, _, _, c0, n * i + 1, rfl, hcn.same sm, NumV.of eg, hB c hcm, bg, by lia, fun t ht => ?_⟩
    have s1 : Same H' (upd H' t (nT (c * x ^ i))) := Same.new ht
    refine ⟨_, _, _, _, (i + 1) * M, c0 + (n * i + 1), rfl, NumV.of (s1 _ _ ef), NumV.of upd_same, bf, bt, by lia, fun u hu => ?_⟩
    have s2 := s1.trans (Same.new (o := nT (Cv.ev (qs.take i) x + c * x ^ i)) hu)
    refine ⟨_, rfl, _, rfl, _, _, _, _, n * i + 1, n, rfl, NumV.of (s2 _ _ eg), (hx.same sm).same s2, bg, hbx, by lia, fun v' hv' => ?_⟩
    have s3 := s2.trans (Same.new (o := nT (x ^ i * x)) hv')
    have e1 : Cv.ev (qs.take (i + 1)) x = Cv.ev (qs.take i) x + c * x ^ i := by
      rw [List.take_add_one, hc]
      show Cv.ev (qs.take i ++ [c]) x = _
      rw [Cv.ev_snoc, List.length_take, Nat.min_eq_left (by lia)]
    refine ⟨sm.trans s3, u, v', _, rfl, ?_, ?_, ?_, ?_⟩
    · rw [e1]; exact (Same.new hv') _ _ upd_same
    · rw [Rat.pow_succ]; exact upd_same
    · rw [e1, him2]; exact (bf.plus bt).mono (by lia)
    · rw [Rat.pow_succ, hni1]; exact (bg.times hbx).mono (by lia)
  · rintro σ H' hR2
    refine anE2 hR2 fun sm hz75 => ?_
    refine exE3 hz75 fun f' g' z hz75' => ?_
    clear hz75
    refine anE5 hz75' fun hq74 ef eg bf bg => ?_
    clear hz75'
    obtain rfl := hq74
    try clear hR2
    rw [hl, List.take_length] at ef bf
    exact ⟨_, rfl, q _ _ sm ef (by rw [Nat.mul_comm]; exact bf)⟩
theorem sc__law_slope_at : FnScope ["_law_curve", "_law_x"] ["_law_curve", "_law_x"] (defScope (top 46)) := ⟨rfl, rfl, rfl, by decide +kernel, rfl, by decide +kernel, by decide +kernel⟩
set_option maxHeartbeats 4000000 in
theorem ok__law_slope_at {f : Addr} {fd : FuncData} (F : Fun K "_law_slope_at" "_law_slope_at" (top 46) f fd) (F__law_at : Fd P w K mg base 35 "_law_at" ["_law_curve", "_law_x"] (spAt2 K)) (F__law_times : Fd P w K mg base 34 "_law_times" ["_law_a", "_law_b"] (spBin K (· * ·))) (b_range : mg "range" = none) (b_len : mg "len" = none) (hT : P.given.tree = none) :
    FnOk P w K mg base CX0 36 f fd ["_law_curve", "_law_x"] (spSlopeAt3 K) := by
  refine F.ok sc__law_slope_at (fun vs H Q E h => ?_) (fun cdv A outer s H vs Q E hr h => ?_)
  · obtain ⟨_, _, _, _, _, _, _, rfl, _⟩ := h; rfl
  refine ⟨_, (pss_one (ps_ret (pe_fn F__law_at hr rfl (pa_cons (pe_lc rfl (N := ["_law_k", "_law_curve"]) (nt := 1) (js := [0]) (CompOk.look (NX := ["_law_curve", "_law_x"]) (sc := defScope (top 46)) rfl rfl (by decide +kernel)) (pi_range2 rfl b_range (pa_cons pe_int (pa_cons (pe_callB (lenK K) rfl b_len bt_len (pa_cons (pv 0) pa_nil)) pa_nil))) (fun u1 u2 u3 u4 u5 => (pg_name (i := 0) (show List.Nodup (["_law_k", "_law_curve"] : List Str) from by decide +kernel) rfl (Or.inl rfl))) (stays_name (by decide)) (fun u1 u2 u3 u4 u5 => pts_nil) (fun u1 u2 u3 u4 u5 => (pe_fn F__law_times hr rfl (pa_cons (pe_tup (pa_cons (pv 0) (pa_cons pe_int pa_nil))) (pa_cons (pe_ix (ixSeq K) (pv 1) (pv 0) (fun u v => rfl)) pa_nil))))) (pa_cons (pv 1) pa_nil))))), ?_⟩
  obtain ⟨b, c, rx, cs, x, m, n, rfl, ⟨xs, hS, hn⟩, hx, hB, hbx, hl20, hm1, hz, q⟩ := h
  have hmz : (m + 11) * 2 ≤ 90000000 := Nat.le_trans (Nat.mul_le_mul (by lia) (by lia)) hz
  have hl := hn.length
  refine lc_of ⟨_, rfl, c, xs, rfl, Sq.any hS, 1, (xs.length : Int), rfl, ⟨by decide, by decide, by lia, by lia⟩, ?_⟩
  have en : ((xs.length : Int) - 1).toNat = cs.length - 1 := by lia
  rw [en]
  refine lc_itr (L3 H K cs fun H K cs i zs H' => Same H H' ∧ zs.length = i ∧ Nums K H' zs ((List.range i).map fun j => cs.getD (j + 1) 0 * ((j + 1 : Nat) : Rat))) ⟨Same.refl _, rfl, .nil⟩ (fun i zs H' _ p => p.2.1) (Nat.le_of_lt (small1000 (by lia))) ?_ ?_
  · rintro i zs H' hi ⟨sm, hzl, hnn⟩
    have hi1 : i + 1 < cs.length := by lia
    have hq : cs[i + 1]? = some (cs.getD (i + 1) 0) := getD_some hi1
    obtain ⟨y, hy, hyn⟩ := (Paired.get' hn hq)
    have hat : atI xs (1 + (i : Int)) = some y := by
      rw [show 1 + (i : Int) = ((i + 1 : Nat) : Int) by lia]
      exact atI_nat hy
    refine ⟨_, rfl, (by decide : 2 ≤ sizeLine), fun t ht => ?_⟩
    have ht1 : NumV K (upd H' t (.tup [.int (1 + (i : Int)), .int 1])) (.ref t) (((i + 1 : Nat)) : Rat) := NumV.of (by
      rw [upd_same]
      unfold nT
      rw [Rat.num_natCast, Rat.den_natCast, show 1 + (i : Int) = ((i + 1 : Nat) : Int) by lia]
      rfl)
    refine ⟨_, rfl, _, rfl, ix_of (Sq.same hS (sm.trans (Same.new ht))) hat ⟨_, _, _, _, 11, m, rfl, ht1, (hyn.same sm).same (Same.new ht), rb_nat11 (by lia), hB _ (List.mem_of_getElem? hq), by lia, fun p hp => ⟨(sm.trans (Same.new ht)).trans (Same.new hp), by simp [hzl], ?_⟩⟩⟩
    rw [List.range_succ, List.map_append]
    refine Paired.snoc (Nums.same (Nums.same hnn (Same.new ht)) (Same.new hp)) ?_
    show NumV K _ _ (cs.getD (i + 1) 0 * ((i + 1 : Nat) : Rat))
    rw [Rat.mul_comm]
    exact NumV.of upd_same
  rintro zs H' ⟨sm, hzl, hnn⟩ l hl'
  have s2 : Same H (upd H' l (.lst zs)) := sm.trans (Same.new hl')
  obtain ⟨rx', e, _⟩ := (id hx)
  cases e
  have hsl := slope_length cs
  have hsq : (m + 11 + n * (slopeL cs).length + 4) * ((slopeL cs).length + 2) ≤ (m + 11 + n * cs.length + 4) * (cs.length + 2) := Nat.mul_le_mul (by have := Nat.mul_le_mul_left n (show (slopeL cs).length ≤ cs.length by lia); lia) (by lia)
  have hsq1 : (m + 11 + n * (slopeL cs).length + 4) * ((slopeL cs).length + 1) ≤ (m + 11 + n * cs.length + 4) * (cs.length + 1) := Nat.mul_le_mul (by have := Nat.mul_le_mul_left n (show (slopeL cs).length ≤ cs.length by lia); lia) (by lia)
  refine ⟨_, rfl, true, l, rx, zs, slopeL cs, x, m + 11, n, rfl, SqL.of upd_same, Nums.same hnn (Same.new hl'), hx.same s2, slope_rb (by lia) hm1 hB, hbx, Nat.le_trans hsq hz, fun p Hp sp ep bp => ?_⟩
  exact q p Hp (s2.trans sp) ep (bp.mono hsq1)
theorem sc__law_missed : FnScope ["_law_points_here", "_law_curve", "_law_found", "_law_x", "_law_k", "_law_number_here", "_law_there"] ["_law_points_here", "_law_curve"] (defScope (top 50)) := ⟨rfl, rfl, rfl, by decide +kernel, rfl, by decide +kernel, by decide +kernel⟩
set_option maxHeartbeats 4000000 in
theorem ok__law_missed {f : Addr} {fd : FuncData} (F : Fun K "_law_missed" "_law_missed" (top 50) f fd) (F__law_told : Fd P w K mg base 33 "_law_told" ["_law_points_here"] (spToldS K)) (F__law_at : Fd P w K mg base 35 "_law_at" ["_law_curve", "_law_x"] (spAt2 K)) (F__law_slope_at : Fd P w K mg base 36 "_law_slope_at" ["_law_curve", "_law_x"] (spSlopeAt3 K)) (hT : P.given.tree = none) :
    FnOk P w K mg base CX0 37 f fd ["_law_points_here", "_law_curve"] (spMissed3 K) := by
  refine F.ok sc__law_missed (fun vs H Q E h => ?_) (fun cdv A outer s H vs Q E hr h => ?_)
  · obtain ⟨_, _, _, _, _, _, _, _, _, rfl, _⟩ := h; rfl
  refine ⟨_, (pss_consC (K := K) (ps_set (i := 2) sc__law_missed.nd rfl (Or.inl rfl) (pe_lst pa_nil))
    (pss_consC (K := K) (ps_forC (K := K) PassesOwn.never rfl (piL K (pe_fn F__law_told hr rfl (pa_cons (pv 0) pa_nil))) (pgT K (n := 3) rfl (pgs_cons (pg_name (i := 3) sc__law_missed.nd rfl (Or.inl rfl)) (pgs_cons (pg_name (i := 4) sc__law_missed.nd rfl (Or.inl rfl)) (pgs_cons (pg_name (i := 5) sc__law_missed.nd rfl (Or.inl rfl)) pgs_nil)))) (pss_consC (K := K) (ps_set (i := 6) sc__law_missed.nd rfl (Or.inl rfl) (pe_fn F__law_at hr rfl (pa_cons (pv 1) (pa_cons (pv 3) pa_nil))))
    (pss_consC (K := K) (ps_ifC (K := K) (pt_cmpR op_eq (pv 4) pe_int (nomark _)) (pss_one (ps_set (i := 6) sc__law_missed.nd rfl (Or.inl rfl) (pe_fn F__law_slope_at hr rfl (pa_cons (pv 1) (pa_cons (pv 3) pa_nil))))) pss_nil (by rfl) (by rfl))
    (pss_one (ps_ifC (K := K) (pt_cmpR (neD K hr.units) (pv 6) (pv 5) (nomark _)) (pss_one (ps_expr (pe_bmK K PySem.F.plainAttrs_list PySem.F.slot_list_append PySem.F.type_list_append mt_append (pv 2) (pa_cons (pe_tup (pa_cons (pv 3) (pa_cons (pv 4) pa_nil))) pa_nil)))) pss_nil (by rfl) (by rfl))) (by rfl)) (by rfl)) (by rfl))
    (pss_one (ps_ret (pv 2))) (by rfl)) (by rfl)), ?_⟩
  obtain ⟨d, b, r, c, xs, pss, cs, m, n, rfl, hS, hp, h23, h20, hc, hcl, hbp, hbc, hm1, hn1, hzz, q⟩ := h
  have P0 : 0 ≤ sizeLine := by decide
  have P2 : 2 ≤ sizeLine := by decide
  refine ⟨P0, fun f hf => ?_⟩
  have s1 : Same H (upd H f (.lst [])) := Same.new hf
  have ef0 : (upd H f (.lst [])) f = some (.lst []) := upd_same
  generalize upd H f (.lst []) = H1 at s1 ef0 ⊢
  refine ⟨_, rfl, d, r, xs, pss, rfl, Sq.same hS s1, Pts.same hp s1, h23, by lia, fun w Hw ws sw hw ew htw => ⟨w, rfl, ⟨_, SqL.of ew⟩, ?_⟩⟩
  have hwl := htw.length
  have htl := tell_length_le pss fun ps hp => by have := h23 ps hp; lia
  have wf : w ≠ f := (ne_of_none ef0 hw).symm
  have hnz : (m + n * cs.length + 4) * (cs.length + 2) ≤ 90000000 := Nat.le_trans (Nat.mul_le_mul_right _ (by lia)) hzz
  refine for_list (xs := ws) (L9 H w ws K pss r c f cs fun H w ws K pss r c f cs i σ H' => Same H H' ∧ H' w = some (.lst ws) ∧ Tls K H' ws (tell pss) ∧ ∃ zs z3 z4 z5 z6, σ = [some (.ref r), some (.ref c), some (.ref f), z3, z4, z5, z6] ∧ H' f = some (.lst zs) ∧ zs.length ≤ i ∧ Mss K H' zs (msd cs ((tell pss).take i)))
    ⟨s1.trans sw, ew, htw, [], none, none, none, none, rfl, sw _ _ ef0, Nat.le_refl _, .nil⟩ (fun i σ H' _ h => SqL.of h.2.1) ?_ ?_
  · rintro i v σ H' hv hR1
    obtain ⟨sm, ew', htw', zs, z3, z4, z5, z6, rfl, ef, hzl, hz⟩ := hR1
    try clear hR1
    obtain ⟨t, ht, a, rx, rn, rfl, ha, hxn, hnn⟩ := (Paired.get htw' hv)
    obtain ⟨rxa, rfl, _⟩ := (id hxn)
    have htm := List.mem_of_getElem? ht
    have hk01 := tell_k h23 t htm
    obtain ⟨hbx, hbn⟩ := (tell_rb hn1 hbp t htm)
    have hi : i < ws.length := (List.getElem?_eq_some_iff.mp hv).1
    have e1 : (tell pss).take (i + 1) = (tell pss).take i ++ [t] := by rw [List.take_add_one, ht]; rfl
    obtain ⟨xc, hxc, hxcn⟩ := (hc.same sm)
    refine ⟨a, _, rfl, ha, rfl, _, _, rfl, _, _, rfl, _, _, rfl, rfl, ?_⟩
    refine ⟨_, rfl, _, rfl, b, c, rxa, xc, cs, t.x, m, n, rfl, hxc, hxcn, hxn, hbc, hbx, hnz, fun p1 H2 s2 e2 b2 => ?_⟩
    try dsimp only
    refine seq_joinN (L9 H' r c f rxa t rn K cs fun H' r c f rxa t rn K cs σ' H3 => Same H' H3 ∧ ∃ p2, σ' = [some (.ref r), some (.ref c), some (.ref f), some (.ref rxa), some (.int t.k), some rn, some (.ref p2)] ∧ NumV K H3 (.ref p2) (hk cs t)) (fun nx hnx => ?_) ?_
    · refine ⟨_, rfl, rfl, _, rfl, ?_⟩
      rcases hk01 with z | z
      · refine iteFc (by rw [decide_eq_false (show ¬ V.int t.k = V.int 1 from fun zz => by have := V.int.inj zz; lia)] <;> rfl) (hnx _ _ ⟨s2, p1, rfl, NumV.of ?_⟩)
        have : hk cs t = Cv.ev cs t.x := by unfold hk; rw [if_neg (by lia)]
        rw [this]; exact e2
      · refine iteTc (by rw [decide_eq_true (show V.int t.k = V.int 1 by rw [z])] <;> rfl) ⟨_, rfl, _, rfl, b, c, rxa, cs, t.x, m, n, rfl, (hc.same sm).same s2, hxn.same s2, hbc, hbx, by lia, hm1, hzz, fun p2 H3 s3 e3 b3 => ?_⟩
        refine hnx _ _ ⟨s2.trans s3, p2, rfl, NumV.of ?_⟩
        have : hk cs t = Cv.ev (slopeL cs) t.x := by unfold hk; rw [if_pos z]
        rw [this]; exact e3
    rintro σ' H3 hR2
    refine anE2 hR2 fun s3 hz81 => ?_
    refine exE1 hz81 fun p2 hz81' => ?_
    clear hz81
    refine anE2 hz81' fun hq80 hp2 => ?_
    clear hz81'
    obtain rfl := hq80
    try clear hR2
    refine ⟨_, rfl, _, rfl, ?_⟩
    refine eqN hp2 (hnn.same s3) ?_
    refine ⟨_, rfl, ?_⟩
    by_cases he : hk cs t = t.n
    · refine iteFc (by rw [decide_eq_true he] <;> rfl) ⟨sm.trans s3, s3 _ _ ew', Tls.same htw' s3, zs, _, _, _, _, rfl, s3 _ _ ef, by lia, ?_⟩
      rw [e1, msd_snoc, if_pos he, List.append_nil]
      exact mss_same hz s3
    · rw [decide_eq_false he]
      have ef3 := s3 _ _ ef
      refine iteT ⟨_, rfl, .inl ⟨rfl, _, SqL.of ef3⟩, _, rfl, _, rfl, P2, fun u hu => ?_⟩
      have s4 : Same H3 (upd H3 u (.tup [.ref rxa, .int t.k])) := Same.new hu
      have eu : (upd H3 u (.tup [.ref rxa, .int t.k])) u = some (.tup [.ref rxa, .int t.k]) := upd_same
      generalize upd H3 u (.tup [.ref rxa, .int t.k]) = H4 at s4 eu ⊢
      have s34 := s3.trans s4
      have ef4 := s4 _ _ ef3
      refine ⟨f, zs, .ref u, rfl, rfl, ef4, Nat.lt_of_lt_of_le (show zs.length < 300 by lia) (by decide), ?_⟩
      refine ⟨(sm.trans s34).put hf, by rw [upd_ne wf]; exact s34 _ _ ew', Tls.put (Tls.same htw' s34) ef4, zs ++ [.ref u], _, _, _, _, rfl, upd_same, by rw [List.length_append, List.length_singleton]; lia, ?_⟩
      rw [e1, msd_snoc, if_neg he]
      exact Paired.snoc (mss_put (mss_same hz s34) ef4) (msv_put ⟨u, _, rfl, SqT.of eu, hxn.same s34⟩ ef4)
  · rintro σ H' hR3
    obtain ⟨sm, ew', htw', zs, z3, z4, z5, z6, rfl, ef, hzl, hz⟩ := hR3
    try clear hR3
    rw [hwl, List.take_length] at hz
    exact ⟨_, rfl, q f H' zs sm hf ef hz⟩
theorem sc__law_product : FnScope ["_law_one", "_law_other", "_law_found", "_law_j", "_law_k"] ["_law_one", "_law_other"] (defScope (top 53)) := ⟨rfl, rfl, rfl, by decide +kernel, rfl, by decide +kernel, by decide +kernel⟩
set_option maxHeartbeats 4000000 in
theorem ok__law_product {f : Addr} {fd : FuncData} (F : Fun K "_law_product" "_law_product" (top 53) f fd) (F__law_plus : Fd P w K mg base 34 "_law_plus" ["_law_a", "_law_b"] (spBin K (· + ·))) (F__law_times : Fd P w K mg base 34 "_law_times" ["_law_a", "_law_b"] (spBin K (· * ·))) (b_range : mg "range" = none) (b_len : mg "len" = none) (hT : P.given.tree = none) :
    FnOk P w K mg base CX0 35 f fd ["_law_one", "_law_other"] (spProdL K) := by
  refine F.ok sc__law_product (fun vs H Q E h => ?_) (fun cdv A outer s H vs Q E hr h => ?_)
  · obtain ⟨_, _, _, _, _, _, _, _, rfl, _⟩ := h; rfl
  refine ⟨_, (pss_consC (K := K) (ps_set (i := 2) sc__law_product.nd rfl (Or.inl rfl) (pe_op op_rep (pe_lst (pa_cons (pe_tup (pa_cons pe_int (pa_cons pe_int pa_nil))) pa_nil)) (pe_op op_sub (pe_op op_add (pe_callB (lenK K) rfl b_len bt_len (pa_cons (pv 0) pa_nil)) (pe_callB (lenK K) rfl b_len bt_len (pa_cons (pv 1) pa_nil))) pe_int)))
    (pss_consC (K := K) (ps_forC (K := K) PassesOwn.never rfl (pi_range1 rfl b_range (pa_cons (pe_callB (lenK K) rfl b_len bt_len (pa_cons (pv 0) pa_nil)) pa_nil)) (pg_name (i := 3) sc__law_product.nd rfl (Or.inl rfl)) (pss_one (ps_forC (K := K) PassesOwn.never rfl (pi_range1 rfl b_range (pa_cons (pe_callB (lenK K) rfl b_len bt_len (pa_cons (pv 1) pa_nil)) pa_nil)) (pg_name (i := 4) sc__law_product.nd rfl (Or.inl rfl)) (pss_one (ps_asg (pe_fn F__law_plus hr rfl (pa_cons (pe_ix (ixL K) (pv 2) (pe_op op_add (pv 3) (pv 4)) (fun u v => rfl)) (pa_cons (pe_fn F__law_times hr rfl (pa_cons (pe_ix (ixL K) (pv 0) (pv 3) (fun u v => rfl)) (pa_cons (pe_ix (ixL K) (pv 1) (pv 4) (fun u v => rfl)) pa_nil))) pa_nil))) (pg_sub (pv 2) (pe_op op_add (pv 3) (pv 4)) set_list))) (by rfl))) (by rfl))
    (pss_one (ps_ret (pv 2))) (by rfl)) (by rfl)), ?_⟩
  obtain ⟨r, u, xs, ys, qs, ps, m, n, rfl, hS, hn, hT', hm, hB, hC, hmn, hq1, hp1, hq50, hp50, q⟩ := h
  have P0 : 0 ≤ sizeLine := by decide
  have P1 : 1 ≤ sizeLine := by decide
  have P2 : 2 ≤ sizeLine := by decide
  have hl := hn.length
  have hly := hm.length
  refine ⟨P2, fun t ht => ⟨P1, fun o ho => ?_⟩⟩
  have s0 : Same H (upd (upd H t (.tup [.int 0, .int 1])) o (.lst [.ref t])) := (Same.new ht).trans (Same.new ho)
  have nt0 : NumV K (upd (upd H t (.tup [.int 0, .int 1])) o (.lst [.ref t])) (.ref t) 0 := NumV.of ((Same.new ho) _ _ (upd_same (o := nT 0)))
  have eN : ((xs.length : Int) + (ys.length : Int) - 1).toNat = (qs.length + ps.length - 1) := nat_sum1' hl hly hp1
  refine ⟨_, rfl, r, xs, rfl, .inl (Same.seq s0 hS), _, rfl, u, ys, rfl, .inl (Same.seq s0 hT'), _, _, rfl, rfl, _, _, rfl, rfl, o, _, _, rfl, rfl, upd_same, by lia, by lia, ?_, fun fd hfd => ?_⟩
  · show 1 * ((xs.length : Int) + (ys.length : Int) - 1).toNat ≤ sizeLine
    rw [eN]; exact Nat.le_of_lt (small1000 (by lia))
  rw [eN]
  have s1 := s0.trans (Same.new (o := .lst (List.replicate ((qs.length + ps.length - 1)) [V.ref t]).flatten) hfd)
  have nz := Nums.same (rep_nums nt0 ((qs.length + ps.length - 1))) (Same.new (o := .lst (List.replicate ((qs.length + ps.length - 1)) [V.ref t]).flatten) hfd)
  have hfH : H fd = none := by
    cases z : H fd with
    | none => rfl
    | some u => rw [s0 fd u z] at hfd; cases hfd
  have e1 : (upd (upd (upd H t (.tup [.int 0, .int 1])) o (.lst [.ref t])) fd (.lst (List.replicate ((qs.length + ps.length - 1)) [V.ref t]).flatten)) fd = some (.lst (List.replicate ((qs.length + ps.length - 1)) [V.ref t]).flatten) := upd_same
  generalize upd (upd (upd H t (.tup [.int 0, .int 1])) o (.lst [.ref t])) fd (.lst (List.replicate ((qs.length + ps.length - 1)) [V.ref t]).flatten) = H1 at s1 nz e1 ⊢
  refine ⟨_, rfl, r, xs, rfl, .inl (Same.seq s1 hS), _, rfl, by lia, by lia, ?_⟩
  rw [Int.toNat_natCast, hl]
  refine for_range (n := qs.length) (L9 H r u fd K qs ps m n fun H r u fd K qs ps m n i σ H' => Same H H' ∧ ∃ (zs : List V) (ms : List Rat) (z3 z4 : Option V), σ = [some (.ref r), some (.ref u), some (.ref fd), z3, z4] ∧ H' fd = some (.lst zs) ∧ Nums K H' zs ms ∧ ms.length = (qs.length + ps.length - 1) ∧ (∀ x, Cv.ev ms x = Cv.ev (qs.take i) x * Cv.ev ps x) ∧ ∀ c ∈ ms, RB (i * (m + n + 1) + 1) c)
    ⟨s1, _, _, none, none, rfl, e1, nz, List.length_replicate, fun x => ?_, fun c hc => ?_⟩ ?_ ?_
  · rw [Cv.ev_zeros, List.take_zero]
    show (0 : Rat) = 0 * _
    grind
  · rw [(List.mem_replicate.mp hc).2]; exact RB.zero (by lia)
  · rintro i σ H' hi hR1
    refine anE2 hR1 fun sm hz85 => ?_
    refine exE4 hz85 fun zs ms z3 z4 hz85' => ?_
    clear hz85
    refine anE6 hz85' fun hq84 ef hnm hml hev hbm => ?_
    clear hz85'
    obtain rfl := hq84
    try clear hR1
    have hqi : qs[i]? = some qs[i] := List.getElem?_eq_getElem hi
    have hi1 : (i + 1) * (m + n + 1) = i * (m + n + 1) + m + n + 1 := by rw [Nat.add_mul]; lia
    have hiM : i * (m + n + 1) ≤ 20 * 400001 := Nat.mul_le_mul (by lia) (by lia)
    obtain ⟨xi, hxi, nxi⟩ := (Paired.get' hn hqi)
    refine ⟨_, rfl, u, ys, rfl, .inl (Same.seq sm hT'), _, rfl, by lia, by lia, ?_⟩
    rw [Int.toNat_natCast, hly]
    refine for_range (n := ps.length) (fun j σ H' => Same H H' ∧ ∃ (zs : List V) (ms : List Rat) (z4 : Option V), σ = [some (.ref r), some (.ref u), some (.ref fd), some (.int (0 + (i : Int))), z4] ∧ H' fd = some (.lst zs) ∧ Nums K H' zs ms ∧ ms.length = (qs.length + ps.length - 1) ∧ (∀ x, Cv.ev ms x = Cv.ev (qs.take i) x * Cv.ev ps x + qs[i] * x ^ i * Cv.ev (ps.take j) x) ∧ ∀ k c, ms[k]? = some c → RB (if k < i + j then (i + 1) * (m + n + 1) + 1 else i * (m + n + 1) + 1) c)
      ⟨sm, zs, ms, z4, rfl, ef, hnm, hml, fun x => ?_, fun k c hc => ?_⟩ ?_ ?_
    · rw [hev x, List.take_zero]
      show _ = _ + _ * (0 : Rat)
      grind
    · have := hbm c (List.mem_of_getElem? hc)
      split
      · exact this.mono (by lia)
      · exact this
    · rintro j σ H2 hj hR2
      refine anE2 hR2 fun sm2 hz87 => ?_
      refine exE3 hz87 fun zs2 ms2 z4' hz87' => ?_
      clear hz87
      refine anE6 hz87' fun hq86 ef2 hnm2 hml2 hev2 hbm2 => ?_
      clear hz87'
      obtain rfl := hq86
      try clear hR2
      have hpj : ps[j]? = some ps[j] := List.getElem?_eq_getElem hj
      obtain ⟨yj, hyj, nyj⟩ := (Paired.get' hm hpj)
      have hk : i + j < ms2.length := nat_ij hi hj hml2
      have hmk : ms2[i + j]? = some ms2[i + j] := List.getElem?_eq_getElem hk
      obtain ⟨vk, hvk, nvk⟩ := (Paired.get' hnm2 hmk)
      have hzl := hnm2.length
      have bk := hbm2 _ _ hmk
      rw [if_neg (by lia)] at bk
      refine ⟨_, rfl, _, rfl, _, rfl, _, _, rfl, rfl, fd, _, _, vk, rfl, rfl, SqL.of ef2, atV hvk (by lia), _, rfl, _, rfl, r, xs, _, xi, rfl, rfl, (Same.seq sm2 hS), atV hxi (by lia), _, rfl, _, rfl, u, ys, _, yj, rfl, rfl, (Same.seq sm2 hT'), atV hyj (by lia), ?_⟩
      refine ⟨_, _, qs[i], ps[j], m, n, rfl, nxi.same sm2, nyj.same sm2, hB _ (List.getElem_mem hi), hC _ (List.getElem_mem hj), by lia, fun r1 hr1 => ?_⟩
      have s3 : Same H2 (upd H2 r1 (nT (qs[i] * ps[j]))) := Same.new hr1
      refine ⟨_, _, ms2[i + j], qs[i] * ps[j], _, m + n, rfl, nvk.same s3, NumV.of upd_same, bk, (hB _ (List.getElem_mem hi)).times (hC _ (List.getElem_mem hj)), by lia, fun r2 hr2 => ?_⟩
      have s4 := s3.trans (Same.new (o := nT (ms2[i + j] + qs[i] * ps[j])) hr2)
      have ef4 := s4 _ _ ef2
      refine ⟨_, rfl, _, rfl, _, rfl, _, _, rfl, rfl, fd, _, _, i + j, rfl, rfl, ef4, ixN_plus (by lia) (by lia), ?_⟩
      refine ⟨(sm2.trans s4).put hfH, _, ms2.set (i + j) (ms2[i + j] + qs[i] * ps[j]), _, rfl, upd_same, Paired.set (NumV.put (NumV.of upd_same) ef4) (i + j) (Nums.put (Nums.same hnm2 s4) ef4), by rw [List.length_set]; exact hml2, fun x => ?_, fun k c hc => ?_⟩
      · rw [Cv.ev_set x _ ms2 (i + j) _ hmk, hev2 x, ev_take_succ x ps j _ hpj, Nm.pow_add]
        grind
      · by_cases hk2 : k = i + j
        · subst hk2
          rw [List.getElem?_set_self hk] at hc
          cases hc
          rw [if_pos (by lia)]
          exact (bk.plus ((hB _ (List.getElem_mem hi)).times (hC _ (List.getElem_mem hj)))).mono (by lia)
        · rw [List.getElem?_set_ne (fun z => hk2 z.symm)] at hc
          have b1 := hbm2 k c hc
          split
          · split at b1
            · exact b1
            · exact b1.mono (by lia)
          · rw [if_neg (by lia)] at b1; exact b1
    · rintro σ H2 hR3
      refine anE2 hR3 fun sm2 hz89 => ?_
      refine exE3 hz89 fun zs2 ms2 z4' hz89' => ?_
      clear hz89
      refine anE6 hz89' fun hq88 ef2 hnm2 hml2 hev2 hbm2 => ?_
      clear hz89'
      obtain rfl := hq88
      try clear hR3
      refine ⟨sm2, zs2, ms2, _, _, rfl, ef2, hnm2, hml2, fun x => ?_, fun c hc => ?_⟩
      · rw [hev2 x, List.take_length, ev_take_succ x qs i _ hqi]
        grind
      · obtain ⟨k, hk⟩ := (List.getElem?_of_mem hc)
        have := hbm2 k c hk
        split at this <;> exact this.mono (by lia)
  rintro σ Hz hR4
  refine anE2 hR4 fun smz hz91 => ?_
  refine exE4 hz91 fun zs ms z3 z4 hz91' => ?_
  clear hz91
  refine anE6 hz91' fun hq90 efz hnz hml hev hbm => ?_
  clear hz91'
  obtain rfl := hq90
  try clear hR4
  rw [List.take_length] at hev
  exact ⟨_, rfl, q fd Hz zs ms smz hfH efz hnz hml hev hbm⟩
theorem sc__law_minus : FnScope ["_law_a", "_law_b"] ["_law_a", "_law_b"] (defScope (top 42)) := ⟨rfl, rfl, rfl, by decide +kernel, rfl, by decide +kernel, by decide +kernel⟩
set_option maxHeartbeats 4000000 in
theorem ok__law_minus {f : Addr} {fd : FuncData} (F : Fun K "_law_minus" "_law_minus" (top 42) f fd) (F__law_lowest : Fd P w K mg base 33 "_law_lowest" ["_law_top", "_law_bottom"] (spLow)) (hT : P.given.tree = none) :
    FnOk P w K mg base CX0 34 f fd ["_law_a", "_law_b"] (spBin K (· - ·)) := by
  refine F.ok sc__law_minus (fun vs H Q E h => ?_) (fun cdv A outer s H vs Q E hr h => ?_)
  · obtain ⟨_, _, _, _, _, _, rfl, _⟩ := h; rfl
  refine ⟨_, (pss_one (ps_ret (pe_fn F__law_lowest hr rfl (pa_cons (pe_op op_sub (pe_op op_mulC (pe_ix (ixT K) (pv 0) pe_int (fun u v => rfl)) (pe_ix (ixT K) (pv 1) pe_int (fun u v => rfl))) (pe_op op_mulC (pe_ix (ixT K) (pv 1) pe_int (fun u v => rfl)) (pe_ix (ixT K) (pv 0) pe_int (fun u v => rfl)))) (pa_cons (pe_op op_mulC (pe_ix (ixT K) (pv 0) pe_int (fun u v => rfl)) (pe_ix (ixT K) (pv 1) pe_int (fun u v => rfl))) pa_nil))))), ?_⟩
  obtain ⟨x, y, p, q, m, n, rfl, ⟨r, rfl, hr⟩, ⟨u, rfl, hu⟩, hp, hq, hmn, k⟩ := h
  refine ⟨_, rfl, r, _, _, _, rfl, rfl, hr, rfl, _, rfl, u, _, _, _, rfl, rfl, hu, rfl, _, _, rfl, rfl, MulC.bd hp.1 hq.2, _, rfl, u, _, _, _, rfl, rfl, hu, rfl, _, rfl, r, _, _, _, rfl, rfl, hr, rfl, _, _, rfl, rfl, MulC.bd hq.1 hp.2, _, _, rfl, rfl, ?_⟩
  refine ⟨_, rfl, r, _, _, _, rfl, rfl, hr, rfl, _, rfl, u, _, _, _, rfl, rfl, hu, rfl, _, _, rfl, rfl, MulC.bd hp.2 hq.2, ?_⟩
  refine ⟨_, _, rfl, Int.mul_ne_zero (Nm.den_ne p) (Nm.den_ne q), fun z hz => ?_⟩
  have e := k z hz
  try dsimp only at e
  rw [← Nm.minus_eq] at e
  exact e
theorem sc__law_behind : FnScope ["_law_curve", "_law_knots", "_law_some", "_law_product_here", "_law_x", "_law_found", "_law_k", "_law_j"] ["_law_curve", "_law_knots", "_law_some"] (defScope (top 54)) := ⟨rfl, rfl, rfl, by decide +kernel, rfl, by decide +kernel, by decide +kernel⟩
set_option maxHeartbeats 4000000 in
theorem ok__law_behind {f : Addr} {fd : FuncData} (F : Fun K "_law_behind" "_law_behind" (top 54) f fd) (F__law_product : Fd P w K mg base 35 "_law_product" ["_law_one", "_law_other"] (spProdL K)) (F__law_plus : Fd P w K mg base 34 "_law_plus" ["_law_a", "_law_b"] (spBin K (· + ·))) (F__law_minus : Fd P w K mg base 34 "_law_minus" ["_law_a", "_law_b"] (spBin K (· - ·))) (F__law_times : Fd P w K mg base 34 "_law_times" ["_law_a", "_law_b"] (spBin K (· * ·))) (b_list : mg "list" = none) (b_range : mg "range" = none) (b_len : mg "len" = none) (hT : P.given.tree = none) :
    FnOk P w K mg base CX0 36 f fd ["_law_curve", "_law_knots", "_law_some"] (spBehind K) := by
  refine F.ok sc__law_behind (fun vs H Q E h => ?_) (fun cdv A outer s H vs Q E hr h => ?_)
  · obtain ⟨_, _, _, _, _, _, _, _, _, _, rfl, _⟩ := h; rfl
  refine ⟨_, (pss_consC (K := K) (ps_set (i := 3) sc__law_behind.nd rfl (Or.inl rfl) (pe_lst (pa_cons (pe_tup (pa_cons pe_int (pa_cons pe_int pa_nil))) pa_nil)))
    (pss_consC (K := K) (ps_forC (K := K) PassesOwn.never rfl (piL K (pe_slice (slL K) (pv 1) po_none (po_some (pe_op op_sub (pe_callB (lenK K) rfl b_len bt_len (pa_cons (pv 1) pa_nil)) (pe_callB (lenK K) rfl b_len bt_len (pa_cons (pv 2) pa_nil)))))) (pg_name (i := 4) sc__law_behind.nd rfl (Or.inl rfl)) (pss_one (ps_set (i := 3) sc__law_behind.nd rfl (Or.inl rfl) (pe_fn F__law_product hr rfl (pa_cons (pv 3) (pa_cons (pe_lst (pa_cons (pe_fn F__law_minus hr rfl (pa_cons (pe_tup (pa_cons pe_int (pa_cons pe_int pa_nil))) (pa_cons (pv 4) pa_nil))) (pa_cons (pe_tup (pa_cons pe_int (pa_cons pe_int pa_nil))) pa_nil))) pa_nil))))) (by rfl))
    (pss_consC (K := K) (ps_set (i := 5) sc__law_behind.nd rfl (Or.inl rfl) (pe_callTy (listK K) rfl b_list bt_list (pa_cons (pv 0) pa_nil)))
    (pss_consC (K := K) (ps_forC (K := K) PassesOwn.never rfl (pi_range1 rfl b_range (pa_cons (pe_callB (lenK K) rfl b_len bt_len (pa_cons (pv 2) pa_nil)) pa_nil)) (pg_name (i := 6) sc__law_behind.nd rfl (Or.inl rfl)) (pss_consC (K := K) (ps_set (i := 5) sc__law_behind.nd rfl (Or.inl rfl) (pe_op op_cat (pv 5) (pe_op op_rep (pe_lst (pa_cons (pe_tup (pa_cons pe_int (pa_cons pe_int pa_nil))) pa_nil)) (pe_op op_sub (pe_callB (lenK K) rfl b_len bt_len (pa_cons (pv 3) pa_nil)) (pe_callB (lenK K) rfl b_len bt_len (pa_cons (pv 5) pa_nil))))))
    (pss_consC (K := K) (ps_forC (K := K) PassesOwn.never rfl (pi_range1 rfl b_range (pa_cons (pe_callB (lenK K) rfl b_len bt_len (pa_cons (pv 3) pa_nil)) pa_nil)) (pg_name (i := 7) sc__law_behind.nd rfl (Or.inl rfl)) (pss_one (ps_asg (pe_fn F__law_plus hr rfl (pa_cons (pe_ix (ixL K) (pv 5) (pv 7) (fun u v => rfl)) (pa_cons (pe_fn F__law_times hr rfl (pa_cons (pe_ix (ixL K) (pv 3) (pv 7) (fun u v => rfl)) (pa_cons (pe_ix (ixL K) (pv 2) (pv 6) (fun u v => rfl)) pa_nil))) pa_nil))) (pg_sub (pv 5) (pv 7) set_list))) (by rfl))
    (pss_one (ps_set (i := 3) sc__law_behind.nd rfl (Or.inl rfl) (pe_fn F__law_product hr rfl (pa_cons (pv 3) (pa_cons (pe_lst (pa_cons (pe_fn F__law_minus hr rfl (pa_cons (pe_tup (pa_cons pe_int (pa_cons pe_int pa_nil))) (pa_cons (pe_ix (ixL K) (pv 1) (pe_op op_add (pe_op op_sub (pe_callB (lenK K) rfl b_len bt_len (pa_cons (pv 1) pa_nil)) (pe_callB (lenK K) rfl b_len bt_len (pa_cons (pv 2) pa_nil))) (pv 6)) (fun u v => rfl)) pa_nil))) (pa_cons (pe_tup (pa_cons pe_int (pa_cons pe_int pa_nil))) pa_nil))) pa_nil))))) (by rfl)) (by rfl)) (by rfl))
    (pss_one (ps_ret (pv 5))) (by rfl)) (by rfl)) (by rfl)) (by rfl)), ?_⟩
  obtain ⟨c, kl, sl, kv, sv, cs, ks, ss, m1, m2, rfl, ⟨xc, hxc, hcn⟩, hK, hKn, hW, hWn, hs2, hsk, hk8, hc8, hbk, hbs, hbc, hm2, hm1, hm3, q⟩ := h
  have P1 : 1 ≤ sizeLine := by decide
  have P2 : 2 ≤ sizeLine := by decide
  have hkl := hKn.length
  have hsl := hWn.length
  have hcl := hcn.length
  obtain ⟨A, hA⟩ : ∃ A, A = ks.length - ss.length := ⟨_, rfl⟩
  rw [← hA] at q
  refine ⟨P2, fun t ht => ⟨P1, fun o ho => ?_⟩⟩
  have s0 : Same H (upd (upd H t (.tup [.int 1, .int 1])) o (.lst [.ref t])) := (Same.new ht).trans (Same.new ho)
  have n0 : Nums K (upd (upd H t (.tup [.int 1, .int 1])) o (.lst [.ref t])) [.ref t] [1] := .cons (NumV.of ((Same.new ho) _ _ (upd_same (o := nT 1)))) .nil
  have e0 : (upd (upd H t (.tup [.int 1, .int 1])) o (.lst [.ref t])) o = some (.lst [.ref t]) := upd_same
  generalize upd (upd H t (.tup [.int 1, .int 1])) o (.lst [.ref t]) = H1 at s0 n0 e0 ⊢
  have eA : (kv.length : Int) - (sv.length : Int) = ((A : Nat) : Int) := nat_sub_int hkl hsl hsk hA
  refine ⟨_, rfl, _, rfl, kl, kv, rfl, .inl (Same.seq s0 hK), _, rfl, sl, sv, rfl, .inl (Same.seq s0 hW), _, _, rfl, rfl, ((A : Nat) : Int), by show V.int ((kv.length : Int) - (sv.length : Int)) = _; rw [eA], kl, kv, rfl, Same.seq s0 hK, fun w hw => ?_⟩
  rw [cut_to]
  have s1 := s0.trans (Same.new (o := .lst (kv.take A)) hw)
  have e1 := (Same.new (o := .lst (kv.take A)) hw) _ _ e0
  have n1 := Nums.same n0 (Same.new (o := .lst (kv.take A)) hw)
  have ew : (upd H1 w (.lst (kv.take A))) w = some (.lst (kv.take A)) := upd_same
  generalize upd H1 w (.lst (kv.take A)) = H2 at s1 e1 n1 ew ⊢
  clear e0 n0 s0 hw ht ho eA
  have hkt : (kv.take A).length = A := by rw [List.length_take]; lia
  refine ⟨w, rfl, ⟨_, SqL.of ew⟩, for_list (xs := kv.take A) (L9 H w kv A c kl sl K ks fun H w kv A c kl sl K ks i σ H' => Same H H' ∧ H' w = some (.lst (kv.take A)) ∧ ∃ (pa : Addr) (zs : List V) (ms : List Rat) (z4 : Option V), σ = [some (.ref c), some (.ref kl), some (.ref sl), some (.ref pa), z4, none, none, none] ∧ H' pa = some (.lst zs) ∧ Nums K H' zs ms ∧ ms.length = i + 1 ∧ (∀ X, Cv.ev ms X = L2.prV X (ks.take i)) ∧ ∀ q ∈ ms, RB (Mf i) q)
    ⟨s1, ew, o, _, _, none, rfl, e1, n1, rfl, fun X => ?_, fun c hc => ?_⟩ (fun i σ H' _ h => SqL.of h.2.1) ?_ ?_⟩
  · show 1 + X * 0 = 1
    grind
  · rw [List.mem_singleton.mp hc]; exact RB.one (by decide)
  · rintro i v σ H' hv hR1
    refine anE3 hR1 fun sm ew' hz93 => ?_
    refine exE4 hz93 fun pa zs ms z4 hz93' => ?_
    clear hz93
    refine anE6 hz93' fun hq92 epa hz hml hev hb => ?_
    clear hz93'
    obtain rfl := hq92
    try clear hR1
    have hi : i < (kv.take A).length := (List.getElem?_eq_some_iff.mp hv).1
    rw [hkt] at hi
    rw [List.getElem?_take, if_pos hi] at hv
    obtain ⟨kq, hkq, hkn⟩ := (Paired.get hKn hv)
    have hMi := Mf_le i (by lia)
    refine ⟨_, rfl, P2, fun t1 ht1 => ?_⟩
    have st1 : Same H' (upd H' t1 (.tup [.int 0, .int 1])) := Same.new ht1
    refine ⟨_, rfl, _, _, 0, kq, 1, 16, rfl, NumV.of (upd_same (o := nT 0)), (hkn.same sm).same st1, RB.zero (by decide), hbk kq (List.mem_of_getElem? hkq), by decide, fun r1 hr1 => ⟨P2, fun t2 ht2 => ⟨P2, fun l2 hl2 => ?_⟩⟩⟩
    have s23 := (Same.new (o := .tup [.int 1, .int 1]) ht2).trans (Same.new (o := .lst [.ref r1, .ref t2]) hl2)
    have s3 := (st1.trans (Same.new (o := nT (0 - kq)) hr1)).trans s23
    refine ⟨pa, l2, zs, [.ref r1, .ref t2], ms, [0 - kq, 1], Mf i, 18, rfl, SqL.of (s3 _ _ epa), Nums.same hz s3, SqL.of upd_same, .cons (NumV.of (s23 _ _ upd_same)) (.cons (NumV.of ((Same.new hl2) _ _ (upd_same (o := nT 1)))) .nil), hb, ?_, by lia, by lia, (show 1 ≤ 2 by decide), by lia, (show 2 ≤ 20 by decide), fun p H4 zs4 ms4 s4 hp4 ep4 hz4 hml4 hev4 hb4 => ?_⟩
    · intro c hc
      rcases List.mem_cons.mp hc with z | hc
      · rw [z]; exact RB.minus (m := 1) (n := 16) (RB.zero (by decide)) (hbk kq (List.mem_of_getElem? hkq))
      · rw [List.mem_singleton.mp hc]; exact RB.one (by decide)
    have s34 := s3.trans s4
    refine ⟨sm.trans s34, s34 _ _ ew', p, zs4, ms4, _, rfl, ep4, hz4, by rw [hml4, hml]; rfl, fun X => ?_, fun c hc => ?_⟩
    · rw [hev4, hev, prV_take hkq]
    · have := hb4 c hc
      rw [hml] at this
      exact this
  rintro σ H3 hR2
  refine anE3 hR2 fun s3 _ hz95 => ?_
  refine exE4 hz95 fun pa zs ms z4 hz95' => ?_
  clear hz95
  refine anE6 hz95' fun hq94 epa hz hml hev hb => ?_
  clear hz95'
  obtain rfl := hq94
  try clear hR2
  rw [hkt] at hml hev hb
  clear ew e1 n1 s1
  have hMA := Mf_le A
  refine ⟨_, rfl, c, xc, rfl, .inr (hxc.same s3), fun f hf => ?_⟩
  have s4 : Same H3 (upd H3 f (.lst xc)) := Same.new hf
  refine ⟨_, rfl, sl, sv, rfl, .inl (Same.seq (s3.trans s4) hW), _, rfl, by lia, by lia, ?_⟩
  rw [Int.toNat_natCast, hsl]
  refine for_range (n := ss.length) (L11 H c kl sl z4 K A ks cs ss m2 fun H c kl sl z4 K A ks cs ss m2 k σ H' => Same H H' ∧ ∃ (pa fa : Addr) (zs ws : List V) (ms fs : List Rat) (z6 z7 : Option V), σ = [some (.ref c), some (.ref kl), some (.ref sl), some (.ref pa), z4, some (.ref fa), z6, z7] ∧ H' pa = some (.lst zs) ∧ Nums K H' zs ms ∧ ms.length = A + k + 1 ∧ (∀ X, Cv.ev ms X = L2.prV X (ks.take (A + k))) ∧ (A + k ≤ 7 → ∀ q ∈ ms, RB (Mf (A + k)) q) ∧ H' fa = some (.lst ws) ∧ Nums K H' ws fs ∧ fs.length ≤ 9 ∧ (∀ X, Cv.ev fs X = Cv.ev cs X + L2.prV X (ks.take A) * newton ((ks.drop A).take k) (ss.take k) X) ∧ ∀ q ∈ fs, RB (m2 + k * 500000) q)
    ⟨s3.trans s4, pa, f, zs, xc, ms, cs, none, none, rfl, s4 _ _ epa, Nums.same hz s4, hml, hev, fun _ => hb, upd_same, Nums.same hcn (s3.trans s4), by lia, fun X => ?_, fun c hc => by rw [Nat.zero_mul, Nat.add_zero]; exact hbc c hc⟩ ?_ ?_
  · rw [List.take_zero, List.take_zero]
    show _ = _ + _ * (0 : Rat)
    grind
  · clear hev hb hml hz epa s4 hf hMA s3
    rintro k σ H' hk hR3
    refine anE2 hR3 fun sm hz97 => ?_
    refine exE8 hz97 fun pa fa zs ws ms fs z6 z7 hz97' => ?_
    clear hz97
    refine anE11 hz97' fun hq96 epa hz hml hev hb efa hfn hf9 hfe hfb => ?_
    clear hz97'
    obtain rfl := hq96
    try clear hR3
    have hAk : A + k ≤ 7 := by lia
    have hMk := Mf_le _ hAk
    have hb := hb hAk
    have hzl := hz.length
    have hwl := hfn.length
    have hsk' : ss[k]? = some ss[k] := List.getElem?_eq_getElem hk
    obtain ⟨sv', hsv, hsvn⟩ := (Paired.get' hWn hsk')
    have hkk : ks[A + k]? = some (ks[A + k]'(by lia)) := List.getElem?_eq_getElem _
    generalize ks[A + k]'(by lia) = kq at hkk
    generalize ss[k] = sq at hsk' hsvn
    have hbsq := hbs sq (List.mem_of_getElem? hsk')
    have hbkq := hbk kq (List.mem_of_getElem? hkk)
    refine ⟨_, rfl, P2, fun t1 ht1 => ⟨P1, fun l1 hl1 => ?_⟩⟩
    have sa := (Same.new (o := .tup [.int 0, .int 1]) ht1).trans (Same.new (o := .lst [.ref t1]) hl1)
    have nt1 : NumV K (upd (upd H' t1 (.tup [.int 0, .int 1])) l1 (.lst [.ref t1])) (.ref t1) 0 := NumV.of ((Same.new hl1) _ _ (upd_same (o := nT 0)))
    have el1 : (upd (upd H' t1 (.tup [.int 0, .int 1])) l1 (.lst [.ref t1])) l1 = some (.lst [.ref t1]) := upd_same
    generalize upd (upd H' t1 (.tup [.int 0, .int 1])) l1 (.lst [.ref t1]) = Ha at sa nt1 el1 ⊢
    obtain ⟨D, hD⟩ : ∃ D, D = ms.length - fs.length := ⟨_, rfl⟩
    have eD : ((zs.length : Int) - (ws.length : Int)).toNat = D := by rw [hD]; exact nat_diff hzl hwl
    have hD9 : D ≤ 9 := nat_d9 hk8 hsk hA hk hml hD
    refine ⟨_, rfl, pa, zs, rfl, .inl (SqL.of (sa _ _ epa)), _, rfl, fa, ws, rfl, .inl (SqL.of (sa _ _ efa)), _, _, rfl, rfl, l1, _, _, rfl, rfl, el1, by lia, by lia, ?_, fun l2 hl2 => ?_⟩
    · show 1 * ((zs.length : Int) - (ws.length : Int)).toNat ≤ sizeLine
      rw [eD]; exact Nat.le_of_lt (small1000 (by rw [Nat.one_mul]; exact Nat.le_trans hD9 (by decide)))
    rw [eD]
    have sb := sa.trans (Same.new (o := .lst (List.replicate D [V.ref t1]).flatten) hl2)
    have nz := Nums.same (rep_nums nt1 D) (Same.new (o := .lst (List.replicate D [V.ref t1]).flatten) hl2)
    have el2 : (upd Ha l2 (.lst (List.replicate D [V.ref t1]).flatten)) l2 = some (.lst (List.replicate D [V.ref t1]).flatten) := upd_same
    generalize upd Ha l2 (.lst (List.replicate D [V.ref t1]).flatten) = Hb at sb nz el2 ⊢
    have nzl := nz.length
    rw [List.length_replicate] at nzl
    refine ⟨fa, l2, ws, _, rfl, rfl, sb _ _ efa, el2, Nat.le_trans (show _ ≤ 300 by rw [nzl]; exact Nat.le_trans (Nat.add_le_add (by rw [hwl]; exact hf9) hD9) (by decide)) (by decide), fun f2 hf2 => ?_⟩
    have sc : Same Hb (upd Hb f2 (.lst (ws ++ (List.replicate D [V.ref t1]).flatten))) := Same.new hf2
    have n2 : Nums K (upd Hb f2 (.lst (ws ++ (List.replicate D [V.ref t1]).flatten))) (ws ++ (List.replicate D [V.ref t1]).flatten) (fs ++ List.replicate D 0) := Nums.same (Paired.append (Nums.same hfn sb) nz) sc
    have e2 : (upd Hb f2 (.lst (ws ++ (List.replicate D [V.ref t1]).flatten))) f2 = some (.lst (ws ++ (List.replicate D [V.ref t1]).flatten)) := upd_same
    generalize upd Hb f2 (.lst (ws ++ (List.replicate D [V.ref t1]).flatten)) = Hc at sc n2 e2 ⊢
    generalize hws : ws ++ (List.replicate D [V.ref t1]).flatten = ws' at n2 e2 ⊢
    obtain ⟨fs', hfs'⟩ : ∃ fs', fs' = fs ++ List.replicate D 0 := ⟨_, rfl⟩
    have hfl' : fs'.length = fs.length + D := by rw [hfs', List.length_append, List.length_replicate]
    have hfe' : ∀ X, Cv.ev fs' X = Cv.ev fs X := fun X => by rw [hfs', ev_zapp]
    have hfb' : ∀ q ∈ fs', RB (m2 + k * 500000) q := fun c hc => by
      rw [hfs'] at hc
      rcases List.mem_append.mp hc with z | z
      · exact hfb c z
      · rw [(List.mem_replicate.mp z).2]; exact RB.zero (by lia)
    rw [← hfs'] at n2
    have hlen : ms.length ≤ fs'.length ∧ fs'.length ≤ 9 := nat_len hk8 hsk hA hk hml hf9 hD hfl'
    clear hfs' hws nz el2 nt1 el1 hl2 hl1 ht1
    refine ⟨_, rfl, pa, zs, rfl, .inl (SqL.of (sc _ _ (sb _ _ epa))), _, rfl, by lia, by lia, ?_⟩
    rw [Int.toNat_natCast, hzl]
    have hk500 : (k + 1) * 500000 = k * 500000 + 500000 := by rw [Nat.add_mul, Nat.one_mul]
    have hk5 : k * 500000 ≤ 1000000 := Nat.mul_le_mul_right 500000 (show k ≤ 2 by lia)
    have hf2H : H f2 = none := (sm.trans sb).free hf2
    refine for_range (n := ms.length) (L13 Hb c kl sl pa z4 f2 k K fs' sq ms m2 fun Hb c kl sl pa z4 f2 k K fs' sq ms m2 j σ H2 => Same Hb H2 ∧ ∃ (us : List V) (gs : List Rat) (z7 : Option V), σ = [some (.ref c), some (.ref kl), some (.ref sl), some (.ref pa), z4, some (.ref f2), some (.int (0 + (k : Int))), z7] ∧ H2 f2 = some (.lst us) ∧ Nums K H2 us gs ∧ gs.length = fs'.length ∧ (∀ X, Cv.ev gs X = Cv.ev fs' X + sq * Cv.ev (ms.take j) X) ∧ ∀ i c, gs[i]? = some c → RB (if i < j then m2 + (k + 1) * 500000 else m2 + k * 500000) c)
      ⟨sc, ws', fs', z7, rfl, e2, n2, rfl, fun X => ?_, fun i c hc => ?_⟩ ?_ ?_
    · rw [List.take_zero]
      show _ = _ + _ * (0 : Rat)
      grind
    · rw [if_neg (by lia)]; exact hfb' c (List.mem_of_getElem? hc)
    · rintro j σ H2 hj hR4
      refine anE2 hR4 fun sm2 hz99 => ?_
      refine exE3 hz99 fun us gs z7' hz99' => ?_
      clear hz99
      refine anE6 hz99' fun hq98 ef hgn hgl hge hgb => ?_
      clear hz99'
      obtain rfl := hq98
      try clear hR4
      have hul := hgn.length
      have hmj : ms[j]? = some ms[j] := List.getElem?_eq_getElem hj
      have hjg : j < gs.length := by rw [hgl]; exact Nat.lt_of_lt_of_le hj hlen.1
      have hgj : gs[j]? = some (gs[j]'hjg) := List.getElem?_eq_getElem _
      obtain ⟨vm, hvm, nvm⟩ := (Paired.get' hz hmj)
      obtain ⟨vg, hvg, nvg⟩ := (Paired.get' hgn hgj)
      have sz := sb.trans sm2
      have bg := hgb _ _ hgj
      rw [if_neg (by lia)] at bg
      have bm := hb _ (List.getElem_mem hj)
      refine ⟨_, rfl, _, rfl, f2, us, _, vg, rfl, rfl, SqL.of ef, atV hvg (by lia), _, rfl, _, rfl, pa, zs, _, vm, rfl, rfl, SqL.of (sz _ _ epa), atV hvm (by lia), _, rfl, _, rfl, sl, sv, _, sv', rfl, rfl, Same.seq (sm.trans sz) hW, atV hsv (by lia), ?_⟩
      refine ⟨_, _, ms[j], sq, _, m1, rfl, nvm.same sz, hsvn.same (sm.trans sz), bm, hbsq, by lia, fun r1 hr1 => ?_⟩
      have s3 : Same H2 (upd H2 r1 (nT (ms[j] * sq))) := Same.new hr1
      refine ⟨_, _, _, ms[j] * sq, _, Mf (A + k) + m1, rfl, nvg.same s3, NumV.of upd_same, bg, bm.times hbsq, by lia, fun r2 hr2 => ?_⟩
      have s4 := s3.trans (Same.new (o := nT (gs[j]'hjg + ms[j] * sq)) hr2)
      have ef4 := s4 _ _ ef
      refine ⟨_, rfl, _, rfl, f2, _, _, j, rfl, rfl, ef4, ixN_plus (by lia) (by lia), ?_⟩
      refine ⟨(sm2.trans s4).put hf2, _, gs.set j (gs[j]'hjg + ms[j] * sq), _, rfl, upd_same, Paired.set (NumV.put (NumV.of upd_same) ef4) j (Nums.put (Nums.same hgn s4) ef4), by rw [List.length_set]; exact hgl, fun X => ?_, fun i c hc => ?_⟩
      · rw [Cv.ev_set X _ gs j _ hgj, hge X, ev_take_succ X ms j _ hmj]
        grind
      · by_cases hij : i = j
        · subst hij
          rw [List.getElem?_set_self (by lia)] at hc
          cases hc
          rw [if_pos (by lia)]
          exact (bg.plus (bm.times hbsq)).mono (by lia)
        · rw [List.getElem?_set_ne (fun z => hij z.symm)] at hc
          have b1 := hgb i c hc
          split
          · split at b1
            · exact b1
            · exact b1.mono (by lia)
          · rw [if_neg (by lia)] at b1; exact b1
    rintro σ H2 hR5
    refine anE2 hR5 fun sm2 hz101 => ?_
    refine exE3 hz101 fun us gs z7' hz101' => ?_
    clear hz101
    refine anE6 hz101' fun hq100 ef hgn hgl hge hgb => ?_
    clear hz101'
    obtain rfl := hq100
    try clear hR5
    rw [List.take_length] at hge
    have sz := sb.trans sm2
    have sZ := sm.trans sz
    refine ⟨_, rfl, P2, fun t1 ht1 => ?_⟩
    have st1 : Same H2 (upd H2 t1 (.tup [.int 0, .int 1])) := Same.new ht1
    obtain ⟨kx, hkx, hkxn⟩ := (Paired.get' hKn hkk)
    refine ⟨_, rfl, _, rfl, kl, kv, rfl, .inl (Same.seq (sZ.trans st1) hK), _, rfl, sl, sv, rfl, .inl (Same.seq (sZ.trans st1) hW), _, _, rfl, rfl, _, rfl, _, _, rfl, rfl, kl, kv, _, kx, rfl, rfl, Same.seq (sZ.trans st1) hK, atV hkx (by lia), ?_⟩
    refine ⟨_, _, 0, kq, 1, 16, rfl, NumV.of (upd_same (o := nT 0)), hkxn.same (sZ.trans st1), RB.zero (by decide), hbkq, by decide, fun r1 hr1 => ⟨P2, fun t2 ht2 => ⟨P2, fun l2 hl2 => ?_⟩⟩⟩
    have s23 := (Same.new (o := .tup [.int 1, .int 1]) ht2).trans (Same.new (o := .lst [.ref r1, .ref t2]) hl2)
    have s3 := (st1.trans (Same.new (o := nT (0 - kq)) hr1)).trans s23
    refine ⟨pa, l2, zs, [.ref r1, .ref t2], ms, [0 - kq, 1], Mf (A + k), 18, rfl, SqL.of (s3 _ _ (sz _ _ epa)), Nums.same hz (sz.trans s3), SqL.of upd_same, .cons (NumV.of (s23 _ _ upd_same)) (.cons (NumV.of ((Same.new hl2) _ _ (upd_same (o := nT 1)))) .nil), hb, ?_, by lia, by lia, (show 1 ≤ 2 by decide), by lia, (show 2 ≤ 20 by decide), fun p H4 zs4 ms4 s4 hp4 ep4 hz4 hml4 hev4 hb4 => ?_⟩
    · intro c hc
      rcases List.mem_cons.mp hc with z | hc
      · rw [z]; exact RB.minus (m := 1) (n := 16) (RB.zero (by decide)) hbkq
      · rw [List.mem_singleton.mp hc]; exact RB.one (by decide)
    have s34 := s3.trans s4
    have hkd : (ks.drop A)[k]? = some kq := by rw [List.getElem?_drop]; exact hkk
    have eks : ks.take (A + k) = ks.take A ++ (ks.drop A).take k := List.take_add
    refine ⟨sZ.trans s34, p, f2, zs4, us, ms4, gs, _, _, rfl, ep4, hz4, by rw [hml4, hml]; show _ + 2 - 1 = _; lia, fun X => ?_, fun _ c hc => ?_, s34 _ _ ef, Nums.same hgn s34, by lia, fun X => ?_, fun c hc => ?_⟩
    · rw [hev4, hev, ← Nat.add_assoc, prV_take hkk]
    · have := hb4 c hc
      rw [hml] at this
      exact this
    · rw [hge, hfe', hfe, hev, newton_take hkd hsk', eks, L2.prV_app]
      grind
    · obtain ⟨i, hi⟩ := (List.getElem?_of_mem hc)
      have := hgb i c hi
      split at this
      · exact this
      · exact this.mono (by lia)
  rintro σ H' hR6
  refine anE2 hR6 fun sm hz103 => ?_
  refine exE8 hz103 fun pa fa zs ws ms fs z6 z7 hz103' => ?_
  clear hz103
  refine anE11 hz103' fun hq102 _ _ _ _ _ efa hfn hf9 hfe hfb => ?_
  clear hz103'
  obtain rfl := hq102
  try clear hR6
  refine ⟨_, rfl, q fa H' ws fs sm efa hfn hf9 (fun X => ?_) fun c hc => (hfb c hc).mono ?_⟩
  · have e : (ks.drop A).take ss.length = ks.drop A := List.take_of_length_le (by rw [List.length_drop]; exact nat_rest hsk hA)
    rw [hfe, List.take_length, e]
  · have := Nat.mul_le_mul_right 500000 hs2
    lia
theorem sc_bottom_of : FnScope ["numbers", "bottom", "number"] ["numbers"] (defScope (top 15)) := ⟨rfl, rfl, rfl, by decide +kernel, rfl, by decide +kernel, by decide +kernel⟩
set_option maxHeartbeats 4000000 in
theorem ok_bottom_of {f : Addr} {fd : FuncData} (F : Fun K "bottom_of" "bottom_of" (top 15) f fd) (F_common_measure : Fd P w K mg base 33 "common_measure" ["one", "other"] (spGcd)) (hT : P.given.tree = none) :
    FnOk P w K mg base CX0 34 f fd ["numbers"] (spBot K) := by
  refine F.ok sc_bottom_of (fun vs H Q E h => ?_) (fun cdv A outer s H vs Q E hr h => ?_)
  · obtain ⟨_, _, _, _, _, rfl, _⟩ := h; rfl
  refine ⟨_, (pss_consC (K := K) (ps_set (i := 1) sc_bottom_of.nd rfl (Or.inl rfl) pe_int)
    (pss_consC (K := K) (ps_forC (K := K) PassesOwn.never rfl (piS K (pv 0)) (pg_name (i := 2) sc_bottom_of.nd rfl (Or.inl rfl)) (pss_one (ps_set (i := 1) sc_bottom_of.nd rfl (Or.inl rfl) (pe_op op_mulC (pv 1) (pe_op (op_fdivX hr hT) (pe_ix (ixT K) (pv 2) pe_int (fun u v => rfl)) (pe_fn F_common_measure hr rfl (pa_cons (pv 1) (pa_cons (pe_ix (ixT K) (pv 2) pe_int (fun u v => rfl)) pa_nil))))))) (by rfl))
    (pss_one (ps_ret (pv 1))) (by rfl)) (by rfl)), ?_⟩
  obtain ⟨b, r, xs, qs, n, rfl, hS, hn, hB, hz, q⟩ := h
  have hl := hn.length
  refine for_seq (b := b) (a := r) (xs := xs) rfl (L4 H r qs n fun H r qs n i σ H' => H' = H ∧ ∃ (B : Int) (z : Option V), σ = [some (.ref r), some (.int B), z] ∧ 0 < B ∧ (∀ q ∈ qs.take i, (q.den : Int) ∣ B) ∧ Bd (n * i + 1) B) ⟨rfl, 1, none, rfl, by decide, fun q hq => by simp at hq, by unfold Bd; rw [Nat.mul_zero]; decide⟩ (fun i σ H' _ p => by rw [p.1]; exact hS) ?_ ?_
  · rintro i x σ H' hx hR1
    refine anE2 hR1 fun hq104 hz106 => ?_
    refine exE2 hz106 fun B z hz106' => ?_
    clear hz106
    refine anE4 hz106' fun hq105 hB0 hdv hbd => ?_
    clear hz106'
    obtain rfl := hq104
    obtain rfl := hq105
    try clear hR1
    obtain ⟨c, hc, r', rfl, hr⟩ := (Paired.get hn hx)
    have hi : i < qs.length := (List.getElem?_eq_some_iff.mp hc).1
    have hcm : c ∈ qs := List.mem_of_getElem? hc
    have hd0 : 0 < (c.den : Int) := by have := c.den_pos; lia
    obtain ⟨l1, l2, l3⟩ := (lcm_step hB0 hd0)
    have g0 : (Int.gcd B c.den : Int) ≠ 0 := by have := Nm.gcd_pos (a := B) (b := c.den) (by lia); lia
    have bd2 : Bd n (Int.fdiv c.den (Int.gcd B c.den : Int)) := (hB c hcm).fdiv
    have hni : n * i ≤ n * qs.length := Nat.mul_le_mul_left n (by lia)
    have hnm : n * (qs.length + 2) = n * qs.length + 2 * n := by rw [Nat.mul_add]; lia
    refine ⟨_, rfl, _, rfl, r', _, _, _, rfl, rfl, hr, rfl, _, rfl, _, rfl, r', _, _, _, rfl, rfl, hr, rfl, _, _, rfl, _, _, rfl, rfl, g0, _, _, rfl, rfl, MulC.bd hbd bd2 (by lia), ?_⟩
    refine ⟨rfl, _, _, rfl, l1, fun q' hq' => ?_, ?_⟩
    · rw [List.take_add_one, hc] at hq'
      rcases List.mem_append.mp hq' with z | z
      · exact Int.dvd_trans (hdv q' z) l2
      · have : q' = c := by simpa using z
        subst this; exact l3
    · have := hbd.mul bd2
      rw [Nat.mul_add, Nat.mul_one, show n * i + n + 1 = n * i + 1 + n by lia]
      exact this
  · rintro σ H' hR2
    refine anE2 hR2 fun hq109 hz111 => ?_
    refine exE2 hz111 fun B z hz111' => ?_
    clear hz111
    refine anE4 hz111' fun hq110 hB0 hdv hbd => ?_
    clear hz111'
    obtain rfl := hq109
    obtain rfl := hq110
    try clear hR2
    rw [hl, List.take_length] at hdv
    rw [hl] at hbd
    exact ⟨_, rfl, q B hB0 hdv hbd⟩
theorem sc_tops_over : FnScope ["numbers", "bottom"] ["numbers", "bottom"] (defScope (top 16)) := ⟨rfl, rfl, rfl, by decide +kernel, rfl, by decide +kernel, by decide +kernel⟩
set_option maxHeartbeats 4000000 in
theorem ok_tops_over {f : Addr} {fd : FuncData} (F : Fun K "tops_over" "tops_over" (top 16) f fd) (hT : P.given.tree = none) :
    FnOk P w K mg base CX0 33 f fd ["numbers", "bottom"] (spTops K) := by
  refine F.ok sc_tops_over (fun vs H Q E h => ?_) (fun cdv A outer s H vs Q E hr h => ?_)
  · obtain ⟨_, _, _, _, _, _, _, rfl, _⟩ := h; rfl
  refine ⟨_, (pss_one (ps_ret (pe_lc rfl (N := ["number", "bottom"]) (nt := 1) (js := [1]) (CompOk.look (NX := ["numbers", "bottom"]) (sc := defScope (top 16)) rfl rfl (by decide +kernel)) (piS K (pv 0)) (fun u1 u2 u3 u4 u5 => (pg_name (i := 0) (show List.Nodup (["number", "bottom"] : List Str) from by decide +kernel) rfl (Or.inl rfl))) (stays_name (by decide)) (fun u1 u2 u3 u4 u5 => pts_nil) (fun u1 u2 u3 u4 u5 => (pe_op op_mulC (pe_ix (ixT K) (pv 0) pe_int (fun u v => rfl)) (pe_op (op_fdivX hr hT) (pv 1) (pe_ix (ixT K) (pv 0) pe_int (fun u v => rfl)))))))), ?_⟩
  obtain ⟨b, r, xs, qs, B, m, n, rfl, hS, hn, hbB, hbn, hmn, hz, q⟩ := h
  have hl := hn.length
  refine lc_seq (b := b) (a := r) (xs := xs) rfl (fun i zs H' => H' = H ∧ zs = ((qs.take i).map (topOf B)).map V.int) ⟨rfl, rfl⟩ (fun i zs H' hi p => ⟨by rw [p.1]; exact hS, by rw [p.2, List.length_map, List.length_map, List.length_take]; lia⟩) (by rw [hl]; exact Nat.le_of_lt (small1000 hz)) ?_ ?_
  · rintro i x zs H' hx ⟨rfl, rfl⟩
    obtain ⟨c, hc, r', rfl, hr⟩ := (Paired.get hn hx)
    have hcm : c ∈ qs := List.mem_of_getElem? hc
    have hd0 : (c.den : Int) ≠ 0 := by have := c.den_pos; lia
    refine ⟨_, rfl, r', _, _, _, rfl, rfl, hr, rfl, _, rfl, _, rfl, r', _, _, _, rfl, rfl, hr, rfl, _, _, rfl, rfl, hd0, _, _, rfl, rfl, MulC.bd (hbn c hcm) (hbB.fdiv (y := c.den)) (by lia), rfl, ?_⟩
    rw [List.take_add_one, hc, List.map_append, List.map_append]
    rfl
  · rintro zs H' ⟨rfl, rfl⟩ p hp
    rw [hl, List.take_length]
    exact q p hp
theorem sc_curve_of : FnScope ["numbers", "width"] ["numbers"] (defScope (top 14)) := ⟨rfl, rfl, rfl, by decide +kernel, rfl, by decide +kernel, by decide +kernel⟩
set_option maxHeartbeats 4000000 in
theorem ok_curve_of {f : Addr} {fd : FuncData} (F : Fun K "curve_of" "curve_of" (top 14) f fd) (b_len : mg "len" = none) (b_tuple : mg "tuple" = none) {a_NOUGHT : Addr} (c_NOUGHT : mg "NOUGHT" = some (.ref a_NOUGHT)) (n_NOUGHT : ∀ H : Hp, NumV K H (.ref a_NOUGHT) (0)) (hT : P.given.tree = none) :
    FnOk P w K mg base CX0 33 f fd ["numbers"] (spCurveOf K) := by
  refine F.ok sc_curve_of (fun vs H Q E h => ?_) (fun cdv A outer s H vs Q E hr h => ?_)
  · obtain ⟨_, _, _, rfl, _⟩ := h; rfl
  refine ⟨_, (pss_consC (K := K) (ps_set (i := 1) sc_curve_of.nd rfl (Or.inl rfl) (pe_callB (lenK K) rfl b_len bt_len (pa_cons (pv 0) pa_nil)))
    (pss_consC (K := K) (ps_while PassesOwn.never (PW.pt (pw_and (pt_cmpR op_gt (pv 1) pe_int (nomark _)) (pw_and1 (pt_cmpR (eqD K hr.units) (pe_ix (ixL K) (pv 0) (pe_op op_sub (pv 1) pe_int) (fun u v => rfl)) (pe_glob (v := .ref a_NOUGHT) rfl c_NOUGHT rfl) (nomark _))))) (pss_one (ps_set (i := 1) sc_curve_of.nd rfl (Or.inl rfl) (pe_op op_sub (pv 1) pe_int))))
    (pss_one (ps_ret (pe_callTy (tupleK K) rfl b_tuple bt_tuple (pa_cons (pe_slice (slL K) (pv 0) po_none (po_some (pv 1))) pa_nil)))) (by rfl)) (by rfl)), ?_⟩
  obtain ⟨r, xs, qs, rfl, hS, hn, hz, q⟩ := h
  have hl := hn.length
  refine ⟨_, rfl, r, xs, rfl, .inl hS, ?_⟩
  refine wh_by (L3 H r qs fun H r qs σ H' => H' = H ∧ ∃ (v : Nat), σ = [some (.ref r), some (.int (v : Int))] ∧ v ≤ qs.length ∧ ∀ j q, v ≤ j → qs[j]? = some q → q = 0) (fun σ _ => mu 1 σ) ⟨rfl, qs.length, by rw [← hl]; rfl, Nat.le_refl _, fun j q hj e => absurd (List.getElem?_eq_some_iff.mp e).1 (by lia)⟩ ?_
  rintro σ H' hR1
  refine anE2 hR1 fun hq114 hz116 => ?_
  refine exE1 hz116 fun v hz116' => ?_
  clear hz116
  refine anE3 hz116' fun hq115 hv hall => ?_
  clear hz116'
  obtain rfl := hq114
  obtain rfl := hq115
  try clear hR1
  have fin : (v = 0 ∨ ∃ q, qs[v - 1]? = some q ∧ q ≠ 0) → ∀ p, H' p = none → ∀ p', upd H' p (.lst (cutV xs none (some (v : Int)))) p' = none → Q (.ref p') (upd (upd H' p (.lst (cutV xs none (some (v : Int))))) p' (.tup (cutV xs none (some (v : Int))))) := fun hc p hp p' hp' => by
    have e : cutV xs none (some (v : Int)) = xs.take v := by
      unfold cutV
      have e1 : HT.sIx xs.length 0 none = 0 := rfl
      have e2 : HT.sIx xs.length xs.length (some (v : Int)) = min v xs.length := HT.sIx_nat _ _ v
      rw [e1, e2, List.drop_zero, Nat.sub_zero]
      apply List.ext_getElem?
      intro i
      rw [List.getElem?_take, List.getElem?_take]
      split <;> split <;> first | rfl | lia | (rename_i h1 h2; exact (List.getElem?_eq_none (by lia)).symm) | (rename_i h1 h2; exact List.getElem?_eq_none (by lia))
    have sm : Same H' (upd (upd H' p (.lst (cutV xs none (some (v : Int))))) p' (.tup (cutV xs none (some (v : Int))))) := (Same.new hp).trans (Same.new hp')
    refine q p' _ sm ⟨xs.take v, SqT.of (by rw [e]; exact upd_same), ?_⟩
    rw [← Cv.take_strip qs v hall hc]
    exact Paired.take v (Nums.same hn sm)
  refine ⟨_, rfl, _, _, rfl, rfl, _, rfl, ?_⟩
  by_cases hv0 : v = 0
  · subst hv0
    refine iteF (iteF ?_)
    exact ⟨_, rfl, _, rfl, _, rfl, r, xs, rfl, hS, fun p hp => ⟨p, _, rfl, .inl ⟨SqL.of upd_same, fun p' hp' => fin (.inl rfl) p hp p' hp'⟩⟩⟩
  · refine iteTc (by rw [decide_eq_true (show (0 : Int) < (v : Int) by lia)] <;> rfl) ?_
    have hvi : v - 1 < qs.length := by lia
    have hq : qs[v - 1]? = some qs[v - 1] := List.getElem?_eq_getElem hvi
    obtain ⟨x, hx, hxn⟩ := (Paired.get' hn hq)
    have hat : atI xs ((v : Int) - 1) = some x := by
      rw [show (v : Int) - 1 = ((v - 1 : Nat) : Int) by lia]
      exact atI_nat hx
    refine ⟨_, rfl, _, rfl, _, _, rfl, rfl, r, xs, _, x, rfl, rfl, hS, hat, ?_⟩
    refine eqN hxn (n_NOUGHT _) ?_
    refine ⟨_, rfl, ?_⟩
    by_cases hq0 : qs[v - 1] = 0
    · refine iteTc (by rw [decide_eq_true hq0] <;> rfl) (wh_go ?_)
      refine ⟨_, rfl, _, _, rfl, rfl, ⟨rfl, v - 1, ?_, by lia, fun j q' hj e => ?_⟩, ?_⟩
      · show [some (V.ref r), some (V.int ((v : Int) - 1))] = [some (V.ref r), some (V.int ((v - 1 : Nat) : Int))]
        rw [show (v : Int) - 1 = ((v - 1 : Nat) : Int) by lia]
      · by_cases hjv : v ≤ j
        · exact hall j q' hjv e
        · have : j = v - 1 := by lia
          subst this
          rw [hq] at e
          cases e
          exact hq0
      · show ((v : Int) - 1).toNat < (v : Int).toNat
        lia
    · refine iteFc (by rw [decide_eq_false hq0] <;> rfl) ?_
      exact ⟨_, rfl, _, rfl, _, rfl, r, xs, rfl, hS, fun p hp => ⟨p, _, rfl, .inl ⟨SqL.of upd_same, fun p' hp' => fin (.inr ⟨_, hq, hq0⟩) p hp p' hp'⟩⟩⟩
theorem sc_curve_over : FnScope ["tops", "bottom"] ["tops", "bottom"] (defScope (top 17)) := ⟨rfl, rfl, rfl, by decide +kernel, rfl, by decide +kernel, by decide +kernel⟩
set_option maxHeartbeats 4000000 in
theorem ok_curve_over {f : Addr} {fd : FuncData} (F : Fun K "curve_over" "curve_over" (top 17) f fd) (F_curve_of : Fd P w K mg base 33 "curve_of" ["numbers"] (spCurveOf K)) (F_number_of : Fd P w K mg base 34 "number_of" ["top", "bottom"] (spLow)) (hT : P.given.tree = none) :
    FnOk P w K mg base CX0 35 f fd ["tops", "bottom"] (spCurveOver K) := by
  refine F.ok sc_curve_over (fun vs H Q E h => ?_) (fun cdv A outer s H vs Q E hr h => ?_)
  · obtain ⟨_, _, _, rfl, _⟩ := h; rfl
  refine ⟨_, (pss_one (ps_ret (pe_fn F_curve_of hr rfl (pa_cons (pe_lc rfl (N := ["top", "bottom"]) (nt := 1) (js := [1]) (CompOk.look (NX := ["tops", "bottom"]) (sc := defScope (top 17)) rfl rfl (by decide +kernel)) (piS K (pv 0)) (fun u1 u2 u3 u4 u5 => (pg_name (i := 0) (show List.Nodup (["top", "bottom"] : List Str) from by decide +kernel) rfl (Or.inl rfl))) (stays_name (by decide)) (fun u1 u2 u3 u4 u5 => pts_nil) (fun u1 u2 u3 u4 u5 => (pe_fn F_number_of hr rfl (pa_cons (pv 0) (pa_cons (pv 1) pa_nil))))) pa_nil)))), ?_⟩
  obtain ⟨l, ts, b, rfl, hS, hb, hz, q⟩ := h
  have ll : (ts.map V.int).length = ts.length := List.length_map _
  refine lc_seq (b := true) (a := l) (xs := ts.map V.int) rfl (L4 H K ts b fun H K ts b i zs H' => Same H H' ∧ zs.length = i ∧ Nums K H' zs ((ts.take i).map fun t => Rat.divInt t b)) ⟨Same.refl _, rfl, .nil⟩ (fun i zs H' _ p => ⟨Same.seq p.1 hS, p.2.1⟩) (by rw [ll]; exact Nat.le_of_lt (small1000 hz)) ?_ ?_
  · rintro i x zs H' hx ⟨sm, hl, hn⟩
    rw [List.getElem?_map] at hx
    cases et : ts[i]? with
    | none => rw [et] at hx; cases hx
    | some t =>
      rw [et] at hx
      cases hx
      refine ⟨_, rfl, _, rfl, t, b, rfl, hb, fun p hp => ⟨sm.trans (Same.new hp), by simp [hl], ?_⟩⟩
      rw [List.take_add_one, et, List.map_append]
      exact Paired.snoc (Nums.same hn (Same.new hp)) (NumV.of upd_same)
  · rintro zs H' ⟨sm, hl, hn⟩ p hp
    rw [ll, List.take_length] at hn
    refine ⟨p, zs, _, rfl, SqL.of upd_same, Nums.same hn (Same.new hp), by rw [List.length_map]; exact hz, fun r H2 s2 c => q r H2 ((sm.trans (Same.new hp)).trans s2) c⟩
theorem sc_whole_product : FnScope ["first", "second", "product", "k", "j"] ["first", "second"] (defScope (top 18)) := ⟨rfl, rfl, rfl, by decide +kernel, rfl, by decide +kernel, by decide +kernel⟩
set_option maxHeartbeats 4000000 in
theorem ok_whole_product {f : Addr} {fd : FuncData} (F : Fun K "whole_product" "whole_product" (top 18) f fd) (b_range : mg "range" = none) (b_len : mg "len" = none) (hT : P.given.tree = none) :
    FnOk P w K mg base CX0 33 f fd ["first", "second"] (spProd K) := by
  refine F.ok sc_whole_product (fun vs H Q E h => ?_) (fun cdv A outer s H vs Q E hr h => ?_)
  · obtain ⟨_, _, _, _, _, _, rfl, _⟩ := h; rfl
  refine ⟨_, (pss_consC (K := K) (ps_set (i := 2) sc_whole_product.nd rfl (Or.inl rfl) (pe_op op_rep (pe_lst (pa_cons pe_int pa_nil)) (pe_op op_sub (pe_op op_add (pe_callB (lenK K) rfl b_len bt_len (pa_cons (pv 0) pa_nil)) (pe_callB (lenK K) rfl b_len bt_len (pa_cons (pv 1) pa_nil))) pe_int)))
    (pss_consC (K := K) (ps_forC (K := K) PassesOwn.never rfl (pi_range1 rfl b_range (pa_cons (pe_callB (lenK K) rfl b_len bt_len (pa_cons (pv 0) pa_nil)) pa_nil)) (pg_name (i := 3) sc_whole_product.nd rfl (Or.inl rfl)) (pss_one (ps_forC (K := K) PassesOwn.never rfl (pi_range1 rfl b_range (pa_cons (pe_callB (lenK K) rfl b_len bt_len (pa_cons (pv 1) pa_nil)) pa_nil)) (pg_name (i := 4) sc_whole_product.nd rfl (Or.inl rfl)) (pss_one (ps_asg (pe_op op_add (pe_ix (ixL K) (pv 2) (pe_op op_add (pv 3) (pv 4)) (fun u v => rfl)) (pe_op op_mulC (pe_ix (ixL K) (pv 0) (pv 3) (fun u v => rfl)) (pe_ix (ixL K) (pv 1) (pv 4) (fun u v => rfl)))) (pg_sub (pv 2) (pe_op op_add (pv 3) (pv 4)) set_list))) (by rfl))) (by rfl))
    (pss_one (ps_ret (pv 2))) (by rfl)) (by rfl)), ?_⟩
  obtain ⟨f, g, fs, gs, m, n, rfl, hf, hg, hg1, hf1000, hg1000, hbf, hbg, hmn, q⟩ := h
  have lf : (fs.map V.int).length = fs.length := List.length_map _
  have lg : (gs.map V.int).length = gs.length := List.length_map _
  have P1 : 1 ≤ sizeLine := by decide
  have hfg : fs.length * gs.length ≤ 1000 * 1000 := Nat.mul_le_mul hf1000 hg1000
  refine ⟨P1, fun o ho => ?_⟩
  have hf0 : SqL K (upd H o (.lst [.int 0])) f (fs.map V.int) := sq_new hf ho
  have hg0 : SqL K (upd H o (.lst [.int 0])) g (gs.map V.int) := sq_new hg ho
  refine ⟨_, rfl, f, _, rfl, .inl hf0, _, rfl, g, _, rfl, .inl hg0, _, _, rfl, rfl, _, _, rfl, rfl, o, _, _, rfl, rfl, upd_same, ?_, ?_, ?_, fun p hp => ?_⟩
  · rw [lf, lg]; lia
  · rw [lf, lg]; lia
  · show 1 * (((fs.map V.int).length : Int) + ((gs.map V.int).length : Int) - 1).toNat ≤ sizeLine
    rw [lf, lg, Nat.one_mul]
    exact Nat.le_trans (nat_sumle hf1000 hg1000) (by decide : 2 * 1000 ≤ sizeLine)
  have hpH : H p = none := by
    cases z : H p with
    | none => rfl
    | some u => rw [(Same.new ho) p u z] at hp; cases hp
  have eL : (((fs.map V.int).length : Int) + ((gs.map V.int).length : Int) - 1).toNat = fs.length + gs.length - 1 := by rw [lf, lg]; exact nat_sum1 hg1
  rw [eL]
  have s0 : Same H (upd (upd H o (.lst [.int 0])) p (.lst (List.replicate (fs.length + gs.length - 1) [V.int 0]).flatten)) := (Same.new ho).trans (Same.new hp)
  have e0 : (List.replicate (fs.length + gs.length - 1) [V.int 0]).flatten = (List.replicate (fs.length + gs.length - 1) (0 : Int)).map V.int := by rw [List.flatten_replicate_singleton, List.map_replicate]
  rw [e0] at s0 ⊢
  refine ⟨_, rfl, f, _, rfl, .inl (Same.seq s0 hf), _, rfl, by rw [lf]; lia, by rw [lf]; lia, ?_⟩
  rw [lf, Int.toNat_natCast]
  refine for_range (n := fs.length) (L8 H f g p fs gs m n fun H f g p fs gs m n i σ H' => Same H H' ∧ ∃ (ps : List Int) (z3 z4 : Option V), σ = [some (.ref f), some (.ref g), some (.ref p), z3, z4] ∧ H' p = some (.lst (ps.map V.int)) ∧ ps.length = fs.length + gs.length - 1 ∧ (∀ x, Cv.evI ps x = Cv.evI (fs.take i) x * Cv.evI gs x) ∧ ∀ t ∈ ps, Up (i * gs.length) (m + n) t)
    ⟨s0, _, none, none, rfl, upd_same, List.length_replicate, fun x => ?_, fun t ht => ?_⟩ ?_ ?_
  · rw [Cv.evI_zeros, List.take_zero]
    show (0 : Rat) = 0 * _
    grind
  · rw [(List.mem_replicate.mp ht).2]; exact Nat.zero_le _
  · rintro i σ H' hi hR1
    refine anE2 hR1 fun sm hz118 => ?_
    refine exE3 hz118 fun ps z3 z4 hz118' => ?_
    clear hz118
    refine anE5 hz118' fun hq117 ep hpl hev hup => ?_
    clear hz118'
    obtain rfl := hq117
    try clear hR1
    have hfi : fs[i]? = some fs[i] := List.getElem?_eq_getElem hi
    refine ⟨_, rfl, g, _, rfl, .inl (Same.seq sm hg), _, rfl, by rw [lg]; lia, by rw [lg]; lia, ?_⟩
    rw [lg, Int.toNat_natCast]
    refine for_range (n := gs.length) (fun j σ H' => Same H H' ∧ ∃ (ps : List Int) (z4 : Option V), σ = [some (.ref f), some (.ref g), some (.ref p), some (.int (0 + (i : Int))), z4] ∧ H' p = some (.lst (ps.map V.int)) ∧ ps.length = fs.length + gs.length - 1 ∧ (∀ x, Cv.evI ps x = Cv.evI (fs.take i) x * Cv.evI gs x + (fs[i] : Rat) * x ^ i * Cv.evI (gs.take j) x) ∧ ∀ t ∈ ps, Up (i * gs.length + j) (m + n) t)
      ⟨sm, ps, z4, rfl, ep, hpl, fun x => ?_, hup⟩ ?_ ?_
    · rw [hev x, List.take_zero]
      show _ = _ + _ * (0 : Rat)
      grind
    · rintro j σ H2 hj hR2
      refine anE2 hR2 fun sm2 hz120 => ?_
      refine exE2 hz120 fun ps2 z4' hz120' => ?_
      clear hz120
      refine anE5 hz120' fun hq119 ep2 hpl2 hev2 hup2 => ?_
      clear hz120'
      obtain rfl := hq119
      try clear hR2
      have hgj : gs[j]? = some gs[j] := List.getElem?_eq_getElem hj
      have hij : i + j < ps2.length := nat_ij hi hj hpl2
      have hpj : ps2[i + j]? = some ps2[i + j] := List.getElem?_eq_getElem hij
      have bm : MulC fs[i] gs[j] := MulC.bd (hbf _ (List.getElem_mem hi)) (hbg _ (List.getElem_mem hj)) (by lia)
      refine ⟨_, rfl, _, rfl, _, rfl, _, _, rfl, rfl, p, _, _, _, rfl, rfl, SqL.of ep2, at_plus hpj (by lia), _, rfl, _, rfl, f, _, _, _, rfl, rfl, Same.seq sm2 hf, at_plus hfi (by lia), _, rfl, _, rfl, g, _, _, _, rfl, rfl, Same.seq sm2 hg, at_plus hgj (by lia), _, _, rfl, rfl, bm, _, _, rfl, rfl, ?_⟩
      refine ⟨_, rfl, _, rfl, _, rfl, _, _, rfl, rfl, p, _, _, i + j, rfl, rfl, ep2, ixN_plus (by rw [List.length_map]; exact hij) (by lia), ?_⟩
      refine ⟨sm2.put hpH, ps2.set (i + j) (ps2[i + j] + fs[i] * gs[j]), _, rfl, ?_, by rw [List.length_set]; exact hpl2, fun x => ?_, fun t ht => ?_⟩
      · rw [upd_same, List.map_set]
      · rw [Cv.evI_set x ps2 (i + j) _ _ hpj, hev2 x, Cv.evI_take_succ x gs j _ hgj, Rat.intCast_mul, Nm.pow_add]
        grind
      · rcases List.mem_or_eq_of_mem_set ht with z | z
        · exact (hup2 t z).mono (by lia)
        · subst z
          exact (hup2 _ (List.getElem_mem hij)).add ((hbf _ (List.getElem_mem hi)).mul (hbg _ (List.getElem_mem hj)))
    · rintro σ H2 hR3
      refine anE2 hR3 fun sm2 hz122 => ?_
      refine exE2 hz122 fun ps2 z4' hz122' => ?_
      clear hz122
      refine anE5 hz122' fun hq121 ep2 hpl2 hev2 hup2 => ?_
      clear hz122'
      obtain rfl := hq121
      try clear hR3
      refine ⟨sm2, ps2, _, _, rfl, ep2, hpl2, fun x => ?_, fun t ht => ?_⟩
      · rw [hev2 x, List.take_length, Cv.evI_take_succ x fs i _ hfi]
        grind
      · have := hup2 t ht
        rw [Nat.add_mul, Nat.one_mul]
        exact this
  · rintro σ H' hR4
    refine anE2 hR4 fun sm hz124 => ?_
    refine exE3 hz124 fun ps z3 z4 hz124' => ?_
    clear hz124
    refine anE5 hz124' fun hq123 ep hpl hev hup => ?_
    clear hz124'
    obtain rfl := hq123
    try clear hR4
    refine ⟨_, rfl, q p H' ps sm hpH ep hpl (fun x => ?_) (fun t ht => ?_)⟩
    · rw [hev x, List.take_length]
    · exact (hup t ht).bd (k := 20) (by lia)
theorem sc_by_steps : FnScope ["knots", "steps", "bottom", "step_tops", "tops", "scale", "k"] ["knots", "steps"] (defScope (top 32)) := ⟨rfl, rfl, rfl, by decide +kernel, rfl, by decide +kernel, by decide +kernel⟩
set_option maxHeartbeats 4000000 in
theorem ok_by_steps {f : Addr} {fd : FuncData} (F : Fun K "by_steps" "by_steps" (top 32) f fd) (F_bottom_of : Fd P w K mg base 34 "bottom_of" ["numbers"] (spBot K)) (F_tops_over : Fd P w K mg base 33 "tops_over" ["numbers", "bottom"] (spTops K)) (F_curve_over : Fd P w K mg base 35 "curve_over" ["tops", "bottom"] (spCurveOver K)) (F_whole_product : Fd P w K mg base 33 "whole_product" ["first", "second"] (spProd K)) (b_range : mg "range" = none) (b_len : mg "len" = none) (hT : P.given.tree = none) :
    FnOk P w K mg base CX0 36 f fd ["knots", "steps"] (spBySteps K) := by
  refine F.ok sc_by_steps (fun vs H Q E h => ?_) (fun cdv A outer s H vs Q E hr h => ?_)
  · obtain ⟨_, _, _, _, _, _, _, rfl, _⟩ := h; rfl
  refine ⟨_, (pss_consC (K := K) (ps_set (i := 2) sc_by_steps.nd rfl (Or.inl rfl) (pe_fn F_bottom_of hr rfl (pa_cons (pv 1) pa_nil)))
    (pss_consC (K := K) (ps_set (i := 3) sc_by_steps.nd rfl (Or.inl rfl) (pe_fn F_tops_over hr rfl (pa_cons (pv 1) (pa_cons (pv 2) pa_nil))))
    (pss_consC (K := K) (ps_set (i := 4) sc_by_steps.nd rfl (Or.inl rfl) (pe_lst pa_nil))
    (pss_consC (K := K) (ps_set (i := 5) sc_by_steps.nd rfl (Or.inl rfl) pe_int)
    (pss_consC (K := K) (ps_forC (K := K) PassesOwn.never rfl (pi_down rfl b_range (pa_cons (pe_op op_sub (pe_callB (lenK K) rfl b_len bt_len (pa_cons (pv 0) pa_nil)) pe_int) (pa_cons (pe_un un_neg pe_int) (pa_cons (pe_un un_neg pe_int) pa_nil)))) (pg_name (i := 6) sc_by_steps.nd rfl (Or.inl rfl)) (pss_consC (K := K) (ps_set (i := 4) sc_by_steps.nd rfl (Or.inl rfl) (pe_fn F_whole_product hr rfl (pa_cons (pv 4) (pa_cons (pe_lst (pa_cons (pe_un un_neg (pe_ix (ixT K) (pe_ix (ixL K) (pv 0) (pv 6) (fun u v => rfl)) pe_int (fun u v => rfl))) (pa_cons (pe_ix (ixT K) (pe_ix (ixL K) (pv 0) (pv 6) (fun u v => rfl)) pe_int (fun u v => rfl)) pa_nil))) pa_nil))))
    (pss_consC (K := K) (ps_set (i := 5) sc_by_steps.nd rfl (Or.inl rfl) (pe_op op_mulC (pv 5) (pe_ix (ixT K) (pe_ix (ixL K) (pv 0) (pv 6) (fun u v => rfl)) pe_int (fun u v => rfl))))
    (pss_one (ps_asg (pe_op op_add (pe_ix (ixL K) (pv 4) pe_int (fun u v => rfl)) (pe_op op_mulC (pe_ix (ixL K) (pv 3) (pv 6) (fun u v => rfl)) (pv 5))) (pg_sub (pv 4) pe_int set_list))) (by rfl)) (by rfl)) (by rfl))
    (pss_one (ps_ret (pe_fn F_curve_over hr rfl (pa_cons (pv 4) (pa_cons (pe_op op_mulC (pv 2) (pv 5)) pa_nil))))) (by rfl)) (by rfl)) (by rfl)) (by rfl)) (by rfl)), ?_⟩
  obtain ⟨rk, rst, xs, ys, ks, ss, n, rfl, hk, hnk, hs, hns, hlen, h30, hbk, hbs, hn4, q⟩ := h
  have hlk := hnk.length
  have hls := hns.length
  have P0 : 0 ≤ sizeLine := by decide
  have P2 : 2 ≤ sizeLine := by decide
  have hnq : n * ks.length ≤ 2048000 * 12 := Nat.mul_le_mul hn4 h30
  have hnq' : n * ss.length = n * ks.length := by rw [hlen]
  refine ⟨_, rfl, true, rst, ys, ss, n, rfl, hs, hns, (fun c hc => (hbs c hc).2), by rw [Nat.mul_add]; lia, fun B hB0 hdv hbB => ?_⟩
  refine ⟨_, rfl, _, rfl, true, rst, ys, ss, B, n * ss.length + 1, n, rfl, hs, hns, hbB, (fun c hc => (hbs c hc).1), by lia, by lia, fun st h1 => ?_⟩
  refine ⟨P0, fun tp h2 => ?_⟩
  have s2 : Same H (upd (upd H st (.lst ((ss.map (topOf B)).map V.int))) tp (.lst [])) := (Same.new h1).trans (Same.new h2)
  have est : (upd (upd H st (.lst ((ss.map (topOf B)).map V.int))) tp (.lst [])) st = some (.lst ((ss.map (topOf B)).map V.int)) := (Same.new h2) _ _ upd_same
  have etp : (upd (upd H st (.lst ((ss.map (topOf B)).map V.int))) tp (.lst [])) tp = some (.lst (([] : List Int).map V.int)) := upd_same
  generalize upd (upd H st (.lst ((ss.map (topOf B)).map V.int))) tp (.lst []) = H2 at s2 est etp ⊢
  refine ⟨_, rfl, rk, xs, rfl, .inl (Same.seq s2 hk), _, _, rfl, rfl, _, rfl, _, rfl, _, _, rfl, ⟨by lia, by lia, by decide, by decide⟩, ?_⟩
  have eT : ((xs.length : Int) - 1 - -1).toNat = ks.length := nat_all hlk
  rw [eT]
  refine for_down (n := ks.length) (L8 H2 rk rst B st ks ss n fun H2 rk rst B st ks ss n i σ H' => Same H2 H' ∧ ∃ (tp : Addr) (ts : List Int) (s : Int) (z : Option V), σ = [some (.ref rk), some (.ref rst), some (.int B), some (.ref st), some (.ref tp), some (.int s), z] ∧ H' tp = some (.lst (ts.map V.int)) ∧ ts.length = i ∧ s ≠ 0 ∧
    (∀ x, Cv.evI ts x = newton (ks.drop (ks.length - i)) (ss.drop (ks.length - i)) x * ((B : Rat) * (s : Rat))) ∧ (∀ t ∈ ts, Bd (n * ks.length + n * i + 21 * i + 2 * n + 30) t) ∧ Bd (n * i + 1) s)
    ⟨Same.refl _, tp, [], 1, none, rfl, etp, rfl, by decide, fun x => ?_, (fun _ h => nomatch h), ?_⟩ ?_ ?_
  · rw [Nat.sub_zero, List.drop_eq_nil_of_le (Nat.le_refl _)]
    show (0 : Rat) = 0 * _
    grind
  · exact (show Bd 1 1 by unfold Bd; decide).mono (by lia)
  · rintro i σ H' hi hR1
    refine anE2 hR1 fun sm hz126 => ?_
    refine exE4 hz126 fun tp' ts s z hz126' => ?_
    clear hz126
    refine anE7 hz126' fun hq125 etp' htl hs0 he hbt hbsc => ?_
    clear hz126'
    obtain rfl := hq125
    try clear hR1
    have hj : ks.length - 1 - i < ks.length := nat_lt hi
    have hj2 : ks.length - 1 - i < ss.length := by lia
    have hkq : ks[ks.length - 1 - i]? = some ks[ks.length - 1 - i] := List.getElem?_eq_getElem hj
    have hsq : ss[ks.length - 1 - i]? = some ss[ks.length - 1 - i] := List.getElem?_eq_getElem hj2
    have hcm : ks[ks.length - 1 - i] ∈ ks := List.getElem_mem hj
    have hsm : ss[ks.length - 1 - i] ∈ ss := List.getElem_mem hj2
    generalize ks[ks.length - 1 - i] = c at hkq hcm
    generalize ss[ks.length - 1 - i] = d at hsq hsm
    obtain ⟨xk, hxk, rk', rfl, hrk⟩ := (Paired.get' hnk hkq)
    have ei : (xs.length : Int) - 1 - (i : Int) = ((ks.length - 1 - i : Nat) : Int) := nat_back hlk hi
    have hat : atI xs ((xs.length : Int) - 1 - (i : Int)) = some (.ref rk') := by rw [ei]; exact atI_nat hxk
    have hat2 : atI ((ss.map (topOf B)).map V.int) ((xs.length : Int) - 1 - (i : Int)) = some (.int (topOf B d)) := at_plus (by rw [List.getElem?_map, hsq]; rfl) ei
    have hni : n * i ≤ n * ks.length := Nat.mul_le_mul_left n (by lia)
    have hni1 : n * (i + 1) = n * i + n := by rw [Nat.mul_add, Nat.mul_one]
    have bt : Bd (n * ks.length + n + 1) (topOf B d) := ((hbs d hsm).1.mul (hbB.fdiv (y := d.den))).mono (by lia)
    have sH := s2.trans sm
    have hrk1 := hrk.same sH
    refine ⟨_, rfl, _, rfl, _, rfl, rk, xs, _, _, rfl, rfl, Same.seq sH hk, hat, rk', _, _, _, rfl, rfl, hrk1, rfl, _, rfl, _, rfl, _, rfl, rk, xs, _, _, rfl, rfl, Same.seq sH hk, hat, rk', _, _, _, rfl, rfl, hrk1, rfl, P2, fun g hg => ?_⟩
    have sg : Same H' (upd H' g (.lst [.int (-c.num), .int (c.den : Int)])) := Same.new hg
    have eg : (upd H' g (.lst [.int (-c.num), .int (c.den : Int)])) g = some (.lst ([-c.num, (c.den : Int)].map V.int)) := upd_same
    generalize upd H' g (.lst [.int (-c.num), .int (c.den : Int)]) = Hg at sg eg ⊢
    have blin : ∀ t ∈ [-c.num, (c.den : Int)], Bd n t := fun t ht => by
      rcases List.mem_cons.mp ht with z | z
      · subst z; exact (hbk c hcm).1.neg
      · rw [List.mem_singleton.mp z]; exact (hbk c hcm).2
    refine ⟨tp', g, ts, [-c.num, (c.den : Int)], n * ks.length + n * i + 21 * i + 2 * n + 30, n, rfl, SqL.of (sg _ _ etp'), SqL.of eg, (show 1 ≤ 2 by decide), by lia, (show 2 ≤ 1000 by decide), hbt, blin, by lia, fun pr H6 ps s6 hpr epr hpl hpe hpb => ?_⟩
    have hpl' : ps.length = i + 1 := by rw [hpl, htl]; rfl
    have hp0 : 0 < ps.length := by rw [hpl']; exact Nat.succ_pos i
    have h0 : ps[0]? = some ps[0] := List.getElem?_eq_getElem hp0
    have sg6 := sg.trans s6
    have s06 := sH.trans sg6
    have ms : MulC s (c.den : Int) := MulC.bd hbsc (hbk c hcm).2 (by lia)
    have bs' : Bd (n * (i + 1) + 1) (s * (c.den : Int)) := (hbsc.mul (hbk c hcm).2).mono (by lia)
    refine ⟨_, rfl, _, rfl, _, rfl, rk, xs, _, _, rfl, rfl, Same.seq s06 hk, hat, rk', _, _, _, rfl, rfl, hrk.same s06, rfl, _, _, rfl, rfl, ms, ?_⟩
    refine ⟨_, rfl, pr, _, _, _, rfl, rfl, SqL.of epr, at_plus h0 rfl, _, rfl, _, rfl, st, _, _, _, rfl, rfl, SqL.of (sg6 _ _ (sm _ _ est)), hat2, _, rfl, _, _, rfl, rfl, MulC.bd bt bs' (by lia), _, _, rfl, rfl, ?_⟩
    refine ⟨_, rfl, pr, _, _, 0, rfl, rfl, epr, ixN_plus (by rw [List.length_map]; lia) rfl, ?_⟩
    have sm2 : Same H2 (upd H6 pr (.lst ((ps.map V.int).set 0 (.int (ps[0] + topOf B d * (s * (c.den : Int))))))) := fun bb u zz => by
      have z1 := sg _ _ (sm bb u zz)
      rw [upd_ne (ne_of_none z1 hpr)]
      exact s6 bb u z1
    refine ⟨sm2, pr, ps.set 0 (ps[0] + topOf B d * (s * (c.den : Int))), s * (c.den : Int), _, rfl, ?_, by rw [List.length_set]; exact hpl', Int.mul_ne_zero hs0 (Nm.den_ne c), fun x => ?_, fun t ht => ?_, bs'⟩
    · rw [upd_same, List.map_set]
    · rw [Cv.evI_set x ps 0 _ _ h0, hpe x, evI_line, he x, Rat.pow_zero, drop_at rfl hi hkq, drop_at hlen.symm hi hsq]
      show _ = (d + (x - c) * newton _ _ x) * _
      rw [Rat.intCast_mul, Rat.intCast_mul, topOf_rat (hdv d hsm)]
      grind
    · rcases List.mem_or_eq_of_mem_set ht with zz | zz
      · exact (hpb t zz).mono (by lia)
      · subst zz
        have b1 := (hpb _ (List.getElem_mem hp0)).mono (n := n * ks.length + n * i + 21 * i + 2 * n + 30 + n + 20) (by lia)
        have b2 := (bt.mul bs').mono (n := n * ks.length + n * i + 21 * i + 2 * n + 30 + n + 20) (by lia)
        exact (Bd.add b1 b2).mono (by lia)
  · rintro σ H' hR2
    refine anE2 hR2 fun sm hz130 => ?_
    refine exE4 hz130 fun tp' ts s z hz130' => ?_
    clear hz130
    refine anE7 hz130' fun hq129 etp' htl hs0 he hbt hbsc => ?_
    clear hz130'
    obtain rfl := hq129
    try clear hR2
    have hb0 : B * s ≠ 0 := Int.mul_ne_zero (by lia) hs0
    refine ⟨_, rfl, _, rfl, _, rfl, _, _, rfl, rfl, MulC.bd hbB hbsc (by lia), tp', ts, B * s, rfl, SqL.of etp', hb0, by lia, fun p H6 s6 c6 => ?_⟩
    refine q p H6 _ ((s2.trans sm).trans s6) c6 (by have := Cv.strip_length (ts.map fun t => Rat.divInt t (B * s)); rw [List.length_map] at this; lia) (good_strip _) (fun c hc => ?_) fun x => ?_
    · have hc' := Cv.strip_mem _ c hc
      obtain ⟨t, ht, rfl⟩ := (List.mem_map.mp hc')
      exact RB.div (m := 0) ((hbt t ht).mono (by lia)) ((hbB.mul hbsc).mono (by lia)) hb0
    rw [Cv.ev_strip]
    have h7 := ev_over hb0 x ts
    rw [he x, Nat.sub_self, List.drop_zero, List.drop_zero, ← Rat.intCast_mul] at h7
    exact rcancel (Nm.cast_ne hb0) h7
theorem sc_curve_through : FnScope ["points"] ["points"] (defScope (top 33)) := ⟨rfl, rfl, rfl, by decide +kernel, rfl, by decide +kernel, by decide +kernel⟩
set_option maxHeartbeats 4000000 in
theorem ok_curve_through {f : Addr} {fd : FuncData} (F : Fun K "curve_through" "curve_through" (top 33) f fd) (F_by_steps : Fd P w K mg base 36 "by_steps" ["knots", "steps"] (spBySteps K)) (F_knots_of : Fd P w K mg base 34 "knots_of" ["points"] (spKnotsT K)) (F_steps_of : Fd P w K mg base 38 "steps_of" ["points"] (spSteps K)) (hT : P.given.tree = none) :
    FnOk P w K mg base CX0 39 f fd ["points"] (spThru K) := by
  refine F.ok sc_curve_through (fun vs H Q E h => ?_) (fun cdv A outer s H vs Q E hr h => ?_)
  · obtain ⟨_, _, _, _, _, rfl, _⟩ := h; rfl
  refine ⟨_, (pss_one (ps_ret (pe_fn F_by_steps hr rfl (pa_cons (pe_fn F_knots_of hr rfl (pa_cons (pv 0) pa_nil)) (pa_cons (pe_fn F_steps_of hr rfl (pa_cons (pv 0) pa_nil)) pa_nil))))), ?_⟩
  obtain ⟨r, xs, pss, hh, n, rfl, hS, hp, h23, h100, hnd, h12, hb, hbk, hn1, hn40, q⟩ := h
  refine ⟨_, rfl, r, xs, pss, rfl, hS, hp, h23, h100, fun w Hw ws sw hw ew hws => ?_⟩
  refine ⟨_, rfl, r, xs, pss, hh, n, rfl, hS.same sw, PtsT.same hp sw, h23, h100, hnd, h12, hb, hbk, hn1, hn40, fun t Ht zs st ht et hzs => ?_⟩
  have hbl := bnd_up hn40 (Nat.le_refl 11)
  have hnb : n ≤ bnd hh n 11 := by
    have := bnd_ge hh n 10
    show n ≤ 2 * bnd hh n 10 + 2 * n + 2
    lia
  have hkl := kn_length pss
  refine ⟨w, t, ws, zs, kn pss, stepsOf pss, bnd hh n 11, rfl, SqL.of (st _ _ ew), (NumsT.same hws st).nums, SqL.of et, hzs, by rw [stepsOf_length]; exact hkl, by lia, fun c hc => (kn_rb hbk c hc).mono hnb, steps_rb h23 hb hbk hn1 h12, by lia, fun p Hp cs sp' hc hcl hg hcb hev => ?_⟩
  have hm : bnd hh n 11 * (kn pss).length ≤ bnd hh n 11 * 12 := Nat.mul_le_mul_left _ (by lia)
  exact q p Hp cs ((sw.trans st).trans sp') hc (by lia) hg (fun c hc => (hcb c hc).mono (by lia)) hev
theorem sc__law_whole : FnScope ["_law_thing"] ["_law_thing"] (defScope (top 51)) := ⟨rfl, rfl, rfl, by decide +kernel, rfl, by decide +kernel, by decide +kernel⟩
set_option maxHeartbeats 4000000 in
theorem ok__law_whole {f : Addr} {fd : FuncData} (F : Fun K "_law_whole" "_law_whole" (top 51) f fd) (b_isinstance : mg "isinstance" = none) (b_int : mg "int" = none) (b_bool : mg "bool" = none) (hT : P.given.tree = none) :
    FnOk P w K mg base CX0 33 f fd ["_law_thing"] (spWhole K) := by
  refine F.ok sc__law_whole (fun vs H Q E h => ?_) (fun cdv A outer s H vs Q E hr h => ?_)
  · obtain ⟨_, _, rfl, _⟩ := h; rfl
  refine ⟨_, (pss_one (ps_ret (pe_and (pe_callB (isiK K) rfl b_isinstance bt_isinstance (pa_cons (pv 0) (pa_cons (pe_bltn (v := .ty "int") rfl b_int bt_int rfl) pa_nil))) (pe_one (pe_not (pe_callB (isiK K) rfl b_isinstance bt_isinstance (pa_cons (pv 0) (pa_cons (pe_bltn (v := .ty "bool") rfl b_bool bt_bool rfl) pa_nil)))))))), ?_⟩
  obtain ⟨x, b, rfl, wx, q⟩ := h
  cases wx with
  | int i => exact ⟨_, rfl, _, _, _, _, rfl, .of (.int i), kit_ii K, true, rfl, iteT ⟨_, rfl, _, _, _, _, rfl, .of (.int i), kit_ib K, false, rfl, q⟩⟩
  | bl y => exact ⟨_, rfl, _, _, _, _, rfl, .of (.bl y), kit_bi K, true, rfl, iteT ⟨_, rfl, _, _, _, _, rfl, .of (.bl y), kit_bb K, true, rfl, q⟩⟩
  | oth ty hk => exact ⟨_, rfl, _, _, _, _, rfl, ty, hk, false, rfl, iteF q⟩
theorem sc__law_is_number : FnScope ["_law_thing"] ["_law_thing"] (defScope (top 52)) := ⟨rfl, rfl, rfl, by decide +kernel, rfl, by decide +kernel, by decide +kernel⟩
set_option maxHeartbeats 4000000 in
theorem ok__law_is_number {f : Addr} {fd : FuncData} (F : Fun K "_law_is_number" "_law_is_number" (top 52) f fd) (F__law_whole : Fd P w K mg base 33 "_law_whole" ["_law_thing"] (spWhole K)) (F__law_lowest : Fd P w K mg base 33 "_law_lowest" ["_law_top", "_law_bottom"] (spLow)) (b_isinstance : mg "isinstance" = none) (b_tuple : mg "tuple" = none) (b_len : mg "len" = none) (hT : P.given.tree = none) :
    FnOk P w K mg base CX0 34 f fd ["_law_thing"] (spIsN K) := by
  refine F.ok sc__law_is_number (fun vs H Q E h => ?_) (fun cdv A outer s H vs Q E hr h => ?_)
  · obtain ⟨_, _, rfl, _⟩ := h; rfl
  refine ⟨_, (pss_consC (K := K) (ps_ifC (K := K) (PW.pt (pw_or (pt_not (pt_val (pe_callB (isiK K) rfl b_isinstance bt_isinstance (pa_cons (pv 0) (pa_cons (pe_bltn (v := .ty "tuple") rfl b_tuple bt_tuple rfl) pa_nil))))) (pw_or (pt_cmpR op_ne (pe_callB (lenK K) rfl b_len bt_len (pa_cons (pv 0) pa_nil)) pe_int (nomark _)) (pw_or (pt_not (pt_val (pe_fn F__law_whole hr rfl (pa_cons (pe_ix (ixT K) (pv 0) pe_int (fun u v => rfl)) pa_nil)))) (pw_or1 (pt_not (pt_val (pe_fn F__law_whole hr rfl (pa_cons (pe_ix (ixT K) (pv 0) pe_int (fun u v => rfl)) pa_nil))))))))) (pss_one (ps_ret pe_bl)) pss_nil (by rfl) (by rfl))
    (pss_one (ps_ret (pe_and (pe_cmpR op_gt (pe_ix (ixT K) (pv 0) pe_int (fun u v => rfl)) pe_int (nomark _)) (pe_one (pe_cmpR (eqD K hr.units) (pe_fn F__law_lowest hr rfl (pa_cons (pe_ix (ixT K) (pv 0) pe_int (fun u v => rfl)) (pa_cons (pe_ix (ixT K) (pv 0) pe_int (fun u v => rfl)) pa_nil))) (pv 0) (nomark _)))))) (by rfl)), ?_⟩
  obtain ⟨x, p, rfl, ⟨r, rfl, hr⟩, q⟩ := h
  refine ⟨_, rfl, _, _, _, _, rfl, .tup hr, kit_tt K, true, rfl, iteF ?_⟩
  refine ⟨_, rfl, r, _, rfl, .inr hr, rfl, _, rfl, iteF ?_⟩
  refine ⟨_, rfl, r, _, _, _, rfl, rfl, hr, rfl, _, _, rfl, .int _, _, rfl, iteF ?_⟩
  refine ⟨_, rfl, r, _, _, _, rfl, rfl, hr, rfl, _, _, rfl, .int _, _, rfl, iteF ?_⟩
  refine ⟨_, rfl, r, _, _, _, rfl, rfl, hr, rfl, _, _, rfl, rfl, _, rfl, ?_⟩
  refine iteTc (by rw [decide_eq_true (show (0 : Int) < (p.den : Int) by have := p.den_pos; lia)] <;> rfl) ?_
  refine ⟨_, rfl, r, _, _, _, rfl, rfl, hr, rfl, _, rfl, r, _, _, _, rfl, rfl, hr, rfl, _, _, rfl, Nm.den_ne p, fun z hz => ⟨_, rfl, ?_⟩⟩
  have e : Rat.divInt p.num (p.den : Int) = p := Rat.num_divInt_den p
  rw [e]
  refine eqN (NumV.of upd_same) ⟨r, rfl, SqT.same hr (Same.new hz)⟩ ?_
  rw [decide_eq_true rfl]
  exact q _ (Same.new hz)
theorem sc_law : FnScope ["_law_script", "_law_pen_here", "_law_points_here", "_law_kept", "_law_x", "_law_new", "_law_found", "_law_both", "_law_knots", "_law_told_here"] ["_law_script"] (defScope (top 55)) := ⟨rfl, rfl, rfl, by decide +kernel, rfl, by decide +kernel, by decide +kernel⟩
set_option maxHeartbeats 4000000 in
theorem ok_law {f : Addr} {fd : FuncData} (F : Fun K "law" "law" (top 55) f fd) (F__law_pen : Fd P w K mg base 33 "_law_pen" ["_law_script", "_law_k"] (spPen K)) (F__law_points : Fd P w K mg base 36 "_law_points" ["_law_pen_here", "_law_most"] (spPointsT K 8)) (F__law_number : Fd P w K mg base 34 "_law_number" ["_law_pen_here"] (spNum 8)) (F_new_steps : Fd P w K mg base 39 "new_steps" ["points", "point"] (spNewSteps K)) (F__law_plus : Fd P w K mg base 34 "_law_plus" ["_law_a", "_law_b"] (spBin K (· + ·))) (F__law_missed : Fd P w K mg base 37 "_law_missed" ["_law_points_here", "_law_curve"] (spMissed3 K)) (F_steps_of : Fd P w K mg base 38 "steps_of" ["points"] (spSteps K)) (F__law_told : Fd P w K mg base 33 "_law_told" ["_law_points_here"] (spToldS K)) (F__law_behind : Fd P w K mg base 36 "_law_behind" ["_law_curve", "_law_knots", "_law_some"] (spBehind K)) (F__law_draw : Fd P w K mg base 33 "_law_draw" ["_law_pen_here", "_law_many"] (spDraw)) (F_curve_through : Fd P w K mg base 39 "curve_through" ["points"] (spThru K)) (F__law_is_number : Fd P w K mg base 34 "_law_is_number" ["_law_thing"] (spIsN K)) (b_tuple : mg "tuple" = none) (b_list : mg "list" = none) (b_isinstance : mg "isinstance" = none) (b_len : mg "len" = none) (b_all : mg "all" = none) (hT : P.given.tree = none) :
    FnOk P w K mg base CX0 40 f fd ["_law_script"] (spLaw K) := by
  refine F.ok sc_law (fun vs H Q E h => ?_) (fun cdv A outer s H vs Q E hr h => ?_)
  · obtain ⟨_, _, rfl, _⟩ := h; rfl
  refine ⟨_, (pss_consC (K := K) (ps_set (i := 1) sc_law.nd rfl (Or.inl rfl) (pe_fn F__law_pen hr rfl (pa_cons (pv 0) (pa_cons pe_int pa_nil))))
    (pss_consC (K := K) (ps_set (i := 2) sc_law.nd rfl (Or.inl rfl) (pe_fn F__law_points hr rfl (pa_cons (pv 1) (pa_cons pe_int pa_nil))))
    (pss_consC (K := K) (ps_set (i := 3) sc_law.nd rfl (Or.inl rfl) (pe_callTy (tupleK K) rfl b_tuple bt_tuple (pa_cons (pe_lc rfl (N := ["_law_point"]) (nt := 1) (js := []) (CompOk.look (NX := ["_law_script", "_law_pen_here", "_law_points_here", "_law_kept", "_law_x", "_law_new", "_law_found", "_law_both", "_law_knots", "_law_told_here"]) (sc := defScope (top 55)) rfl rfl (by decide +kernel)) (piT K (pv 2)) (fun u1 u2 u3 u4 u5 => (pg_name (i := 0) (show List.Nodup (["_law_point"] : List Str) from by decide +kernel) rfl (Or.inl rfl))) (stays_name (by decide)) (fun u1 u2 u3 u4 u5 => pts_nil) (fun u1 u2 u3 u4 u5 => (pe_callTy (tupleK K) rfl b_tuple bt_tuple (pa_cons (pe_callTy (listK K) rfl b_list bt_list (pa_cons (pv 0) pa_nil)) pa_nil)))) pa_nil)))
    (pss_consC (K := K) (ps_set (i := 4) sc_law.nd rfl (Or.inl rfl) (pe_fn F__law_number hr rfl (pa_cons (pv 1) pa_nil)))
    (pss_consC (K := K) (ps_while PassesOwn.never (pt_cmpR (inD K hr) (pv 4) (pe_lc rfl (N := ["_law_point"]) (nt := 1) (js := []) (CompOk.look (NX := ["_law_script", "_law_pen_here", "_law_points_here", "_law_kept", "_law_x", "_law_new", "_law_found", "_law_both", "_law_knots", "_law_told_here"]) (sc := defScope (top 55)) rfl rfl (by decide +kernel)) (piT K (pv 2)) (fun u1 u2 u3 u4 u5 => (pg_name (i := 0) (show List.Nodup (["_law_point"] : List Str) from by decide +kernel) rfl (Or.inl rfl))) (stays_name (by decide)) (fun u1 u2 u3 u4 u5 => pts_nil) (fun u1 u2 u3 u4 u5 => (pe_ix (ixT K) (pv 0) pe_int (fun u v => rfl)))) (by with_unfolding_all rfl)) (pss_one (ps_set (i := 4) sc_law.nd rfl (Or.inl rfl) (pe_fn F__law_plus hr rfl (pa_cons (pv 4) (pa_cons (pe_tup (pa_cons pe_int (pa_cons pe_int pa_nil))) pa_nil))))))
    (pss_consC (K := K) (ps_set (i := 5) sc_law.nd rfl (Or.inl rfl) (pe_slice (slTA K) (pe_tup (pa_cons (pv 4) (pa_cons (pe_fn F__law_number hr rfl (pa_cons (pv 1) pa_nil)) (pa_cons (pe_fn F__law_number hr rfl (pa_cons (pv 1) pa_nil)) pa_nil)))) po_none (po_some (pe_op op_add pe_int (pe_fn F__law_draw hr rfl (pa_cons (pv 1) (pa_cons pe_int pa_nil)))))))
    (pss_consC (K := K) (ps_set (i := 6) sc_law.nd rfl (Or.inl rfl) (pe_fn F_new_steps hr rfl (pa_cons (pv 2) (pa_cons (pv 5) pa_nil))))
    (pss_consC (K := K) (ps_ifC (K := K) (PW.pt (pw_or (pt_not (pt_val (pe_callB (isiK K) rfl b_isinstance bt_isinstance (pa_cons (pv 6) (pa_cons (pe_bltn (v := .ty "list") rfl b_list bt_list rfl) pa_nil))))) (pw_or (pt_cmpR op_ne (pe_callB (lenK K) rfl b_len bt_len (pa_cons (pv 6) pa_nil)) (pe_op op_sub (pe_callB (lenK K) rfl b_len bt_len (pa_cons (pv 5) pa_nil)) pe_int) (nomark _)) (pw_or1 (pt_not (pt_val (pe_callB (allB K rfl) rfl b_all bt_all (pa_cons (pe_lc rfl (N := ["_law_one"]) (nt := 1) (js := []) (CompOk.look (NX := ["_law_script", "_law_pen_here", "_law_points_here", "_law_kept", "_law_x", "_law_new", "_law_found", "_law_both", "_law_knots", "_law_told_here"]) (sc := defScope (top 55)) rfl rfl (by decide +kernel)) (piL K (pv 6)) (fun u1 u2 u3 u4 u5 => (pg_name (i := 0) (show List.Nodup (["_law_one"] : List Str) from by decide +kernel) rfl (Or.inl rfl))) (stays_name (by decide)) (fun u1 u2 u3 u4 u5 => pts_nil) (fun u1 u2 u3 u4 u5 => (pe_fn F__law_is_number hr rfl (pa_cons (pv 0) pa_nil)))) pa_nil)))))))) (pss_one (ps_ret pe_bl)) pss_nil (by rfl) (by rfl))
    (pss_consC (K := K) (ps_set (i := 7) sc_law.nd rfl (Or.inl rfl) (pe_op (catTA K) (pv 2) (pe_tup (pa_cons (pv 5) pa_nil))))
    (pss_consC (K := K) (ps_lc (i := 8) rfl sc_law.nd rfl rfl (N := ["_law_row"]) (nt := 1) (js := []) (CompOk.look (NX := ["_law_script", "_law_pen_here", "_law_points_here", "_law_kept", "_law_x", "_law_new", "_law_found", "_law_both", "_law_knots", "_law_told_here"]) (sc := defScope (top 55)) rfl rfl (by decide +kernel)) (piL K (pe_fn F__law_told hr rfl (pa_cons (pv 7) pa_nil))) (fun u1 u2 u3 u4 u5 => (pg_name (i := 0) (show List.Nodup (["_law_row"] : List Str) from by decide +kernel) rfl (Or.inl rfl))) (stays_name (by decide)) (fun u1 u2 u3 u4 u5 => pts_nil) (fun u1 u2 u3 u4 u5 => (pe_ix (ixT K) (pv 0) pe_int (fun u v => rfl))) rfl)
    (pss_consC (K := K) (ps_ifC (K := K) (pt_cmpR (neD K hr.units) (pe_fn F__law_missed hr rfl (pa_cons (pv 7) (pa_cons (pe_fn F__law_behind hr rfl (pa_cons (pe_fn F_curve_through hr rfl (pa_cons (pv 2) pa_nil)) (pa_cons (pv 8) (pa_cons (pv 6) pa_nil)))) pa_nil))) (pe_lst pa_nil) (nomark _)) (pss_one (ps_ret pe_bl)) pss_nil (by rfl) (by rfl))
    (pss_consC (K := K) (ps_ifC (K := K) (pt_cmpR (neD K hr.units) (pe_fn F_steps_of hr rfl (pa_cons (pv 7) pa_nil)) (pe_op op_cat (pe_fn F_steps_of hr rfl (pa_cons (pv 2) pa_nil)) (pv 6)) (nomark _)) (pss_one (ps_ret pe_bl)) pss_nil (by rfl) (by rfl))
    (pss_consC (K := K) (ps_set (i := 9) sc_law.nd rfl (Or.inl rfl) (pe_callTy (listK K) rfl b_list bt_list (pa_cons (pv 6) pa_nil)))
    (pss_consC (K := K) (ps_expr (pe_bmK0 K PySem.F.plainAttrs_list PySem.F.slot_list_reverse PySem.F.type_list_reverse mt_reverse (pv 6)))
    (pss_consC (K := K) (ps_expr (pe_bmK K PySem.F.plainAttrs_list PySem.F.slot_list_append PySem.F.type_list_append mt_append (pv 6) (pa_cons (pe_tup (pa_cons pe_int (pa_cons pe_int pa_nil))) pa_nil)))
    (pss_one (ps_ret (pe_and (pe_cmpR (eqD K hr.units) (pe_fn F_new_steps hr rfl (pa_cons (pv 2) (pa_cons (pv 5) pa_nil))) (pv 9) (nomark _)) (pe_one (pe_cmpR (eqD K hr.units) (pv 2) (pv 3) (nomark _)))))) (by rfl)) (by rfl)) (by rfl)) (by rfl)) (by rfl)) (by rfl)) (by rfl)) (by rfl)) (by rfl)) (by rfl)) (by rfl)) (by rfl)) (by rfl)) (by rfl)) (by rfl)), ?_⟩
  obtain ⟨a, ns, rfl, hS, h63, q⟩ := h
  have P2 : 2 ≤ sizeLine := by decide
  have P3 : 3 ≤ sizeLine := by decide
  have P1 : 1 ≤ sizeLine := by decide
  refine ⟨_, rfl, a, ns, 0, rfl, hS, h63, by decide, by decide, fun p c0 c1 hp => ?_⟩
  have pn : Pen (upd H p (.lst [.int c0, .int c1, .int 0])) p := .put
  generalize upd H p (.lst [.int c0, .int c1, .int 0]) = H1 at pn ⊢
  clear hS hp
  refine ⟨_, rfl, p, 6, rfl, pn, by decide, by decide, fun r H2 xs pss m2 p2 hS hp h23 hb h1 hle htl hnd => ?_⟩
  have hxl := hp.length
  have hge := tell_ge h23
  clear m2 pn
  refine lc_of ⟨_, rfl, r, rfl, ⟨_, hS⟩, ?_⟩
  refine lc_tup (xs := xs) (fun i zs H' => Same H2 H' ∧ Pts K H' zs (pss.take i)) ⟨Same.refl _, .nil⟩ (fun i zs H' hi h => ⟨hS.same h.1, by rw [h.2.length, List.length_take]; lia⟩) (Nat.le_of_lt (small1000 (by lia))) ?_ ?_
  · rintro i x zs H' hx ⟨sm, hz⟩
    obtain ⟨ps, hps, b, us, pp, rfl, hus, hun, _⟩ := (Paired.get hp hx)
    refine ⟨_, rfl, b, us, rfl, .inr (hus.same sm), fun l1 hl1 => ⟨l1, us, rfl, .inl ⟨SqL.of upd_same, fun t ht => ?_⟩⟩⟩
    have s2 := (Same.new (o := .lst us) hl1).trans (Same.new (o := .tup us) ht)
    refine ⟨sm.trans s2, ?_⟩
    rw [List.take_add_one, hps]
    exact Paired.snoc (Pts.same hz s2) ⟨t, rfl, us, SqT.of upd_same, hun.same (sm.trans s2)⟩
  rintro zs H3 ⟨s3, hz⟩ l hl
  rw [hxl, List.take_length] at hz
  refine ⟨l, zs, rfl, .inl ⟨SqL.of upd_same, fun k hk => ?_⟩⟩
  have s34 := (Same.new (o := .lst zs) hl).trans (Same.new (o := .tup zs) hk)
  have s4 := s3.trans s34
  have hk4 : SqT K (upd (upd H3 l (.lst zs)) k (.tup zs)) k zs := SqT.of upd_same
  generalize upd (upd H3 l (.lst zs)) k (.tup zs) = H4 at s4 s34 hk4 ⊢
  have hkp4 := Pts.same hz s34
  have hS4 := hS.same s4
  have hp4 := PtsT.same hp s4
  have p4 := p2.sm s4
  clear hz hl hk s34 s3 s4 hS hp p2
  refine ⟨_, rfl, p, rfl, p4, fun x0 rx H5 m5 p5 hrx bn bd => ?_⟩
  have hS5 := hS4.mv p4 m5
  have hp5 := PtsT.mv hp4 p4 m5
  have hk5 := hk4.mv p4 m5
  have hkp5 := Pts.mv hkp4 p4 m5
  clear hS4 hp4 hk4 hkp4 p4 m5
  refine ⟨fun μ σ H6 => Same H5 H6 ∧ ∃ (rx : Addr) (x : Rat) (j : Nat), σ = [some (.ref a), some (.ref p), some (.ref r), some (.ref k), some (.ref rx), none, none, none, none, none] ∧ H6 rx = some (nT x) ∧ x = x0 + (j : Rat) ∧ μ = cnt x (pss.map fun ps => ps.getD 0 0) ∧ j + cnt x (pss.map fun ps => ps.getD 0 0) ≤ pss.length,
      ⟨_, Same.refl _, rx, x0, 0, rfl, hrx, (by have z : ((0 : Nat) : Rat) = 0 := rfl; rw [z]; grind), rfl, by have := cnt_le x0 (pss.map fun ps => ps.getD 0 0); rw [List.length_map] at this; lia⟩, ?_⟩
  rintro μ σ H6 hR1
  refine anE2 hR1 fun s6 hz135 => ?_
  refine exE3 hz135 fun rx x j hz135' => ?_
  clear hz135
  refine anE5 hz135' fun hq133 hrx hx hq134 hj => ?_
  clear hz135'
  obtain rfl := hq133
  obtain rfl := hq134
  try clear hR1
  have hxb : RB (8 + 8) x := by
    rw [hx]
    exact (RB.plus ⟨bn, bd⟩ (rb_nat (j := j) (by lia))).mono (by lia)
  have hS6 := hS5.same s6
  have hp6 := PtsT.same hp5 s6
  refine ⟨_, rfl, ?_⟩
  refine lc_of ⟨_, rfl, r, rfl, ⟨_, hS6⟩, ?_⟩
  refine lc_tup (xs := xs) (L2 H6 pss fun H6 pss i ys H' => H' = H6 ∧ NumsT H6 ys ((pss.take i).map fun ps => ps.getD 0 0)) ⟨rfl, .nil⟩ (fun i ys H' hi h => ⟨by rw [h.1]; exact hS6, by rw [h.2.length, List.length_map, List.length_take]; lia⟩) (Nat.le_of_lt (small1000 (by lia))) ?_ ?_
  · rintro i u ys H' hu ⟨rfl, hys⟩
    obtain ⟨ps, hps, b, us, pp, rfl, hus, hun, hu0, hpp⟩ := (Paired.get hp6 hu)
    refine ⟨_, rfl, b, us, _, _, rfl, rfl, hus, atI_nat (j := 0) hu0, rfl, ?_⟩
    rw [List.take_add_one, hps, List.map_append]
    exact Paired.snoc hys ⟨pp, rfl, hpp⟩
  rintro ys Hq ⟨hq, hys⟩ l hl
  obtain rfl : H6 = Hq := hq.symm
  rw [hxl, List.take_length] at hys
  have s7 : Same H6 (upd H6 l (.lst ys)) := Same.new hl
  refine inN (NumV.of (s7 _ _ hrx)) (SqL.of upd_same) (NumsT.same hys s7).nums ?_
  have s57 := s6.trans s7
  have hrx7 := s7 _ _ hrx
  generalize upd H6 l (.lst ys) = H7 at s57 s7 hrx7 ⊢
  refine ⟨_, rfl, ?_⟩
  by_cases hin : x ∈ pss.map fun ps => ps.getD 0 0
  · refine iteTc (by rw [decide_eq_true hin] <;> rfl) ⟨_, fun _ _ h => h, ?_⟩
    refine ⟨_, rfl, P2, fun t ht => ⟨_, _, _, _, 8 + 8, 1, rfl, NumV.of ((Same.new ht) _ _ hrx7), NumV.of (upd_same (o := nT 1)), hxb, RB.one (by decide), by lia, fun u hu => ?_⟩⟩
    refine ⟨_, cnt_lt hin, (s57.trans (Same.new ht)).trans (Same.new hu), u, x + 1, j + 1, rfl, upd_same, ?_, rfl, by have := cnt_lt hin; lia⟩
    rw [hx, Rat.natCast_add]
    have z : ((1 : Nat) : Rat) = 1 := rfl
    rw [z]; grind
  refine iteFc (by rw [decide_eq_false hin] <;> rfl) ?_
  have hS7 := hS5.same s57
  have hp7 := PtsT.same hp5 s57
  have hk7 := hk5.same s57
  have hkp7 := Pts.same hkp5 s57
  have p7 := p5.sm s57
  clear hS5 hp5 hk5 hkp5 p5 s57 s7 s6 hS6 hp6 hys hl hrx hj hx
  refine ⟨_, rfl, _, rfl, p, rfl, p7, fun y1 r1 H8 m8 p8 hr1 bn1 bd1 => ?_⟩
  refine ⟨_, rfl, p, rfl, p8, fun y2 r2 H9 m9 p9 hr2 bn2 bd2 => ?_⟩
  have m79 := m8.trans m9
  have hrx9 := (show NumT H7 (.ref rx) x from ⟨_, rfl, hrx7⟩).mv p7 m79
  have hr19 := (show NumT H8 (.ref r1) y1 from ⟨_, rfl, hr1⟩).mv p8 m9
  have hr29 : NumT H9 (.ref r2) y2 := ⟨_, rfl, hr2⟩
  refine ⟨P3, fun t ht => ?_⟩
  have s10 : Same H9 (upd H9 t (.tup [.ref rx, .ref r1, .ref r2])) := Same.new ht
  have et : (upd H9 t (.tup [.ref rx, .ref r1, .ref r2])) t = some (.tup [.ref rx, .ref r1, .ref r2]) := upd_same
  have p10 := p9.sm s10
  have n10 : Nums K (upd H9 t (.tup [.ref rx, .ref r1, .ref r2])) [.ref rx, .ref r1, .ref r2] [x, y1, y2] := .cons ((hrx9.same s10).num) (.cons ((hr19.same s10).num) (.cons ((hr29.same s10).num) .nil))
  generalize upd H9 t (.tup [.ref rx, .ref r1, .ref r2]) = H10 at s10 et p10 n10 ⊢
  refine ⟨_, rfl, p, 2, rfl, p10, by decide, by decide, fun d H11 d0 d1 o11 p11 => ⟨_, _, rfl, rfl, ?_⟩⟩
  obtain ⟨D, hD⟩ : ∃ D : Nat, 2 + d = (D : Int) := ⟨(2 + d).toNat, by lia⟩
  refine ⟨(D : Int), by show V.int (2 + d) = _; rw [hD], slice_to (xs := [.ref rx, .ref r1, .ref r2]) (SqT.of (o11.mv _ _ (p10.ne et (fun _ _ _ z => by cases z)) et)) (by show D ≤ 3; lia) fun nw H12 s12 hnw => ?_⟩
  have m12 : Mv p H7 H12 := ((m79.trans s10.mv).trans o11.mv).trans s12.mv
  have n12 : Nums K H12 [.ref rx, .ref r1, .ref r2] [x, y1, y2] := (n10.mv p10 o11.mv).same s12
  have hrx12 : H12 rx = some (nT x) := m12 _ _ (p7.ne hrx7 (nT_ne x)) hrx7
  have bx : ∀ c ∈ [x, y1, y2], RB (8 + 8) c := fun c hc => by
    rcases List.mem_cons.mp hc with z | hc
    · rw [z]; exact hxb
    · rcases List.mem_cons.mp hc with z | hc
      · rw [z]; exact RB.mono ⟨bn1, bd1⟩ (by lia)
      · rw [List.mem_singleton.mp hc]; exact RB.mono ⟨bn2, bd2⟩ (by lia)
  obtain ⟨qs, hqs, hnp, hq23, hqb⟩ : ∃ qs : List Rat, qs.getD 0 0 = x ∧ PtT K H12 (.ref nw) qs ∧ (qs.length = 2 ∨ qs.length = 3) ∧ (∀ c ∈ qs, RB (8 + 8) c) := by
    obtain rfl | rfl : D = 2 ∨ D = 3 := by lia
    · exact ⟨[x, y1], rfl, pt_cut (ps := [x, y1, y2]) 1 hnw n12 rfl hrx12, .inl rfl, fun c hc => bx c (List.mem_of_mem_take (i := 2) hc)⟩
    · exact ⟨[x, y1, y2], rfl, pt_cut (ps := [x, y1, y2]) 2 hnw n12 rfl hrx12, .inr rfl, bx⟩
  have hS12 := hS7.mv p7 m12
  have hp12 := PtsT.mv hp7 p7 m12
  have hk12 := hk7.mv p7 m12
  have hkp12 := Pts.mv hkp7 p7 m12
  have p12 := p11.sm s12
  clear hS7 hp7 hk7 hkp7 p7 m12 n12 hrx12 hnw hD d0 d1 o11 p11 s12 et n10 s10 ht hrx9 hr19 hr29 m79 m8 m9 hr1 hr2 p8 p9 p10 hrx7
  have h23n : P23 (pss ++ [qs]) := fun ps hps => by
    rcases List.mem_append.mp hps with z | z
    · exact h23 ps z
    · rw [List.mem_singleton.mp z]; exact hq23
  have hndn : ((pss ++ [qs]).map fun ps => ps.getD 0 0).Nodup := by
    rw [List.map_append, List.nodup_append]
    refine ⟨hnd, by simp, fun b hb c hc e => hin ?_⟩
    rw [List.map_cons, List.map_nil, List.mem_singleton, hqs] at hc
    rw [← hc, ← e]; exact hb
  have htn : (tell (pss ++ [qs])).length ≤ 8 := by
    have e : tell (pss ++ [qs]) = tell pss ++ tell [qs] := by unfold tell; rw [List.map_append, List.flatten_append]
    have e2 : tell [qs] = tellP qs ++ tell [] := rfl
    rw [e, e2, List.length_append, List.length_append, tellP_length]
    show _ + (_ + 0) ≤ 8
    lia
  
  have hbn : ∀ ps ∈ pss ++ [qs], ∀ c ∈ ps, RB 16 c := fun ps hps => by
    rcases List.mem_append.mp hps with z | z
    · exact hb ps z
    · rw [List.mem_singleton.mp z]; exact hqb
  have hbkn : ∀ ps ∈ pss ++ [qs], RB 16 (ps.getD 0 0) := fun ps hps => hbn ps hps _ (getD_mem (by have := h23n ps hps; lia))
  have hb16 : ∀ ps ∈ pss, ∀ c ∈ ps, RB 16 c := hb
  have hbk : ∀ ps ∈ pss, RB 16 (ps.getD 0 0) := fun ps hps => hbkn ps (List.mem_append_left _ hps)
  have P0 : 0 ≤ sizeLine := by decide
  have hl2 : (pss ++ [qs]).length = pss.length + 1 := by rw [List.length_append, List.length_singleton]
  have et1 : (tell (pss ++ [qs])).length = (tell pss).length + (qs.length - 1) := by
    rw [tell_app, List.length_append]
    show _ + (tellP qs ++ tell []).length = _
    rw [List.length_append, tellP_length]; rfl
  obtain ⟨d, hd⟩ : ∃ d, d = (stepsOf (pss ++ [qs])).drop (tell pss).length := ⟨_, rfl⟩
  have hdl : d.length = qs.length - 1 := by rw [hd, List.length_drop, stepsOf_length]; lia
  have hds : stepsOf pss ++ d = stepsOf (pss ++ [qs]) := by
    rw [hd, ← steps_prefix h23n hndn, List.take_append_drop]
  have hdb : ∀ q ∈ d, RB (bnd 16 16 11) q := fun q hq => steps_rb h23n hbn hbkn (by decide) (by lia) q (by rw [hd] at hq; exact List.mem_of_mem_drop hq)
  have hbl := bnd_up (h := 16) (n := 16) (k := 11) (m := 11) (c := 50) (by decide) (Nat.le_refl _)
  refine ⟨_, rfl, _, rfl, r, _, xs, pss, qs, 16, 16, rfl, hS12, hp12, hnp, h23n, hndn, by lia, hbn, hbkn, by decide, by decide, fun fo H13 fz s13 hfo efo hfn => ?_⟩
  rw [← hd] at hfn
  have hfzl := hfn.length
  refine exE3 (id hnp) fun na nus npp hz138' => ?_
  refine anE5 hz138' fun enw hnus hnun hnu0 hnpp => ?_
  clear hz138'
  cases enw
  have hnul := hnun.length
  refine ⟨_, rfl, _, _, _, _, rfl, .lst (SqL.of efo), kit_ll K, true, rfl, iteF ?_⟩
  refine ⟨_, rfl, fo, fz, rfl, .inl (SqL.of efo), _, rfl, nw, nus, rfl, .inr (hnus.same s13), _, _, rfl, rfl, rfl, _, rfl, ?_⟩
  refine iteFc (by rw [decide_eq_true (show V.int ((fz.length : Nat) : Int) = V.int (((nus.length : Nat) : Int) - 1) by congr 1; lia)] <;> rfl) ?_
  refine lc_of ⟨_, rfl, fo, rfl, ⟨_, SqL.of efo⟩, ?_⟩
  refine lc_lst (xs := fz) (fun i zs H' => Same H13 H' ∧ zs = List.replicate i (.bl true)) ⟨Same.refl _, rfl⟩ (fun i zs H' _ p => ⟨SqL.of (p.1 _ _ efo), by rw [p.2, List.length_replicate]⟩) (Nat.le_of_lt (small1000 (by lia))) ?_ ?_
  · rintro i x zs H' hx ⟨sm, rfl⟩
    obtain ⟨c, hc, hcn⟩ := (Paired.get hfn hx)
    refine ⟨_, rfl, x, c, rfl, hcn.same sm, fun H2 s2 => ⟨sm.trans s2, ?_⟩⟩
    rw [← List.replicate_succ']
  rintro zs H14 ⟨s14, rfl⟩ al hal
  refine ⟨al, List.replicate fz.length true, rfl, SqL.of (by rw [List.map_replicate]; exact upd_same), _, rfl, ?_⟩
  refine iteFc (by rw [all_rep] <;> rfl) ?_
  have s15 := s14.trans (Same.new (o := .lst (List.replicate fz.length (.bl true))) hal)
  generalize upd H14 al (.lst (List.replicate fz.length (.bl true))) = H15 at s15 ⊢
  have s1215 := s13.trans s15
  have efo15 := s15 _ _ efo
  have hfn15 := Nums.same hfn s15
  clear s14 hal s15 hfn efo
  refine ⟨_, rfl, _, rfl, P1, fun t1 ht1 => ?_⟩
  have sa := s1215.trans (Same.new (o := .tup [.ref nw]) ht1)
  refine cat_pts (hS12.same sa) (SqT.of upd_same) (Nat.le_trans (show _ ≤ 300 by show _ + 1 ≤ 300; lia) (by decide)) (fun bo H16 s16 hbo => ?_)
  have s1216 := sa.trans s16
  have s1516 := (Same.new (o := .tup [.ref nw]) ht1).trans s16
  have hpo : PtsT K H16 (xs ++ [.ref nw]) (pss ++ [qs]) := Paired.snoc (PtsT.same hp12 s1216) (hnp.same s1216)
  have efo16 := s1516 _ _ efo15
  have hfn16 := Nums.same hfn15 s1516
  clear sa s16 ht1 s1516 efo15 hfn15 s1215 s13
  refine lc_of ⟨_, rfl, false, bo, xs ++ [V.ref nw], pss ++ [qs], rfl, (show SqT K H16 bo (xs ++ [V.ref nw]) from hbo), hpo.pts, h23n, by lia, fun w Hw ws sw hw ew htw => ⟨w, rfl, ⟨_, SqL.of ew⟩, ?_⟩⟩
  have hwl := htw.length
  refine lc_lst (xs := ws) (L5 Hw K tell pss qs fun Hw K tell pss qs i zs H' => H' = Hw ∧ zs.length = i ∧ Nums K Hw zs (((tell (pss ++ [qs])).take i).map Told.x)) ⟨rfl, rfl, .nil⟩ (fun i zs H' _ h => ⟨by rw [h.1]; exact SqL.of ew, h.2.1⟩) (Nat.le_of_lt (small1000 (by lia))) ?_ ?_
  · rintro i v zs H' hv ⟨rfl, hzl, hzn⟩
    obtain ⟨t, ht, a, rx, rn, rfl, ha, hx, _⟩ := (Paired.get htw hv)
    refine ⟨_, rfl, a, _, _, _, rfl, rfl, ha, rfl, rfl, by simp [hzl], ?_⟩
    rw [List.take_add_one, ht, List.map_append]
    exact Paired.snoc hzn hx
  rintro kv Hq ⟨hq, hkvl, hkn⟩ kl hkl
  obtain rfl : Hw = Hq := hq.symm
  rw [hwl, List.take_length] at hkn
  have sk := sw.trans (Same.new (o := .lst kv) hkl)
  have ekl : (upd Hw kl (.lst kv)) kl = some (.lst kv) := upd_same
  have hkn' : Nums K (upd Hw kl (.lst kv)) kv (kn (pss ++ [qs])) := Nums.same hkn (Same.new (o := .lst kv) hkl)
  generalize upd Hw kl (.lst kv) = H17 at sk ekl hkn' ⊢
  have s1217 := s1216.trans sk
  have efo17 := sk _ _ efo16
  have hfn17 := Nums.same hfn16 sk
  have hbo17 := hbo.same sk
  have hpo17 := PtsT.same hpo sk
  clear sk hkn ew htw sw hw efo16 hfn16 hbo hpo hkl
  refine ⟨_, rfl, _, rfl, r, xs, pss, 16, 16, rfl, hS12.same s1217, PtsT.same hp12 s1217, h23, by lia, hnd, by lia, hb16, hbk, by decide, by decide, fun cf H18 cs s18 hcf hcl hg hcb hev => ?_⟩
  obtain ⟨m2, hm2⟩ : ∃ m2, m2 = 26 * bnd 16 16 11 + 300 := ⟨_, rfl⟩
  rw [← hm2] at hcb
  have hknl := kn_length (pss ++ [qs])
  have hkA : (kn (pss ++ [qs])).length - d.length = (tell pss).length := by lia
  have hk0 := kn_length pss
  refine ⟨_, rfl, _, rfl, cf, kl, fo, kv, fz, cs, kn (pss ++ [qs]), d, bnd 16 16 11, m2, rfl, hcf, SqL.of (s18 _ _ ekl), Nums.same hkn' s18, SqL.of (s18 _ _ efo17), Nums.same hfn17 s18, by lia, by lia, by lia, by lia, kn_rb hbkn, hdb, hcb, by lia, by lia, by lia, fun bf H19 zs fs s19 ebf hzn hfl9 hevf hfb => ?_⟩
  have s1719 := s18.trans s19
  rw [hkA, kn_app, List.take_append_of_le_length (by lia), List.drop_append_of_le_length (by lia), List.take_of_length_le (by lia), List.drop_eq_nil_of_le (show (kn pss).length ≤ _ by lia), List.nil_append] at hevf
  have hevn : ∀ X, Cv.ev fs X = newton (kn (pss ++ [qs])) (stepsOf (pss ++ [qs])) X := fun X => by
    rw [hevf, hev, ← hds, kn_app, newton_app X _ _ _ _ (by rw [stepsOf_length]; lia)]
  have hon := thru_on h23n hndn hevn
  have cond : (m2 + 1000000 + 11 + 16 * fs.length + 4) * (fs.length + 2) ≤ 90000000 := Nat.le_trans (Nat.mul_le_mul (show _ ≤ 3663200 by lia) (show fs.length + 2 ≤ 11 by lia)) (by decide)
  refine ⟨false, true, bo, bf, xs ++ [V.ref nw], pss ++ [qs], fs, m2 + 1000000, 16, rfl, (show SqT K H19 bo (xs ++ [V.ref nw]) from hbo17.same s1719), (PtsT.same hpo17 s1719).pts, h23n, by lia, ⟨zs, SqL.of ebf, hzn⟩, by lia, hbn, hfb, by lia, by decide, cond, fun ms H20 mys s20 hms ems hmss => ⟨P0, fun e he => ?_⟩⟩
  rw [msd_on h23n hon] at hmss
  have se : Same H20 (upd H20 e (.lst [])) := Same.new he
  refine eqMs (SqL.of (se _ _ ems)) (mss_same hmss se) (SqL.of upd_same) .nil ?_
  refine ⟨_, rfl, iteF ?_⟩
  have s1721 := (s1719.trans s20).trans se
  generalize upd H20 e (.lst []) = H21 at s1721 se ⊢
  have s1221 := s1217.trans s1721
  have efo21 := s1721 _ _ efo17
  have hfn21 := Nums.same hfn17 s1721
  have hbo21 := hbo17.same s1721
  have hpo21 := PtsT.same hpo17 s1721
  clear se hmss ems s20 hms cond hon hevn hevf hfb hfl9 hzn ebf s19 s1719 hev hcb hg hcl hcf s18 efo17 hfn17 hbo17 hpo17 s1721 s1217 ekl hkn' he
  refine ⟨_, rfl, bo, _, pss ++ [qs], 16, 16, rfl, hbo21, hpo21, h23n, by lia, hndn, by lia, hbn, hbkn, by decide, by decide, fun st H22 zs1 s22 hst est hzs1 => ?_⟩
  refine ⟨_, rfl, r, xs, pss, 16, 16, rfl, hS12.same (s1221.trans s22), PtsT.same hp12 (s1221.trans s22), h23, by lia, hnd, by lia, hb16, hbk, by decide, by decide, fun su H23 zs2 s23 hsu esu hzs2 => ?_⟩
  have s2123 := s22.trans s23
  have hz2l := hzs2.length
  rw [stepsOf_length] at hz2l
  refine ⟨_, rfl, su, fo, zs2, fz, rfl, rfl, esu, s2123 _ _ efo21, Nat.le_trans (show _ ≤ 300 by lia) (by decide), fun l3 hl3 => ?_⟩
  have s24 := s23.trans (Same.new (o := .lst (zs2 ++ fz)) hl3)
  refine eqL (SqL.of (s24 _ _ est)) (Nums.same hzs1 s24) (SqL.of upd_same) (Nums.same (Paired.append hzs2 (Nums.same hfn21 s2123)) (Same.new (o := .lst (zs2 ++ fz)) hl3)) ?_
  rw [hds, decide_eq_true rfl]
  refine ⟨_, rfl, iteF ?_⟩
  have s2124 := s22.trans s24
  generalize upd H23 l3 (.lst (zs2 ++ fz)) = H24 at s2124 ⊢
  have s1224 := s1221.trans s2124
  have efo24 := s2124 _ _ efo21
  have hfn24 := Nums.same hfn21 s2124
  clear s24 s22 s23 s2123 s2124 hzs1 hzs2 est esu hst hsu hl3 efo21 hfn21 hbo21 hpo21
  refine ⟨_, rfl, fo, fz, rfl, .inl (SqL.of efo24), fun th hth => ?_⟩
  have s25 : Same H24 (upd H24 th (.lst fz)) := Same.new hth
  have eth : (upd H24 th (.lst fz)) th = some (.lst fz) := upd_same
  generalize upd H24 th (.lst fz) = H25 at s25 eth ⊢
  have efo25 := s25 _ _ efo24
  have hfn25 := Nums.same hfn24 s25
  have tf : th ≠ fo := fun z => by rw [z, efo24] at hth; cases hth
  have s1225 := s1224.trans s25
  clear s1224 efo24 hfn24 s25 hth
  refine ⟨_, rfl, .inl ⟨rfl, _, SqL.of efo25⟩, fo, fz, rfl, rfl, efo25, ?_⟩
  have s1226 : Same H12 (upd H25 fo (.lst fz.reverse)) := s1225.put hfo
  have efo26 : (upd H25 fo (.lst fz.reverse)) fo = some (.lst fz.reverse) := upd_same
  have eth26 : (upd H25 fo (.lst fz.reverse)) th = some (.lst fz) := by rw [upd_ne tf]; exact eth
  have hfn26 : Nums K (upd H25 fo (.lst fz.reverse)) fz d := Nums.put hfn25 efo25
  generalize upd H25 fo (.lst fz.reverse) = H26 at s1226 efo26 eth26 hfn26 ⊢
  refine ⟨_, rfl, .inl ⟨rfl, _, SqL.of efo26⟩, P2, fun t7 ht7 => ?_⟩
  have s27 : Same H26 (upd H26 t7 (.tup [.int 7, .int 1])) := Same.new ht7
  have efo27 := s27 _ _ efo26
  refine ⟨fo, fz.reverse, .ref t7, rfl, rfl, efo27, Nat.lt_of_lt_of_le (show _ < 300 by rw [List.length_reverse]; lia) (by decide), ?_⟩
  have s1228 : Same H12 (upd (upd H26 t7 (.tup [.int 7, .int 1])) fo (.lst (fz.reverse ++ [.ref t7]))) := (s1226.trans s27).put hfo
  have eth28 : (upd (upd H26 t7 (.tup [.int 7, .int 1])) fo (.lst (fz.reverse ++ [.ref t7]))) th = some (.lst fz) := by rw [upd_ne tf]; exact s27 _ _ eth26
  have hfn28 : Nums K (upd (upd H26 t7 (.tup [.int 7, .int 1])) fo (.lst (fz.reverse ++ [.ref t7]))) fz d := Nums.put (Nums.same hfn26 s27) efo27
  generalize upd (upd H26 t7 (.tup [.int 7, .int 1])) fo (.lst (fz.reverse ++ [.ref t7])) = H28 at s1228 eth28 hfn28 ⊢
  refine ⟨_, rfl, _, rfl, r, _, xs, pss, qs, 16, 16, rfl, hS12.same s1228, PtsT.same hp12 s1228, hnp.same s1228, h23n, hndn, by lia, hbn, hbkn, by decide, by decide, fun fo2 H29 fz2 s29 hfo2 efo2 hfn2 => ⟨_, rfl, ?_⟩⟩
  rw [← hd] at hfn2
  refine eqL (SqL.of efo2) hfn2 (SqL.of (s29 _ _ eth28)) (Nums.same hfn28 s29) ?_
  refine ⟨_, rfl, iteTc (by rw [decide_eq_true rfl] <;> rfl) ?_⟩
  have s1229 := s1228.trans s29
  refine ⟨_, rfl, _, rfl, ?_⟩
  refine eqTT (hS12.same s1229) (PtsT.same hp12 s1229).pts (hk12.same s1229) (Pts.same hkp12 s1229) ?_
  rw [decide_eq_true rfl]
  exact q _
end
set_option maxHeartbeats 4000000 in
theorem all_mk {l : PySem.W.OpenLaw} {w : World} {K : PySem.W.Frag} {h : Heap} {mg : Str → Option Value} {fa f1 f2 f3 f4 f5 f6 f7 f8 f9 f10 f11 f12 f13 f14 f15 f16 f17 f18 f19 f20 f21 f22 f23 f24 f25 f26 f27 f28 f29 f30 f31 f32 f33 f34 f35 f36 f37 f38 f39 f40 f41 f42 f43 : Addr} (hT : l.prog.given.tree = none) (X : K.In h) (G : h.Ns mainGlobals mg) (hfa : mg "law" = some (.ref fa))
    {od1 an1 od2 an2 od3 an3 od4 an4 od5 an5 od6 an6 od7 an7 od8 an8 od9 an9 od10 an10 od11 an11 od12 an12 od13 an13 od14 an14 od15 an15 od16 an16 od17 an17 od18 an18 od19 an19 od20 an20 od21 an21 od22 an22 od23 an23 od24 an24 od25 an25 od26 an26 od27 an27 od28 an28 od29 an29 od30 an30 od31 an31 od32 an32 od33 an33 od34 an34 od35 an35 od36 an36 od37 an37 od38 an38 od39 an39 od40 an40 od41 an41 od42 an42 od43 an43 : Option Addr} {sl1 sl2 sl3 sl4 sl5 sl6 sl7 sl8 sl9 sl10 sl11 sl12 sl13 sl14 sl15 sl16 sl17 sl18 sl19 sl20 sl21 sl22 sl23 sl24 sl25 sl26 sl27 sl28 sl29 sl30 sl31 sl32 sl33 sl34 sl35 sl36 sl37 sl38 sl39 sl40 sl41 sl42 sl43 : Array (Option Value)} {oc1 kV1 dc1 pm1 cd1 ct1 oc2 kV2 dc2 pm2 cd2 ct2 oc3 kV3 dc3 pm3 cd3 ct3 oc4 kV4 dc4 pm4 cd4 ct4 oc5 kV5 dc5 pm5 cd5 ct5 oc6 kV6 dc6 pm6 cd6 ct6 oc7 kV7 dc7 pm7 cd7 ct7 oc8 kV8 dc8 pm8 cd8 ct8 oc9 kV9 dc9 pm9 cd9 ct9 oc10 kV10 dc10 pm10 cd10 ct10 oc11 kV11 dc11 pm11 cd11 ct11 oc12 kV12 dc12 pm12 cd12 ct12 oc13 kV13 dc13 pm13 cd13 ct13 oc14 kV14 dc14 pm14 cd14 ct14 oc15 kV15 dc15 pm15 cd15 ct15 oc16 kV16 dc16 pm16 cd16 ct16 oc17 kV17 dc17 pm17 cd17 ct17 oc18 kV18 dc18 pm18 cd18 ct18 oc19 kV19 dc19 pm19 cd19 ct19 oc20 kV20 dc20 pm20 cd20 ct20 oc21 kV21 dc21 pm21 cd21 ct21 oc22 kV22 dc22 pm22 cd22 ct22 oc23 kV23 dc23 pm23 cd23 ct23 oc24 kV24 dc24 pm24 cd24 ct24 oc25 kV25 dc25 pm25 cd25 ct25 oc26 kV26 dc26 pm26 cd26 ct26 oc27 kV27 dc27 pm27 cd27 ct27 oc28 kV28 dc28 pm28 cd28 ct28 oc29 kV29 dc29 pm29 cd29 ct29 oc30 kV30 dc30 pm30 cd30 ct30 oc31 kV31 dc31 pm31 cd31 ct31 oc32 kV32 dc32 pm32 cd32 ct32 oc33 kV33 dc33 pm33 cd33 ct33 oc34 kV34 dc34 pm34 cd34 ct34 oc35 kV35 dc35 pm35 cd35 ct35 oc36 kV36 dc36 pm36 cd36 ct36 oc37 kV37 dc37 pm37 cd37 ct37 oc38 kV38 dc38 pm38 cd38 ct38 oc39 kV39 dc39 pm39 cd39 ct39 oc40 kV40 dc40 pm40 cd40 ct40 oc41 kV41 dc41 pm41 cd41 ct41 oc42 kV42 dc42 pm42 cd42 ct42 oc43 kV43 dc43 pm43 cd43 ct43 : Value}
    (a1 : PySem.W.nsIn K mainGlobals "_law_pen" = some (some (.ref f1))) (l1 : K.lookup f1 = some ⟨oc1, od1, .func (PySem.W.fnOf "_law_pen" "_law_pen" (defArgs (top 38)) (defBody (top 38)) (defScope (top 38)) .none kV1 dc1 pm1 an1 cd1 ct1), sl1⟩) (c1 : PySem.W.codeIn K cd1 "_law_pen" = true) (k1 : PySem.W.keepIn K (.ref f1) = true)
    (a2 : PySem.W.nsIn K mainGlobals "_law_lowest" = some (some (.ref f2))) (l2 : K.lookup f2 = some ⟨oc2, od2, .func (PySem.W.fnOf "_law_lowest" "_law_lowest" (defArgs (top 40)) (defBody (top 40)) (defScope (top 40)) .none kV2 dc2 pm2 an2 cd2 ct2), sl2⟩) (c2 : PySem.W.codeIn K cd2 "_law_lowest" = true) (k2 : PySem.W.keepIn K (.ref f2) = true)
    (a3 : PySem.W.nsIn K mainGlobals "_law_draw" = some (some (.ref f3))) (l3 : K.lookup f3 = some ⟨oc3, od3, .func (PySem.W.fnOf "_law_draw" "_law_draw" (defArgs (top 39)) (defBody (top 39)) (defScope (top 39)) .none kV3 dc3 pm3 an3 cd3 ct3), sl3⟩) (c3 : PySem.W.codeIn K cd3 "_law_draw" = true) (k3 : PySem.W.keepIn K (.ref f3) = true)
    (a4 : PySem.W.nsIn K mainGlobals "_law_number" = some (some (.ref f4))) (l4 : K.lookup f4 = some ⟨oc4, od4, .func (PySem.W.fnOf "_law_number" "_law_number" (defArgs (top 44)) (defBody (top 44)) (defScope (top 44)) .none kV4 dc4 pm4 an4 cd4 ct4), sl4⟩) (c4 : PySem.W.codeIn K cd4 "_law_number" = true) (k4 : PySem.W.keepIn K (.ref f4) = true)
    (a5 : PySem.W.nsIn K mainGlobals "_law_plus" = some (some (.ref f5))) (l5 : K.lookup f5 = some ⟨oc5, od5, .func (PySem.W.fnOf "_law_plus" "_law_plus" (defArgs (top 41)) (defBody (top 41)) (defScope (top 41)) .none kV5 dc5 pm5 an5 cd5 ct5), sl5⟩) (c5 : PySem.W.codeIn K cd5 "_law_plus" = true) (k5 : PySem.W.keepIn K (.ref f5) = true)
    (a6 : PySem.W.nsIn K mainGlobals "_law_places" = some (some (.ref f6))) (l6 : K.lookup f6 = some ⟨oc6, od6, .func (PySem.W.fnOf "_law_places" "_law_places" (defArgs (top 47)) (defBody (top 47)) (defScope (top 47)) .none kV6 dc6 pm6 an6 cd6 ct6), sl6⟩) (c6 : PySem.W.codeIn K cd6 "_law_places" = true) (k6 : PySem.W.keepIn K (.ref f6) = true)
    (a7 : PySem.W.nsIn K mainGlobals "_law_points" = some (some (.ref f7))) (l7 : K.lookup f7 = some ⟨oc7, od7, .func (PySem.W.fnOf "_law_points" "_law_points" (defArgs (top 48)) (defBody (top 48)) (defScope (top 48)) .none kV7 dc7 pm7 an7 cd7 ct7), sl7⟩) (c7 : PySem.W.codeIn K cd7 "_law_points" = true) (k7 : PySem.W.keepIn K (.ref f7) = true)
    (a8 : PySem.W.nsIn K mainGlobals "told_in" = some (some (.ref f8))) (l8 : K.lookup f8 = some ⟨oc8, od8, .func (PySem.W.fnOf "told_in" "told_in" (defArgs (top 24)) (defBody (top 24)) (defScope (top 24)) .none kV8 dc8 pm8 an8 cd8 ct8), sl8⟩) (c8 : PySem.W.codeIn K cd8 "told_in" = true) (k8 : PySem.W.keepIn K (.ref f8) = true)
    (a9 : PySem.W.nsIn K mainGlobals "knots_of" = some (some (.ref f9))) (l9 : K.lookup f9 = some ⟨oc9, od9, .func (PySem.W.fnOf "knots_of" "knots_of" (defArgs (top 25)) (defBody (top 25)) (defScope (top 25)) .none kV9 dc9 pm9 an9 cd9 ct9), sl9⟩) (c9 : PySem.W.codeIn K cd9 "knots_of" = true) (k9 : PySem.W.keepIn K (.ref f9) = true)
    (a10 : PySem.W.nsIn K mainGlobals "slopes_in" = some (some (.ref f10))) (l10 : K.lookup f10 = some ⟨oc10, od10, .func (PySem.W.fnOf "slopes_in" "slopes_in" (defArgs (top 28)) (defBody (top 28)) (defScope (top 28)) .none kV10 dc10 pm10 an10 cd10 ct10), sl10⟩) (c10 : PySem.W.codeIn K cd10 "slopes_in" = true) (k10 : PySem.W.keepIn K (.ref f10) = true)
    (a11 : PySem.W.nsIn K mainGlobals "first_row" = some (some (.ref f11))) (l11 : K.lookup f11 = some ⟨oc11, od11, .func (PySem.W.fnOf "first_row" "first_row" (defArgs (top 27)) (defBody (top 27)) (defScope (top 27)) .none kV11 dc11 pm11 an11 cd11 ct11), sl11⟩) (c11 : PySem.W.codeIn K cd11 "first_row" = true) (k11 : PySem.W.keepIn K (.ref f11) = true)
    (a12 : PySem.W.nsIn K mainGlobals "common_measure" = some (some (.ref f12))) (l12 : K.lookup f12 = some ⟨oc12, od12, .func (PySem.W.fnOf "common_measure" "common_measure" (defArgs (top 7)) (defBody (top 7)) (defScope (top 7)) .none kV12 dc12 pm12 an12 cd12 ct12), sl12⟩) (c12 : PySem.W.codeIn K cd12 "common_measure" = true) (k12 : PySem.W.keepIn K (.ref f12) = true)
    (a13 : PySem.W.nsIn K mainGlobals "number_of" = some (some (.ref f13))) (l13 : K.lookup f13 = some ⟨oc13, od13, .func (PySem.W.fnOf "number_of" "number_of" (defArgs (top 9)) (defBody (top 9)) (defScope (top 9)) .none kV13 dc13 pm13 an13 cd13 ct13), sl13⟩) (c13 : PySem.W.codeIn K cd13 "number_of" = true) (k13 : PySem.W.keepIn K (.ref f13) = true)
    (a14 : PySem.W.nsIn K mainGlobals "over" = some (some (.ref f14))) (l14 : K.lookup f14 = some ⟨oc14, od14, .func (PySem.W.fnOf "over" "over" (defArgs (top 11)) (defBody (top 11)) (defScope (top 11)) .none kV14 dc14 pm14 an14 cd14 ct14), sl14⟩) (c14 : PySem.W.codeIn K cd14 "over" = true) (k14 : PySem.W.keepIn K (.ref f14) = true)
    (a15 : PySem.W.nsIn K mainGlobals "minus" = some (some (.ref f15))) (l15 : K.lookup f15 = some ⟨oc15, od15, .func (PySem.W.fnOf "minus" "minus" (defArgs (top 10)) (defBody (top 10)) (defScope (top 10)) .none kV15 dc15 pm15 an15 cd15 ct15), sl15⟩) (c15 : PySem.W.codeIn K cd15 "minus" = true) (k15 : PySem.W.keepIn K (.ref f15) = true)
    (a16 : PySem.W.nsIn K mainGlobals "next_row" = some (some (.ref f16))) (l16 : K.lookup f16 = some ⟨oc16, od16, .func (PySem.W.fnOf "next_row" "next_row" (defArgs (top 29)) (defBody (top 29)) (defScope (top 29)) .none kV16 dc16 pm16 an16 cd16 ct16), sl16⟩) (c16 : PySem.W.codeIn K cd16 "next_row" = true) (k16 : PySem.W.keepIn K (.ref f16) = true)
    (a17 : PySem.W.nsIn K mainGlobals "table_of" = some (some (.ref f17))) (l17 : K.lookup f17 = some ⟨oc17, od17, .func (PySem.W.fnOf "table_of" "table_of" (defArgs (top 30)) (defBody (top 30)) (defScope (top 30)) .none kV17 dc17 pm17 an17 cd17 ct17), sl17⟩) (c17 : PySem.W.codeIn K cd17 "table_of" = true) (k17 : PySem.W.keepIn K (.ref f17) = true)
    (a18 : PySem.W.nsIn K mainGlobals "steps_of" = some (some (.ref f18))) (l18 : K.lookup f18 = some ⟨oc18, od18, .func (PySem.W.fnOf "steps_of" "steps_of" (defArgs (top 31)) (defBody (top 31)) (defScope (top 31)) .none kV18 dc18 pm18 an18 cd18 ct18), sl18⟩) (c18 : PySem.W.codeIn K cd18 "steps_of" = true) (k18 : PySem.W.keepIn K (.ref f18) = true)
    (a19 : PySem.W.nsIn K mainGlobals "are_unlike" = some (some (.ref f19))) (l19 : K.lookup f19 = some ⟨oc19, od19, .func (PySem.W.fnOf "are_unlike" "are_unlike" (defArgs (top 22)) (defBody (top 22)) (defScope (top 22)) .none kV19 dc19 pm19 an19 cd19 ct19), sl19⟩) (c19 : PySem.W.codeIn K cd19 "are_unlike" = true) (k19 : PySem.W.keepIn K (.ref f19) = true)
    (a20 : PySem.W.nsIn K mainGlobals "is_whole" = some (some (.ref f20))) (l20 : K.lookup f20 = some ⟨oc20, od20, .func (PySem.W.fnOf "is_whole" "is_whole" (defArgs (top 6)) (defBody (top 6)) (defScope (top 6)) .none kV20 dc20 pm20 an20 cd20 ct20), sl20⟩) (c20 : PySem.W.codeIn K cd20 "is_whole" = true) (k20 : PySem.W.keepIn K (.ref f20) = true)
    (a21 : PySem.W.nsIn K mainGlobals "is_number" = some (some (.ref f21))) (l21 : K.lookup f21 = some ⟨oc21, od21, .func (PySem.W.fnOf "is_number" "is_number" (defArgs (top 8)) (defBody (top 8)) (defScope (top 8)) .none kV21 dc21 pm21 an21 cd21 ct21), sl21⟩) (c21 : PySem.W.codeIn K cd21 "is_number" = true) (k21 : PySem.W.keepIn K (.ref f21) = true)
    (a22 : PySem.W.nsIn K mainGlobals "is_point" = some (some (.ref f22))) (l22 : K.lookup f22 = some ⟨oc22, od22, .func (PySem.W.fnOf "is_point" "is_point" (defArgs (top 21)) (defBody (top 21)) (defScope (top 21)) .none kV22 dc22 pm22 an22 cd22 ct22), sl22⟩) (c22 : PySem.W.codeIn K cd22 "is_point" = true) (k22 : PySem.W.keepIn K (.ref f22) = true)
    (a23 : PySem.W.nsIn K mainGlobals "points_of" = some (some (.ref f23))) (l23 : K.lookup f23 = some ⟨oc23, od23, .func (PySem.W.fnOf "points_of" "points_of" (defArgs (top 23)) (defBody (top 23)) (defScope (top 23)) .none kV23 dc23 pm23 an23 cd23 ct23), sl23⟩) (c23 : PySem.W.codeIn K cd23 "points_of" = true) (k23 : PySem.W.keepIn K (.ref f23) = true)
    (a24 : PySem.W.nsIn K mainGlobals "put_in" = some (some (.ref f24))) (l24 : K.lookup f24 = some ⟨oc24, od24, .func (PySem.W.fnOf "put_in" "put_in" (defArgs (top 35)) (defBody (top 35)) (defScope (top 35)) .none kV24 dc24 pm24 an24 cd24 ct24), sl24⟩) (c24 : PySem.W.codeIn K cd24 "put_in" = true) (k24 : PySem.W.keepIn K (.ref f24) = true)
    (a25 : PySem.W.nsIn K mainGlobals "new_steps" = some (some (.ref f25))) (l25 : K.lookup f25 = some ⟨oc25, od25, .func (PySem.W.fnOf "new_steps" "new_steps" (defArgs (top 36)) (defBody (top 36)) (defScope (top 36)) .none kV25 dc25 pm25 an25 cd25 ct25), sl25⟩) (c25 : PySem.W.codeIn K cd25 "new_steps" = true) (k25 : PySem.W.keepIn K (.ref f25) = true)
    (a26 : PySem.W.nsIn K mainGlobals "_law_told" = some (some (.ref f26))) (l26 : K.lookup f26 = some ⟨oc26, od26, .func (PySem.W.fnOf "_law_told" "_law_told" (defArgs (top 49)) (defBody (top 49)) (defScope (top 49)) .none kV26 dc26 pm26 an26 cd26 ct26), sl26⟩) (c26 : PySem.W.codeIn K cd26 "_law_told" = true) (k26 : PySem.W.keepIn K (.ref f26) = true)
    (a27 : PySem.W.nsIn K mainGlobals "_law_times" = some (some (.ref f27))) (l27 : K.lookup f27 = some ⟨oc27, od27, .func (PySem.W.fnOf "_law_times" "_law_times" (defArgs (top 43)) (defBody (top 43)) (defScope (top 43)) .none kV27 dc27 pm27 an27 cd27 ct27), sl27⟩) (c27 : PySem.W.codeIn K cd27 "_law_times" = true) (k27 : PySem.W.keepIn K (.ref f27) = true)
    (a28 : PySem.W.nsIn K mainGlobals "_law_at" = some (some (.ref f28))) (l28 : K.lookup f28 = some ⟨oc28, od28, .func (PySem.W.fnOf "_law_at" "_law_at" (defArgs (top 45)) (defBody (top 45)) (defScope (top 45)) .none kV28 dc28 pm28 an28 cd28 ct28), sl28⟩) (c28 : PySem.W.codeIn K cd28 "_law_at" = true) (k28 : PySem.W.keepIn K (.ref f28) = true)
    (a29 : PySem.W.nsIn K mainGlobals "_law_slope_at" = some (some (.ref f29))) (l29 : K.lookup f29 = some ⟨oc29, od29, .func (PySem.W.fnOf "_law_slope_at" "_law_slope_at" (defArgs (top 46)) (defBody (top 46)) (defScope (top 46)) .none kV29 dc29 pm29 an29 cd29 ct29), sl29⟩) (c29 : PySem.W.codeIn K cd29 "_law_slope_at" = true) (k29 : PySem.W.keepIn K (.ref f29) = true)
    (a30 : PySem.W.nsIn K mainGlobals "_law_missed" = some (some (.ref f30))) (l30 : K.lookup f30 = some ⟨oc30, od30, .func (PySem.W.fnOf "_law_missed" "_law_missed" (defArgs (top 50)) (defBody (top 50)) (defScope (top 50)) .none kV30 dc30 pm30 an30 cd30 ct30), sl30⟩) (c30 : PySem.W.codeIn K cd30 "_law_missed" = true) (k30 : PySem.W.keepIn K (.ref f30) = true)
    (a31 : PySem.W.nsIn K mainGlobals "_law_product" = some (some (.ref f31))) (l31 : K.lookup f31 = some ⟨oc31, od31, .func (PySem.W.fnOf "_law_product" "_law_product" (defArgs (top 53)) (defBody (top 53)) (defScope (top 53)) .none kV31 dc31 pm31 an31 cd31 ct31), sl31⟩) (c31 : PySem.W.codeIn K cd31 "_law_product" = true) (k31 : PySem.W.keepIn K (.ref f31) = true)
    (a32 : PySem.W.nsIn K mainGlobals "_law_minus" = some (some (.ref f32))) (l32 : K.lookup f32 = some ⟨oc32, od32, .func (PySem.W.fnOf "_law_minus" "_law_minus" (defArgs (top 42)) (defBody (top 42)) (defScope (top 42)) .none kV32 dc32 pm32 an32 cd32 ct32), sl32⟩) (c32 : PySem.W.codeIn K cd32 "_law_minus" = true) (k32 : PySem.W.keepIn K (.ref f32) = true)
    (a33 : PySem.W.nsIn K mainGlobals "_law_behind" = some (some (.ref f33))) (l33 : K.lookup f33 = some ⟨oc33, od33, .func (PySem.W.fnOf "_law_behind" "_law_behind" (defArgs (top 54)) (defBody (top 54)) (defScope (top 54)) .none kV33 dc33 pm33 an33 cd33 ct33), sl33⟩) (c33 : PySem.W.codeIn K cd33 "_law_behind" = true) (k33 : PySem.W.keepIn K (.ref f33) = true)
    (a34 : PySem.W.nsIn K mainGlobals "bottom_of" = some (some (.ref f34))) (l34 : K.lookup f34 = some ⟨oc34, od34, .func (PySem.W.fnOf "bottom_of" "bottom_of" (defArgs (top 15)) (defBody (top 15)) (defScope (top 15)) .none kV34 dc34 pm34 an34 cd34 ct34), sl34⟩) (c34 : PySem.W.codeIn K cd34 "bottom_of" = true) (k34 : PySem.W.keepIn K (.ref f34) = true)
    (a35 : PySem.W.nsIn K mainGlobals "tops_over" = some (some (.ref f35))) (l35 : K.lookup f35 = some ⟨oc35, od35, .func (PySem.W.fnOf "tops_over" "tops_over" (defArgs (top 16)) (defBody (top 16)) (defScope (top 16)) .none kV35 dc35 pm35 an35 cd35 ct35), sl35⟩) (c35 : PySem.W.codeIn K cd35 "tops_over" = true) (k35 : PySem.W.keepIn K (.ref f35) = true)
    (a36 : PySem.W.nsIn K mainGlobals "curve_of" = some (some (.ref f36))) (l36 : K.lookup f36 = some ⟨oc36, od36, .func (PySem.W.fnOf "curve_of" "curve_of" (defArgs (top 14)) (defBody (top 14)) (defScope (top 14)) .none kV36 dc36 pm36 an36 cd36 ct36), sl36⟩) (c36 : PySem.W.codeIn K cd36 "curve_of" = true) (k36 : PySem.W.keepIn K (.ref f36) = true)
    (a37 : PySem.W.nsIn K mainGlobals "curve_over" = some (some (.ref f37))) (l37 : K.lookup f37 = some ⟨oc37, od37, .func (PySem.W.fnOf "curve_over" "curve_over" (defArgs (top 17)) (defBody (top 17)) (defScope (top 17)) .none kV37 dc37 pm37 an37 cd37 ct37), sl37⟩) (c37 : PySem.W.codeIn K cd37 "curve_over" = true) (k37 : PySem.W.keepIn K (.ref f37) = true)
    (a38 : PySem.W.nsIn K mainGlobals "whole_product" = some (some (.ref f38))) (l38 : K.lookup f38 = some ⟨oc38, od38, .func (PySem.W.fnOf "whole_product" "whole_product" (defArgs (top 18)) (defBody (top 18)) (defScope (top 18)) .none kV38 dc38 pm38 an38 cd38 ct38), sl38⟩) (c38 : PySem.W.codeIn K cd38 "whole_product" = true) (k38 : PySem.W.keepIn K (.ref f38) = true)
    (a39 : PySem.W.nsIn K mainGlobals "by_steps" = some (some (.ref f39))) (l39 : K.lookup f39 = some ⟨oc39, od39, .func (PySem.W.fnOf "by_steps" "by_steps" (defArgs (top 32)) (defBody (top 32)) (defScope (top 32)) .none kV39 dc39 pm39 an39 cd39 ct39), sl39⟩) (c39 : PySem.W.codeIn K cd39 "by_steps" = true) (k39 : PySem.W.keepIn K (.ref f39) = true)
    (a40 : PySem.W.nsIn K mainGlobals "curve_through" = some (some (.ref f40))) (l40 : K.lookup f40 = some ⟨oc40, od40, .func (PySem.W.fnOf "curve_through" "curve_through" (defArgs (top 33)) (defBody (top 33)) (defScope (top 33)) .none kV40 dc40 pm40 an40 cd40 ct40), sl40⟩) (c40 : PySem.W.codeIn K cd40 "curve_through" = true) (k40 : PySem.W.keepIn K (.ref f40) = true)
    (a41 : PySem.W.nsIn K mainGlobals "_law_whole" = some (some (.ref f41))) (l41 : K.lookup f41 = some ⟨oc41, od41, .func (PySem.W.fnOf "_law_whole" "_law_whole" (defArgs (top 51)) (defBody (top 51)) (defScope (top 51)) .none kV41 dc41 pm41 an41 cd41 ct41), sl41⟩) (c41 : PySem.W.codeIn K cd41 "_law_whole" = true) (k41 : PySem.W.keepIn K (.ref f41) = true)
    (a42 : PySem.W.nsIn K mainGlobals "_law_is_number" = some (some (.ref f42))) (l42 : K.lookup f42 = some ⟨oc42, od42, .func (PySem.W.fnOf "_law_is_number" "_law_is_number" (defArgs (top 52)) (defBody (top 52)) (defScope (top 52)) .none kV42 dc42 pm42 an42 cd42 ct42), sl42⟩) (c42 : PySem.W.codeIn K cd42 "_law_is_number" = true) (k42 : PySem.W.keepIn K (.ref f42) = true)
    (a43 : PySem.W.nsIn K mainGlobals "law" = some (some (.ref f43))) (l43 : K.lookup f43 = some ⟨oc43, od43, .func (PySem.W.fnOf "law" "law" (defArgs (top 55)) (defBody (top 55)) (defScope (top 55)) .none kV43 dc43 pm43 an43 cd43 ct43), sl43⟩) (c43 : PySem.W.codeIn K cd43 "law" = true) (k43 : PySem.W.keepIn K (.ref f43) = true)
    (z_len : PySem.W.nsIn K mainGlobals "len" = some none)
    (z_abs : PySem.W.nsIn K mainGlobals "abs" = some none)
    (z_range : PySem.W.nsIn K mainGlobals "range" = some none)
    (z_tuple : PySem.W.nsIn K mainGlobals "tuple" = some none)
    (z_set : PySem.W.nsIn K mainGlobals "set" = some none)
    (z_isinstance : PySem.W.nsIn K mainGlobals "isinstance" = some none)
    (z_int : PySem.W.nsIn K mainGlobals "int" = some none)
    (z_bool : PySem.W.nsIn K mainGlobals "bool" = some none)
    (z_all : PySem.W.nsIn K mainGlobals "all" = some none)
    (z_list : PySem.W.nsIn K mainGlobals "list" = some none)
    {t_MOST_TOLD : Tok} (x_MOST_TOLD : PySem.W.nsIn K mainGlobals "MOST_TOLD" = some (some (.int 12 t_MOST_TOLD)))
    {g_NOUGHT : Addr} {o_NOUGHT : Obj} {v_NOUGHT : Array Value} {m_NOUGHT : Nat} (x_NOUGHT : PySem.W.nsIn K mainGlobals "NOUGHT" = some (some (.ref g_NOUGHT))) (y_NOUGHT : K.lookup g_NOUGHT = some o_NOUGHT) (w_NOUGHT : o_NOUGHT.cls = .type "tuple") (d_NOUGHT : o_NOUGHT.data = .seq v_NOUGHT m_NOUGHT) (e_NOUGHT : v_NOUGHT.toList.map absV = [some (.int (0 : Rat).num), some (.int ((0 : Rat).den : Int))]) :
    ∃ fd : FuncData, (∀ (s : Shared) (v : Value), BindsTo s fd ⟨[v], []⟩ [("_law_script", v)]) ∧ ∀ base : Heap, K.In base → base.Ns mainGlobals mg → FnOk l.prog w K mg base CX0 40 fa fd ["_law_script"] (spLaw K) := by
  have e := hfa.symm.trans (PySem.W.mg_of X G a43)
  cases e
  have b_len := PySem.W.mg_none_of X G z_len
  have b_abs := PySem.W.mg_none_of X G z_abs
  have b_range := PySem.W.mg_none_of X G z_range
  have b_tuple := PySem.W.mg_none_of X G z_tuple
  have b_set := PySem.W.mg_none_of X G z_set
  have b_isinstance := PySem.W.mg_none_of X G z_isinstance
  have b_int := PySem.W.mg_none_of X G z_int
  have b_bool := PySem.W.mg_none_of X G z_bool
  have b_all := PySem.W.mg_none_of X G z_all
  have b_list := PySem.W.mg_none_of X G z_list
  have c_MOST_TOLD := PySem.W.mg_of X G x_MOST_TOLD
  have c_NOUGHT := PySem.W.mg_of X G x_NOUGHT
  have n_NOUGHT : ∀ H : Hp, NumV K H (.ref g_NOUGHT) (0) := fun H => ⟨_, rfl, const_num y_NOUGHT w_NOUGHT d_NOUGHT e_NOUGHT⟩
  have F1 := fun_mk (st := top 38) l1 c1 k1
  have B1 := Fun.binds2 "_law_script" "_law_k" F1 fun _ _ _ _ _ _ _ _ => rfl
  have F2 := fun_mk (st := top 40) l2 c2 k2
  have B2 := Fun.binds2 "_law_top" "_law_bottom" F2 fun _ _ _ _ _ _ _ _ => rfl
  have F3 := fun_mk (st := top 39) l3 c3 k3
  have B3 := Fun.binds2 "_law_pen_here" "_law_many" F3 fun _ _ _ _ _ _ _ _ => rfl
  have F4 := fun_mk (st := top 44) l4 c4 k4
  have B4 := Fun.binds1 "_law_pen_here" F4 fun _ _ _ _ _ _ _ => rfl
  have F5 := fun_mk (st := top 41) l5 c5 k5
  have B5 := Fun.binds2 "_law_a" "_law_b" F5 fun _ _ _ _ _ _ _ _ => rfl
  have F6 := fun_mk (st := top 47) l6 c6 k6
  have B6 := Fun.binds2 "_law_pen_here" "_law_many" F6 fun _ _ _ _ _ _ _ _ => rfl
  have F7 := fun_mk (st := top 48) l7 c7 k7
  have B7 := Fun.binds2 "_law_pen_here" "_law_most" F7 fun _ _ _ _ _ _ _ _ => rfl
  have F8 := fun_mk (st := top 24) l8 c8 k8
  have B8 := Fun.binds1 "points" F8 fun _ _ _ _ _ _ _ => rfl
  have F9 := fun_mk (st := top 25) l9 c9 k9
  have B9 := Fun.binds1 "points" F9 fun _ _ _ _ _ _ _ => rfl
  have F10 := fun_mk (st := top 28) l10 c10 k10
  have B10 := Fun.binds1 "points" F10 fun _ _ _ _ _ _ _ => rfl
  have F11 := fun_mk (st := top 27) l11 c11 k11
  have B11 := Fun.binds1 "points" F11 fun _ _ _ _ _ _ _ => rfl
  have F12 := fun_mk (st := top 7) l12 c12 k12
  have B12 := Fun.binds2 "one" "other" F12 fun _ _ _ _ _ _ _ _ => rfl
  have F13 := fun_mk (st := top 9) l13 c13 k13
  have B13 := Fun.binds2 "top" "bottom" F13 fun _ _ _ _ _ _ _ _ => rfl
  have F14 := fun_mk (st := top 11) l14 c14 k14
  have B14 := Fun.binds2 "a" "b" F14 fun _ _ _ _ _ _ _ _ => rfl
  have F15 := fun_mk (st := top 10) l15 c15 k15
  have B15 := Fun.binds2 "a" "b" F15 fun _ _ _ _ _ _ _ _ => rfl
  have F16 := fun_mk (st := top 29) l16 c16 k16
  have B16 := Fun.binds4 "ahead" "knots" "slopes" "k" F16 fun _ _ _ _ _ _ _ _ _ _ => rfl
  have F17 := fun_mk (st := top 30) l17 c17 k17
  have B17 := Fun.binds1 "points" F17 fun _ _ _ _ _ _ _ => rfl
  have F18 := fun_mk (st := top 31) l18 c18 k18
  have B18 := Fun.binds1 "points" F18 fun _ _ _ _ _ _ _ => rfl
  have F19 := fun_mk (st := top 22) l19 c19 k19
  have B19 := Fun.binds1 "places" F19 fun _ _ _ _ _ _ _ => rfl
  have F20 := fun_mk (st := top 6) l20 c20 k20
  have B20 := Fun.binds1 "thing" F20 fun _ _ _ _ _ _ _ => rfl
  have F21 := fun_mk (st := top 8) l21 c21 k21
  have B21 := Fun.binds1 "thing" F21 fun _ _ _ _ _ _ _ => rfl
  have F22 := fun_mk (st := top 21) l22 c22 k22
  have B22 := Fun.binds1 "thing" F22 fun _ _ _ _ _ _ _ => rfl
  have F23 := fun_mk (st := top 23) l23 c23 k23
  have B23 := Fun.binds1 "thing" F23 fun _ _ _ _ _ _ _ => rfl
  have F24 := fun_mk (st := top 35) l24 c24 k24
  have B24 := Fun.binds2 "points" "point" F24 fun _ _ _ _ _ _ _ _ => rfl
  have F25 := fun_mk (st := top 36) l25 c25 k25
  have B25 := Fun.binds2 "points" "point" F25 fun _ _ _ _ _ _ _ _ => rfl
  have F26 := fun_mk (st := top 49) l26 c26 k26
  have B26 := Fun.binds1 "_law_points_here" F26 fun _ _ _ _ _ _ _ => rfl
  have F27 := fun_mk (st := top 43) l27 c27 k27
  have B27 := Fun.binds2 "_law_a" "_law_b" F27 fun _ _ _ _ _ _ _ _ => rfl
  have F28 := fun_mk (st := top 45) l28 c28 k28
  have B28 := Fun.binds2 "_law_curve" "_law_x" F28 fun _ _ _ _ _ _ _ _ => rfl
  have F29 := fun_mk (st := top 46) l29 c29 k29
  have B29 := Fun.binds2 "_law_curve" "_law_x" F29 fun _ _ _ _ _ _ _ _ => rfl
  have F30 := fun_mk (st := top 50) l30 c30 k30
  have B30 := Fun.binds2 "_law_points_here" "_law_curve" F30 fun _ _ _ _ _ _ _ _ => rfl
  have F31 := fun_mk (st := top 53) l31 c31 k31
  have B31 := Fun.binds2 "_law_one" "_law_other" F31 fun _ _ _ _ _ _ _ _ => rfl
  have F32 := fun_mk (st := top 42) l32 c32 k32
  have B32 := Fun.binds2 "_law_a" "_law_b" F32 fun _ _ _ _ _ _ _ _ => rfl
  have F33 := fun_mk (st := top 54) l33 c33 k33
  have B33 := Fun.binds3 "_law_curve" "_law_knots" "_law_some" F33 fun _ _ _ _ _ _ _ _ _ => rfl
  have F34 := fun_mk (st := top 15) l34 c34 k34
  have B34 := Fun.binds1 "numbers" F34 fun _ _ _ _ _ _ _ => rfl
  have F35 := fun_mk (st := top 16) l35 c35 k35
  have B35 := Fun.binds2 "numbers" "bottom" F35 fun _ _ _ _ _ _ _ _ => rfl
  have F36 := fun_mk (st := top 14) l36 c36 k36
  have B36 := Fun.binds1 "numbers" F36 fun _ _ _ _ _ _ _ => rfl
  have F37 := fun_mk (st := top 17) l37 c37 k37
  have B37 := Fun.binds2 "tops" "bottom" F37 fun _ _ _ _ _ _ _ _ => rfl
  have F38 := fun_mk (st := top 18) l38 c38 k38
  have B38 := Fun.binds2 "first" "second" F38 fun _ _ _ _ _ _ _ _ => rfl
  have F39 := fun_mk (st := top 32) l39 c39 k39
  have B39 := Fun.binds2 "knots" "steps" F39 fun _ _ _ _ _ _ _ _ => rfl
  have F40 := fun_mk (st := top 33) l40 c40 k40
  have B40 := Fun.binds1 "points" F40 fun _ _ _ _ _ _ _ => rfl
  have F41 := fun_mk (st := top 51) l41 c41 k41
  have B41 := Fun.binds1 "_law_thing" F41 fun _ _ _ _ _ _ _ => rfl
  have F42 := fun_mk (st := top 52) l42 c42 k42
  have B42 := Fun.binds1 "_law_thing" F42 fun _ _ _ _ _ _ _ => rfl
  have F43 := fun_mk (st := top 55) l43 c43 k43
  refine ⟨PySem.W.fnOf "law" "law" (defArgs (top 55)) (defBody (top 55)) (defScope (top 55)) .none kV43 dc43 pm43 an43 cd43 ct43, fun s v => .of_eq rfl, fun base _ _ => ?_⟩
  have E__law_pen : Fd l.prog w K mg base 33 "_law_pen" ["_law_script", "_law_k"] (spPen K) := ⟨_, _, ok__law_pen F1 b_len hT, B1, k1, PySem.W.mg_of X G a1⟩
  have E__law_lowest : Fd l.prog w K mg base 33 "_law_lowest" ["_law_top", "_law_bottom"] (spLow) := ⟨_, _, ok__law_lowest F2 b_abs hT, B2, k2, PySem.W.mg_of X G a2⟩
  have E__law_draw : Fd l.prog w K mg base 33 "_law_draw" ["_law_pen_here", "_law_many"] (spDraw) := ⟨_, _, ok__law_draw F3 hT, B3, k3, PySem.W.mg_of X G a3⟩
  have E__law_number : Fd l.prog w K mg base 34 "_law_number" ["_law_pen_here"] (spNum 8) := ⟨_, _, ok__law_number F4 E__law_lowest E__law_draw hT, B4, k4, PySem.W.mg_of X G a4⟩
  have E__law_plus : Fd l.prog w K mg base 34 "_law_plus" ["_law_a", "_law_b"] (spBin K (· + ·)) := ⟨_, _, ok__law_plus F5 E__law_lowest hT, B5, k5, PySem.W.mg_of X G a5⟩
  have E__law_places : Fd l.prog w K mg base 35 "_law_places" ["_law_pen_here", "_law_many"] (spPlacesT K 8) := ⟨_, _, ok__law_places F6 E__law_number E__law_plus b_range hT, B6, k6, PySem.W.mg_of X G a6⟩
  have E__law_points : Fd l.prog w K mg base 36 "_law_points" ["_law_pen_here", "_law_most"] (spPointsT K 8) := ⟨_, _, ok__law_points F7 E__law_places E__law_draw E__law_number b_tuple hT, B7, k7, PySem.W.mg_of X G a7⟩
  have E_told_in : Fd l.prog w K mg base 33 "told_in" ["points"] (spToldT K) := ⟨_, _, ok_told_in F8 b_range b_len hT, B8, k8, PySem.W.mg_of X G a8⟩
  have E_knots_of : Fd l.prog w K mg base 34 "knots_of" ["points"] (spKnotsT K) := ⟨_, _, ok_knots_of F9 E_told_in hT, B9, k9, PySem.W.mg_of X G a9⟩
  have E_slopes_in : Fd l.prog w K mg base 33 "slopes_in" ["points"] (spSlopes K) := ⟨_, _, ok_slopes_in F10 b_len hT, B10, k10, PySem.W.mg_of X G a10⟩
  have E_first_row : Fd l.prog w K mg base 33 "first_row" ["points"] (spRow0 K) := ⟨_, _, ok_first_row F11 b_len hT, B11, k11, PySem.W.mg_of X G a11⟩
  have E_common_measure : Fd l.prog w K mg base 33 "common_measure" ["one", "other"] (spGcd) := ⟨_, _, ok_common_measure F12 b_abs hT, B12, k12, PySem.W.mg_of X G a12⟩
  have E_number_of : Fd l.prog w K mg base 34 "number_of" ["top", "bottom"] (spLow) := ⟨_, _, ok_number_of F13 E_common_measure hT, B13, k13, PySem.W.mg_of X G a13⟩
  have E_over : Fd l.prog w K mg base 35 "over" ["a", "b"] (spOver K) := ⟨_, _, ok_over F14 E_number_of hT, B14, k14, PySem.W.mg_of X G a14⟩
  have E_minus : Fd l.prog w K mg base 35 "minus" ["a", "b"] (spBin K (· - ·)) := ⟨_, _, ok_minus F15 E_number_of hT, B15, k15, PySem.W.mg_of X G a15⟩
  have E_next_row : Fd l.prog w K mg base 36 "next_row" ["ahead", "knots", "slopes", "k"] (spNextRow K) := ⟨_, _, ok_next_row F16 E_over E_minus b_range b_len hT, B16, k16, PySem.W.mg_of X G a16⟩
  have E_table_of : Fd l.prog w K mg base 37 "table_of" ["points"] (spTable K) := ⟨_, _, ok_table_of F17 E_knots_of E_slopes_in E_first_row E_next_row b_range b_len hT, B17, k17, PySem.W.mg_of X G a17⟩
  have E_steps_of : Fd l.prog w K mg base 38 "steps_of" ["points"] (spSteps K) := ⟨_, _, ok_steps_of F18 E_table_of hT, B18, k18, PySem.W.mg_of X G a18⟩
  have E_are_unlike : Fd l.prog w K mg base 33 "are_unlike" ["places"] (spUnlike K) := ⟨_, _, ok_are_unlike F19 b_len b_set hT, B19, k19, PySem.W.mg_of X G a19⟩
  have E_is_whole : Fd l.prog w K mg base 33 "is_whole" ["thing"] (spWhole K) := ⟨_, _, ok_is_whole F20 b_isinstance b_int b_bool hT, B20, k20, PySem.W.mg_of X G a20⟩
  have E_is_number : Fd l.prog w K mg base 34 "is_number" ["thing"] (spIsN K) := ⟨_, _, ok_is_number F21 E_is_whole E_common_measure b_isinstance b_tuple b_len hT, B21, k21, PySem.W.mg_of X G a21⟩
  have E_is_point : Fd l.prog w K mg base 35 "is_point" ["thing"] (spIsPt K) := ⟨_, _, ok_is_point F22 E_is_number b_all b_isinstance b_tuple b_len hT, B22, k22, PySem.W.mg_of X G a22⟩
  have E_points_of : Fd l.prog w K mg base 36 "points_of" ["thing"] (spPtsOf K) := ⟨_, _, ok_points_of F23 E_are_unlike E_told_in E_is_point b_tuple b_all b_len b_isinstance b_list c_MOST_TOLD hT, B23, k23, PySem.W.mg_of X G a23⟩
  have E_put_in : Fd l.prog w K mg base 37 "put_in" ["points", "point"] (spPutIn K) := ⟨_, _, ok_put_in F24 E_points_of b_list hT, B24, k24, PySem.W.mg_of X G a24⟩
  have E_new_steps : Fd l.prog w K mg base 39 "new_steps" ["points", "point"] (spNewSteps K) := ⟨_, _, ok_new_steps F25 E_steps_of E_put_in E_told_in b_len hT, B25, k25, PySem.W.mg_of X G a25⟩
  have E__law_told : Fd l.prog w K mg base 33 "_law_told" ["_law_points_here"] (spToldS K) := ⟨_, _, ok__law_told F26 b_len hT, B26, k26, PySem.W.mg_of X G a26⟩
  have E__law_times : Fd l.prog w K mg base 34 "_law_times" ["_law_a", "_law_b"] (spBin K (· * ·)) := ⟨_, _, ok__law_times F27 E__law_lowest hT, B27, k27, PySem.W.mg_of X G a27⟩
  have E__law_at : Fd l.prog w K mg base 35 "_law_at" ["_law_curve", "_law_x"] (spAt2 K) := ⟨_, _, ok__law_at F28 E__law_plus E__law_times hT, B28, k28, PySem.W.mg_of X G a28⟩
  have E__law_slope_at : Fd l.prog w K mg base 36 "_law_slope_at" ["_law_curve", "_law_x"] (spSlopeAt3 K) := ⟨_, _, ok__law_slope_at F29 E__law_at E__law_times b_range b_len hT, B29, k29, PySem.W.mg_of X G a29⟩
  have E__law_missed : Fd l.prog w K mg base 37 "_law_missed" ["_law_points_here", "_law_curve"] (spMissed3 K) := ⟨_, _, ok__law_missed F30 E__law_told E__law_at E__law_slope_at hT, B30, k30, PySem.W.mg_of X G a30⟩
  have E__law_product : Fd l.prog w K mg base 35 "_law_product" ["_law_one", "_law_other"] (spProdL K) := ⟨_, _, ok__law_product F31 E__law_plus E__law_times b_range b_len hT, B31, k31, PySem.W.mg_of X G a31⟩
  have E__law_minus : Fd l.prog w K mg base 34 "_law_minus" ["_law_a", "_law_b"] (spBin K (· - ·)) := ⟨_, _, ok__law_minus F32 E__law_lowest hT, B32, k32, PySem.W.mg_of X G a32⟩
  have E__law_behind : Fd l.prog w K mg base 36 "_law_behind" ["_law_curve", "_law_knots", "_law_some"] (spBehind K) := ⟨_, _, ok__law_behind F33 E__law_product E__law_plus E__law_minus E__law_times b_list b_range b_len hT, B33, k33, PySem.W.mg_of X G a33⟩
  have E_bottom_of : Fd l.prog w K mg base 34 "bottom_of" ["numbers"] (spBot K) := ⟨_, _, ok_bottom_of F34 E_common_measure hT, B34, k34, PySem.W.mg_of X G a34⟩
  have E_tops_over : Fd l.prog w K mg base 33 "tops_over" ["numbers", "bottom"] (spTops K) := ⟨_, _, ok_tops_over F35 hT, B35, k35, PySem.W.mg_of X G a35⟩
  have E_curve_of : Fd l.prog w K mg base 33 "curve_of" ["numbers"] (spCurveOf K) := ⟨_, _, ok_curve_of F36 b_len b_tuple c_NOUGHT n_NOUGHT hT, B36, k36, PySem.W.mg_of X G a36⟩
  have E_curve_over : Fd l.prog w K mg base 35 "curve_over" ["tops", "bottom"] (spCurveOver K) := ⟨_, _, ok_curve_over F37 E_curve_of E_number_of hT, B37, k37, PySem.W.mg_of X G a37⟩
  have E_whole_product : Fd l.prog w K mg base 33 "whole_product" ["first", "second"] (spProd K) := ⟨_, _, ok_whole_product F38 b_range b_len hT, B38, k38, PySem.W.mg_of X G a38⟩
  have E_by_steps : Fd l.prog w K mg base 36 "by_steps" ["knots", "steps"] (spBySteps K) := ⟨_, _, ok_by_steps F39 E_bottom_of E_tops_over E_curve_over E_whole_product b_range b_len hT, B39, k39, PySem.W.mg_of X G a39⟩
  have E_curve_through : Fd l.prog w K mg base 39 "curve_through" ["points"] (spThru K) := ⟨_, _, ok_curve_through F40 E_by_steps E_knots_of E_steps_of hT, B40, k40, PySem.W.mg_of X G a40⟩
  have E__law_whole : Fd l.prog w K mg base 33 "_law_whole" ["_law_thing"] (spWhole K) := ⟨_, _, ok__law_whole F41 b_isinstance b_int b_bool hT, B41, k41, PySem.W.mg_of X G a41⟩
  have E__law_is_number : Fd l.prog w K mg base 34 "_law_is_number" ["_law_thing"] (spIsN K) := ⟨_, _, ok__law_is_number F42 E__law_whole E__law_lowest b_isinstance b_tuple b_len hT, B42, k42, PySem.W.mg_of X G a42⟩
  exact ok_law F43 E__law_pen E__law_points E__law_number E_new_steps E__law_plus E__law_missed E_steps_of E__law_told E__law_behind E__law_draw E_curve_through E__law_is_number b_tuple b_list b_isinstance b_len b_all hT
theorem walk {l : PySem.W.OpenLaw} {q : Program} {loose : List Str} {XP : (Str → Option Value) → Heap → Prop} {YP : World → Heap → Prop} {d : DefRec} {K : Params → PySem.W.Frag} (hI : PyProof.Rows.importsNone q = true) (hn : l.most = some 63) (hdf : d.params.defaults = [])
    (hY : ∀ (w : World) (h : Heap), YP w h → (K w.params).In h)
    (F : ∀ (w : World) (mg : Str → Option Value) (fa : Addr) (h : Heap), (K w.params).In h → h.Ns mainGlobals mg → mg d.name = some (.ref fa) →
      ∃ fd : FuncData, (∀ (s : Shared) (u : Value), BindsTo s fd ⟨[u], []⟩ [("_law_script", u)]) ∧ ∀ base : Heap, (K w.params).In base → base.Ns mainGlobals mg → FnOk l.prog w (K w.params) mg base CX0 40 fa fd ["_law_script"] ((fun (K : PySem.W.Frag) => (spLaw K : Sp)) (K w.params))) :
    PySem.W.WalkO q loose XP YP l.row.toRowW d [] (fun f vs => PySem.call f vs) :=
  L2.walk_of (n := 63) (k := 40) (x := "_law_script") (CX := fun _ => CX0) (sp := fun w => (fun (K : PySem.W.Frag) => (spLaw K : Sp)) (K w.params)) hI hn (by decide) hdf ⟨rfl, by decide, by decide⟩ hY F (fun _ _ a ns hl _ hS => ⟨a, ns, rfl, hS, hl, fun _ => rfl⟩) fun _ _ _ _ _ z => z
end Pf
def PySem.W.Fast.tw2989895598515700746 : Unit := ()
def PySem.W.Fast.tw12916135461594418620 : Unit := ()
def PySem.W.Fast.tw5379586436543119459 : Unit := ()
def PySem.W.Fast.tw6741756241252474655 : Unit := ()
def PySem.W.Fast.tw8503766491888144449 : Unit := ()
def PySem.W.Fast.tw13713975325922770073 : Unit := ()
def PySem.W.Fast.tw6169538600871450504 : Unit := ()
def PySem.W.Fast.tw5446367839077297148 : Unit := ()
def PySem.W.Fast.tw12911599004149775157 : Unit := ()
def PySem.W.Fast.tw14746255833327631386 : Unit := ()
def PySem.W.Fast.tw3237365218937764214 : Unit := ()
def PySem.W.Fast.tw18226797069272727314 : Unit := ()
def PySem.W.Fast.tw7727671901769579158 : Unit := ()
def PySem.W.Fast.tw7891112512103362136 : Unit := ()
def PySem.W.Fast.tw14298547782999172898 : Unit := ()
def PySem.W.Fast.tw16079076583177703006 : Unit := ()
def PySem.W.Fast.tw2092762249353686652 : Unit := ()
def PySem.W.Fast.tw17175119791333379926 : Unit := ()
def PySem.W.Fast.tw9172222092430678757 : Unit := ()
def PySem.W.Fast.tw9992669244410233475 : Unit := ()
def PySem.W.Fast.tw15417337754813052921 : Unit := ()
def PySem.W.Fast.tw5662853386795437175 : Unit := ()
def PySem.W.Fast.tw11952654023756428148 : Unit := ()
def PySem.W.Fast.tw11650122597895955005 : Unit := ()
def PySem.W.Fast.tw17044935798713239959 : Unit := ()
def PySem.W.Fast.tw8023117640540524329 : Unit := ()
def PySem.W.Fast.tw4856849236660428785 : Unit := ()
def PySem.W.Fast.tw16122647992673836242 : Unit := ()
def PySem.W.Fast.tw7487943246402865298 : Unit := ()
def PySem.W.Fast.tw3394242132362086474 : Unit := ()
def PySem.W.Fast.tw8264953767451016787 : Unit := ()
def PySem.W.Fast.tw15529802661331960811 : Unit := ()
def PySem.W.Fast.tw2498899949216724413 : Unit := ()
def PySem.W.Fast.tw11356338902922588087 : Unit := ()
def PySem.W.Fast.tw493068377555543777 : Unit := ()
def PySem.W.Fast.tw7150469009244853296 : Unit := ()
def PySem.W.Fast.tw10026948884227774247 : Unit := ()
def PySem.W.Fast.tw325959727987570458 : Unit := ()
def PySem.W.Fast.tw2734857597315270957 : Unit := ()
def PySem.W.Fast.tw12008364619247281277 : Unit := ()
def PySem.W.Fast.tw10007800685540798268 : Unit := ()
def PySem.W.Fast.tw4830174187352915832 : Unit := ()
def PySem.W.Fast.tw12327129083742145102 : Unit := ()
def PySem.W.Fast.tw8474946527835892549 : Unit := ()
def PySem.W.Fast.tw3881480593998716999 : Unit := ()
def PySem.W.Fast.tw16138911369592471671 : Unit := ()
def PySem.W.Fast.tw13141122766196278461 : Unit := ()
def PySem.W.Fast.tw2449458515032565394 : Unit := ()
def PySem.W.Fast.tw1857420238712511327 : Unit := ()
def PySem.W.Fast.tw4740398892593550034 : Unit := ()
def PySem.W.Fast.tw2584171177032386103 : Unit := ()
def PySem.W.Fast.tw4761094604646858963 : Unit := ()
def PySem.W.Fast.tw14957465151300061994 : Unit := ()
def PySem.W.Fast.tw16581029796968529196 : Unit := ()
def PySem.W.Fast.tw11928544244410804539 : Unit := ()
def PySem.W.Fast.tw12762262330045792439 : Unit := ()
def PySem.W.Fast.tw17059785867411593915 : Unit := ()
def PySem.W.Fast.tw17668072418566737527 : Unit := ()
def PySem.W.Fast.tw12022200165734149008 : Unit := ()
def PySem.W.Fast.tw4669368762606239342 : Unit := ()
def PySem.W.Fast.tw11306504327719150131 : Unit := ()
def PySem.W.Fast.tw14216103529894675561 : Unit := ()
def PySem.W.Fast.tw18324571864805770713 : Unit := ()
def PySem.W.Fast.tw6849414091046336855 : Unit := ()
def PySem.W.Fast.tw9146389249106927874 : Unit := ()
def PySem.W.Fast.tw17571509930043479972 : Unit := ()
def PySem.W.Fast.tw14830487967525513518 : Unit := ()
def PySem.W.Fast.tw6269416839306586252 : Unit := ()
def PySem.W.Fast.tw16095499240289794857 : Unit := ()
def PySem.W.Fast.tw10675622107491671480 : Unit := ()
def PySem.W.Fast.tw2875942964863816443 : Unit := ()
def PySem.W.Fast.tw8663585141288533304 : Unit := ()
def PySem.W.Fast.tw12617393407051676771 : Unit := ()
def PySem.W.Fast.tw5078140246778284259 : Unit := ()
def PySem.W.Fast.tw11305950697722132224 : Unit := ()
def PySem.W.Fast.tw8881571140110696647 : Unit := ()
def PySem.W.Fast.tw16337059220301765428 : Unit := ()
def PySem.W.Fast.tw9279770235055188337 : Unit := ()
def PySem.W.Fast.tw11439677660597732200 : Unit := ()
def PySem.W.Fast.tw9049522241086933602 : Unit := ()
def PySem.W.Fast.tw9506593040547691754 : Unit := ()
def PySem.W.Fast.tw9037128997171147583 : Unit := ()
def PySem.W.Fast.tw10238329838951261555 : Unit := ()
def PySem.W.Fast.tw4904273987028405681 : Unit := ()
open PySem PySem.W PyProof.Rows
set_option maxRecDepth 100000 in
set_option maxHeartbeats 0 in
theorem PySem.Challenge.cw_onecurve_k27_steps_that_come_holds : PySem.Challenge.rw_onecurve_k27_steps_that_come.Holds := by
  w_on; o_law; k_head; (case hw => w_witness2)
  k_fill
  refine Pf.walk (l := PySem.Challenge.rw_onecurve_k27_steps_that_come) (by decide +kernel) rfl rfl (fun w h Y => PySem.W.kIn_of Y) ?F
  case F =>
    intro w mg fa h KX G hmg
    refine' Pf.all_mk rfl KX G hmg ?a1 ?l1 ?c1 ?k1 ?a2 ?l2 ?c2 ?k2 ?a3 ?l3 ?c3 ?k3 ?a4 ?l4 ?c4 ?k4 ?a5 ?l5 ?c5 ?k5 ?a6 ?l6 ?c6 ?k6 ?a7 ?l7 ?c7 ?k7 ?a8 ?l8 ?c8 ?k8 ?a9 ?l9 ?c9 ?k9 ?a10 ?l10 ?c10 ?k10 ?a11 ?l11 ?c11 ?k11 ?a12 ?l12 ?c12 ?k12 ?a13 ?l13 ?c13 ?k13 ?a14 ?l14 ?c14 ?k14 ?a15 ?l15 ?c15 ?k15 ?a16 ?l16 ?c16 ?k16 ?a17 ?l17 ?c17 ?k17 ?a18 ?l18 ?c18 ?k18 ?a19 ?l19 ?c19 ?k19 ?a20 ?l20 ?c20 ?k20 ?a21 ?l21 ?c21 ?k21 ?a22 ?l22 ?c22 ?k22 ?a23 ?l23 ?c23 ?k23 ?a24 ?l24 ?c24 ?k24 ?a25 ?l25 ?c25 ?k25 ?a26 ?l26 ?c26 ?k26 ?a27 ?l27 ?c27 ?k27 ?a28 ?l28 ?c28 ?k28 ?a29 ?l29 ?c29 ?k29 ?a30 ?l30 ?c30 ?k30 ?a31 ?l31 ?c31 ?k31 ?a32 ?l32 ?c32 ?k32 ?a33 ?l33 ?c33 ?k33 ?a34 ?l34 ?c34 ?k34 ?a35 ?l35 ?c35 ?k35 ?a36 ?l36 ?c36 ?k36 ?a37 ?l37 ?c37 ?k37 ?a38 ?l38 ?c38 ?k38 ?a39 ?l39 ?c39 ?k39 ?a40 ?l40 ?c40 ?k40 ?a41 ?l41 ?c41 ?k41 ?a42 ?l42 ?c42 ?k42 ?a43 ?l43 ?c43 ?k43 ?z_len ?z_abs ?z_range ?z_tuple ?z_set ?z_isinstance ?z_int ?z_bool ?z_all ?z_list ?x_MOST_TOLD ?x_NOUGHT ?y_NOUGHT ?w_NOUGHT ?d_NOUGHT ?e_NOUGHT
    (case a1 => k_is)
    (case l1 => k_is)
    (case c1 => k_is)
    (case k1 => k_is)
    (case a2 => k_is)
    (case l2 => k_is)
    (case c2 => k_is)
    (case k2 => k_is)
    (case a3 => k_is)
    (case l3 => k_is)
    (case c3 => k_is)
    (case k3 => k_is)
    (case a4 => k_is)
    (case l4 => k_is)
    (case c4 => k_is)
    (case k4 => k_is)
    (case a5 => k_is)
    (case l5 => k_is)
    (case c5 => k_is)
    (case k5 => k_is)
    (case a6 => k_is)
    (case l6 => k_is)
    (case c6 => k_is)
    (case k6 => k_is)
    (case a7 => k_is)
    (case l7 => k_is)
    (case c7 => k_is)
    (case k7 => k_is)
    (case a8 => k_is)
    (case l8 => k_is)
    (case c8 => k_is)
    (case k8 => k_is)
    (case a9 => k_is)
    (case l9 => k_is)
    (case c9 => k_is)
    (case k9 => k_is)
    (case a10 => k_is)
    (case l10 => k_is)
    (case c10 => k_is)
    (case k10 => k_is)
    (case a11 => k_is)
    (case l11 => k_is)
    (case c11 => k_is)
    (case k11 => k_is)
    (case a12 => k_is)
    (case l12 => k_is)
    (case c12 => k_is)
    (case k12 => k_is)
    (case a13 => k_is)
    (case l13 => k_is)
    (case c13 => k_is)
    (case k13 => k_is)
    (case a14 => k_is)
    (case l14 => k_is)
    (case c14 => k_is)
    (case k14 => k_is)
    (case a15 => k_is)
    (case l15 => k_is)
    (case c15 => k_is)
    (case k15 => k_is)
    (case a16 => k_is)
    (case l16 => k_is)
    (case c16 => k_is)
    (case k16 => k_is)
    (case a17 => k_is)
    (case l17 => k_is)
    (case c17 => k_is)
    (case k17 => k_is)
    (case a18 => k_is)
    (case l18 => k_is)
    (case c18 => k_is)
    (case k18 => k_is)
    (case a19 => k_is)
    (case l19 => k_is)
    (case c19 => k_is)
    (case k19 => k_is)
    (case a20 => k_is)
    (case l20 => k_is)
    (case c20 => k_is)
    (case k20 => k_is)
    (case a21 => k_is)
    (case l21 => k_is)
    (case c21 => k_is)
    (case k21 => k_is)
    (case a22 => k_is)
    (case l22 => k_is)
    (case c22 => k_is)
    (case k22 => k_is)
    (case a23 => k_is)
    (case l23 => k_is)
    (case c23 => k_is)
    (case k23 => k_is)
    (case a24 => k_is)
    (case l24 => k_is)
    (case c24 => k_is)
    (case k24 => k_is)
    (case a25 => k_is)
    (case l25 => k_is)
    (case c25 => k_is)
    (case k25 => k_is)
    (case a26 => k_is)
    (case l26 => k_is)
    (case c26 => k_is)
    (case k26 => k_is)
    (case a27 => k_is)
    (case l27 => k_is)
    (case c27 => k_is)
    (case k27 => k_is)
    (case a28 => k_is)
    (case l28 => k_is)
    (case c28 => k_is)
    (case k28 => k_is)
    (case a29 => k_is)
    (case l29 => k_is)
    (case c29 => k_is)
    (case k29 => k_is)
    (case a30 => k_is)
    (case l30 => k_is)
    (case c30 => k_is)
    (case k30 => k_is)
    (case a31 => k_is)
    (case l31 => k_is)
    (case c31 => k_is)
    (case k31 => k_is)
    (case a32 => k_is)
    (case l32 => k_is)
    (case c32 => k_is)
    (case k32 => k_is)
    (case a33 => k_is)
    (case l33 => k_is)
    (case c33 => k_is)
    (case k33 => k_is)
    (case a34 => k_is)
    (case l34 => k_is)
    (case c34 => k_is)
    (case k34 => k_is)
    (case a35 => k_is)
    (case l35 => k_is)
    (case c35 => k_is)
    (case k35 => k_is)
    (case a36 => k_is)
    (case l36 => k_is)
    (case c36 => k_is)
    (case k36 => k_is)
    (case a37 => k_is)
    (case l37 => k_is)
    (case c37 => k_is)
    (case k37 => k_is)
    (case a38 => k_is)
    (case l38 => k_is)
    (case c38 => k_is)
    (case k38 => k_is)
    (case a39 => k_is)
    (case l39 => k_is)
    (case c39 => k_is)
    (case k39 => k_is)
    (case a40 => k_is)
    (case l40 => k_is)
    (case c40 => k_is)
    (case k40 => k_is)
    (case a41 => k_is)
    (case l41 => k_is)
    (case c41 => k_is)
    (case k41 => k_is)
    (case a42 => k_is)
    (case l42 => k_is)
    (case c42 => k_is)
    (case k42 => k_is)
    (case a43 => k_is)
    (case l43 => k_is)
    (case c43 => k_is)
    (case k43 => k_is)
    (case z_len => k_is)
    (case z_abs => k_is)
    (case z_range => k_is)
    (case z_tuple => k_is)
    (case z_set => k_is)
    (case z_isinstance => k_is)
    (case z_int => k_is)
    (case z_bool => k_is)
    (case z_all => k_is)
    (case z_list => k_is)
    (case x_MOST_TOLD => k_is)
    (case x_NOUGHT => k_is)
    (case y_NOUGHT => k_is)
    (case w_NOUGHT => rfl)
    (case d_NOUGHT => rfl)
    (case e_NOUGHT => rfl)
#print axioms PySem.Challenge.cw_onecurve_k27_steps_that_come_holds
