import PyProof.Rows.All
import Wide.All
import OpenK.AllK
import Wide.FinOn
import Lean
import PyProof.EqAt
import PyProof.EqKinds
import PyProof.TupleCall
import PySem.Challenge.RW_onecurve_k26_changes_refused
set_option Elab.async false
set_option linter.all false
set_option maxRecDepth 100000
/-! THE HAND LAYER, for ints, bools, texts, own classes, LISTS and tuples (index, slices, in, append, pop ..), calls, loops. Paste it whole ahead of your own text; what your proof does not reach may be deleted. -/
namespace L2
open PySem PySem.Spec PyProof.Rows

/-- a key: an int or a str -/
abbrev Key := Sum Int Str
def keyIs : Key → Value → Bool
  | .inl k, v => Value.isInt k v
  | .inr x, v => Value.isStrOf x v
def keyH (w : World) : Key → Int
  | .inl k => hashInt k
  | .inr x => hashStr w x
theorem keyIs_shape : ∀ {k : Key} {v : Value}, keyIs k v = true → (∃ i t, k = Sum.inl i ∧ v = Value.int i t) ∨ (∃ x t, k = Sum.inr x ∧ v = Value.str x t)
  | .inl i, v, h => by
    obtain ⟨t, e⟩ := Value.isInt_shape (k := i) (v := v) h
    exact .inl ⟨i, t, rfl, e⟩
  | .inr x, v, h => by
    obtain ⟨t, e⟩ := Value.isStrOf_shape (x := x) (v := v) h
    exact .inr ⟨x, t, rfl, e⟩
theorem keyIs_int (i : Int) (t : Tok) : keyIs (.inl i) (.int i t) = true := by simp [keyIs, Value.isInt]
theorem keyIs_str (x : Str) (t : Tok) : keyIs (.inr x) (.str x t) = true := by simp [keyIs, Value.isStrOf]
theorem key_ll (a b : Int) : decide ((Sum.inl a : Key) = Sum.inl b) = (a == b) := by
  by_cases e : a = b
  · subst e; simp
  · have h : ¬ (Sum.inl a : Key) = Sum.inl b := fun q => e (Sum.inl.inj q)
    rw [decide_eq_false h]
    exact (beq_eq_false_iff_ne.mpr e).symm
theorem key_rr (a b : Str) : decide ((Sum.inr a : Key) = Sum.inr b) = decide (a = b) := by
  by_cases e : a = b
  · subst e; simp
  · have h : ¬ (Sum.inr a : Key) = Sum.inr b := fun q => e (Sum.inr.inj q)
    rw [decide_eq_false h, decide_eq_false e]
theorem key_lr (a : Int) (b : Str) : decide ((Sum.inl a : Key) = Sum.inr b) = false := decide_eq_false (fun q => nomatch q)
theorem key_rl (a : Str) (b : Int) : decide ((Sum.inr a : Key) = Sum.inl b) = false := decide_eq_false (fun q => nomatch q)

def mixKind (prog : Program) (w : World) : PySem.KeyKind prog w Key where
  is := keyIs
  hash := keyH w
  inj := fun v a b ha hb => by
    rcases keyIs_shape ha with ⟨i, t, rfl, rfl⟩ | ⟨x, t, rfl, rfl⟩
    · rcases keyIs_shape hb with ⟨j, u, rfl, e⟩ | ⟨y, u, rfl, e⟩
      · injection e with e1 _; rw [e1]
      · exact nomatch e
    · rcases keyIs_shape hb with ⟨j, u, rfl, e⟩ | ⟨y, u, rfl, e⟩
      · exact nomatch e
      · injection e with e1 _; rw [e1]
  byValue := fun k v h => by
    rcases keyIs_shape h with ⟨i, t, rfl, rfl⟩ | ⟨x, t, rfl, rfl⟩ <;> rfl
  pyHash := fun hv h => by
    rcases keyIs_shape hv with ⟨i, t, rfl, rfl⟩ | ⟨x, t, rfl, rfl⟩
    · exact wpAny_pyHash_int h
    · exact wpAny_pyHash_str h
  eqBool := fun hu hv h => by
    rcases keyIs_shape hu with ⟨i, t, rfl, rfl⟩ | ⟨x, t, rfl, rfl⟩
    · rcases keyIs_shape hv with ⟨j, u, rfl, rfl⟩ | ⟨y, u, rfl, rfl⟩
      · rw [key_ll] at h; exact wpAny_eqBool_int h
      · rw [key_lr] at h; exact SeqAt.EqAt.int_str i t y u _ _ _ _ h
    · rcases keyIs_shape hv with ⟨j, u, rfl, rfl⟩ | ⟨y, u, rfl, rfl⟩
      · rw [key_rl] at h; exact SeqAt.EqAt.str_int x t j u _ _ _ _ h
      · rw [key_rr] at h; exact wpAny_eqBool_str h
  «strs» := fun k x t v h => by
    rcases keyIs_shape h with ⟨i, u, rfl, e⟩ | ⟨y, u, rfl, e⟩
    · exact nomatch e
    · injection e with e1 _
      subst e1
      cases v <;> rfl

theorem mixKind_int (prog : Program) (w : World) (i : Int) (t : Tok) : (mixKind prog w).is (.inl i) (.int i t) = true := keyIs_int i t
theorem mixKind_str (prog : Program) (w : World) (x : Str) (t : Tok) : (mixKind prog w).is (.inr x) (.str x t) = true := keyIs_str x t
end L2

namespace L2
open PySem PySem.Spec PyProof.Rows

/-- a value, without the heap -/
inductive V where
  | non | bl (b : Bool) | int (i : Int) | str (x : Str) | byt (b : Array UInt8) | flt (b : UInt64) | ref (a : Addr) | ty (n : String)
  deriving DecidableEq

def RelV : V → Value → Prop
  | .non, u => u = Value.none
  | .bl b, u => u = Value.bool b
  | .int i, u => ∃ t, u = Value.int i t
  | .str x, u => ∃ t, u = Value.str x t
  | .byt b, u => ∃ t, u = Value.bytes b t
  | .flt b, u => ∃ t, u = Value.float b t
  | .ref a, u => u = Value.ref a
  | .ty n, u => u = Value.type n

abbrev Vals : List V → List Value → Prop := Paired RelV
theorem Vals.length {xs : List V} {us : List Value} (r : Vals xs us) : xs.length = us.length := Paired.length r
theorem Vals.get : ∀ {xs : List V} {us : List Value} {i : Nat} {x : V}, Vals xs us → xs[i]? = some x → ∃ u, us[i]? = some u ∧ RelV x u
  | _, _, _, _, .nil, e => by simp at e
  | _, _, 0, _, .cons r _, e => by simp at e; subst e; exact ⟨_, rfl, r⟩
  | _, _, i + 1, x, .cons _ t, e => by
    obtain ⟨u, h1, h2⟩ := Vals.get (i := i) (x := x) t (by simpa using e)
    exact ⟨u, by simpa using h1, h2⟩
theorem Vals.set {x : V} {u : Value} (r : RelV x u) : ∀ {xs : List V} {us : List Value} (i : Nat), Vals xs us → Vals (xs.set i x) (us.set i u)
  | _, _, _, .nil => .nil
  | _, _, 0, .cons _ t => .cons r t
  | _, _, i + 1, .cons q t => .cons q (Vals.set r i t)
theorem Vals.append {xs ys : List V} {us ws : List Value} (a : Vals xs us) (b : Vals ys ws) : Vals (xs ++ ys) (us ++ ws) := by
  induction a with
  | nil => exact b
  | cons r t ih => exact .cons r ih
theorem Vals.take : ∀ {xs : List V} {us : List Value} (n : Nat), Vals xs us → Vals (xs.take n) (us.take n)
  | _, _, 0, _ => .nil
  | _, _, _ + 1, .nil => .nil
  | _, _, n + 1, .cons r t => .cons r (Vals.take n t)
theorem Vals.drop : ∀ {xs : List V} {us : List Value} (n : Nat), Vals xs us → Vals (xs.drop n) (us.drop n)
  | _, _, 0, r => r
  | _, _, _ + 1, .nil => .nil
  | _, _, n + 1, .cons _ t => Vals.drop n t
def RelO : Option V → Option Value → Prop
  | some v, some u => RelV v u
  | none, none => True
  | _, _ => False
def KV {κ : Type} : List (κ × V) → List (κ × Value) → Prop := Paired fun (p : κ × V) (q : κ × Value) => p.1 = q.1 ∧ RelV p.2 q.2

/-- a key of a dict (00_mix): an int or a text -/
def kV : Key → V
  | .inl i => .int i
  | .inr x => .str x

/-- what stands at a tracked address -/
inductive HO where
  /-- a list -/
  | lst (xs : List V)
  /-- a tuple (never changes) -/
  | tup (xs : List V)
  /-- a dict whose keys are ints and texts; one whose keys are tuples of ints and texts (the empty one is both) -/
  | dK (kvs : List (Key × V)) | dT (kvs : List (List Key × V))
  /-- a set of ints: its members, its size -/
  | set (S : Int → Bool) (n : Nat)
  /-- an instance of the class at C, its dict at dx, its attributes -/
  | ins (C dx : Addr) (fs : List (Str × V))
  /-- the dict of the instance at x -/
  | own (x : Addr)
  /-- the dict of an exception -/
  | xd (fs : List (Str × V))
  /-- a bound method, f of x -/
  | met (f x : Addr)
  /-- a range object lo, lo + 1, .. below hi -/
  | rng (lo hi : Int)
  /-- a thing that is known to the object (the script; a dict while a loop walks it): read, never written while it is so -/
  | frz (o : Obj) (u : HO)
  /-- a code object's table -/
  | tbl (ps : Array Value)
  /-- any other thing, by what is true of its one object (a def of one's own: SetO a S n := HO.ext fun h => ..) -/
  | ext (φ : Heap → Prop)

abbrev Hp := Addr → Option HO
def upd (H : Hp) (a : Addr) (o : HO) : Hp := fun b => if b = a then some o else H b
theorem upd_same {H : Hp} {a : Addr} {o : HO} : upd H a o a = some o := by unfold upd; rw [if_pos rfl]
theorem upd_ne {H : Hp} {a b : Addr} {o : HO} (h : b ≠ a) : upd H a o b = H b := by unfold upd; rw [if_neg h]
theorem upd_upd {H : Hp} {a : Addr} {o u : HO} : upd (upd H a o) a u = upd H a u := by
  funext b; unfold upd; split <;> rfl
/-- two objects of different content stand apart -/
theorem ne_of {H : Hp} {a b : Addr} {o u : HO} (h : H a = some o) (h' : H b = some u) (d : o ≠ u) : a ≠ b := by
  intro e; subst e; rw [h] at h'; exact d (Option.some.inj h')
theorem ne_of_none {H : Hp} {a b : Addr} {o : HO} (h : H a = some o) (h' : H b = none) : a ≠ b := by
  intro e; subst e; rw [h] at h'; cases h'

section
variable (P : Program) (w : World)
def ObjOk (H : Hp) (h : Heap) (a : Addr) : HO → Prop
  | .lst xs => xs.length ≤ sizeLine ∧ ∃ (its : List Value) (n : Nat), Vals xs its ∧ h.get? a = some { cls := .type "list", data := .seq its.toArray n }
  | .tup xs => xs.length ≤ sizeLine ∧ ∃ its : List Value, Vals xs its ∧ IsTup h a its.toArray
  | .dK kvs => kvs.length ≤ sizeLine ∧ (a == sysModules) = false ∧ ∃ vs, KV kvs vs ∧ h.DictOf (mixKind P w) a vs
  | .dT kvs => kvs.length ≤ sizeLine ∧ (a == sysModules) = false ∧ ∃ xs : List (List Key × Addr × Value),
      Paired (fun (p : List Key × V) (q : List Key × Addr × Value) => p.1 = q.1 ∧ H q.2.1 = some (.tup (p.1.map kV)) ∧ RelV p.2 q.2.2) kvs xs ∧
      ∃ o es ep, h.get? a = some o ∧ o.ExactDict ∧ o.data = .dict es ep ∧ es.toList = xs.map (entryOfKey (tupleKind (mixKind P w))) ∧ (xs.map (·.1)).Nodup
  | .set S n => h.SetOf (intKind P w) a S n
  | .ins C dx fs => H dx = some (.own a) ∧ fs.length ≤ 1000 ∧ dx ≠ a ∧ h.get? a = some (PySem.W.instObj C dx) ∧
      ∃ mA, h.Ns1 dx mA ∧ (∀ f, RelO (fs.lookup f) (mA f)) ∧ PySem.Within mA (fs.map (·.1))
  | .own _ => ∃ o, h.get? a = some o
  | .xd fs => ∃ mA, h.Ns1 a mA ∧ ∀ f, RelO (fs.lookup f) (mA f)
  | .rng lo hi => ∃ t u v, h.get? a = some { cls := .type "range", data := .fields #[.int lo t, .int hi u, .int 1 v] }
  | .frz o u => h.get? a = some o ∧ ObjOk H h a u
  | .tbl ps => h.get? a = some { cls := .none, data := .fields ps }
  | .met f x => h.get? a = some (PySem.W.methodObj (.ref f) (.ref x))
  | .ext φ => φ h ∧ (∃ o, h.get? a = some o) ∧ ∀ h1 h2 : Heap, φ h1 → (∀ o, h1.get? a = some o → h2.get? a = some o) → φ h2
/-- the abstract heap is held -/
def HOk (H : Hp) (h : Heap) : Prop := ∀ a o, H a = some o → ObjOk P w H h a o
end

section
variable {P : Program} {w : World} {H H' : Hp} {h h' : Heap} {a : Addr} {o : HO}
theorem ObjOk.lt (x : ObjOk P w H h a o) : a < h.objs.size := by
  cases o with
  | lst xs => obtain ⟨_, _, _, _, e⟩ := x; exact Heap.lt_size e
  | tup xs => obtain ⟨_, _, _, p⟩ := x; exact p.lt
  | dK kvs => obtain ⟨_, _, _, _, o, _, _, e, _⟩ := x; exact Heap.lt_size e
  | dT kvs => obtain ⟨_, _, _, _, o, _, _, e, _⟩ := x; exact Heap.lt_size e
  | set S n => obtain ⟨o, _, _, _, e, _⟩ := x; exact Heap.lt_size e
  | ins C dx fs => obtain ⟨_, _, _, e, _⟩ := x; exact Heap.lt_size e
  | own y => obtain ⟨_, e⟩ := x; exact Heap.lt_size e
  | xd fs => obtain ⟨_, ⟨_, _, _, e, _⟩, _⟩ := x; exact Heap.lt_size e
  | rng lo hi => obtain ⟨_, _, _, e⟩ := x; exact Heap.lt_size e
  | frz ob u => obtain ⟨e, _⟩ := x; exact Heap.lt_size e
  | tbl ps => exact Heap.lt_size (show h.get? a = some _ from x)
  | met f y => exact Heap.lt_size (show h.get? a = some _ from x)
  | ext φ => obtain ⟨_, ⟨_, e⟩, _⟩ := x; exact Heap.lt_size e
theorem Paired.mapP {α β : Type} {F G : α → β → Prop} {l₁ : List α} {l₂ : List β} (h : Paired F l₁ l₂) (f : ∀ a b, F a b → G a b) : Paired G l₁ l₂ := by
  induction h with
  | nil => exact .nil
  | cons r t ih => exact .cons (f _ _ r) ih
/-- what an object's description leans on: its own object, its own dict, the tuples -/
theorem ObjOk.stay (x : ObjOk P w H h a o) (k : ∀ b u, (b = a ∨ H b = some (.own a)) → h.get? b = some u → h'.get? b = some u)
    (ho : ∀ b, H b = some (.own a) → H' b = some (.own a)) (ht : ∀ b xs, H b = some (.tup xs) → H' b = some (.tup xs)) : ObjOk P w H' h' a o := by
  induction o with
  | lst xs => obtain ⟨z, its, n, r, e⟩ := x; exact ⟨z, its, n, r, k _ _ (.inl rfl) e⟩
  | tup xs => obtain ⟨z, its, r, ob, e, c⟩ := x; exact ⟨z, its, r, ob, k _ _ (.inl rfl) e, c⟩
  | dK kvs => obtain ⟨z, y, vs, r, ob, es, ep, e, c⟩ := x; exact ⟨z, y, vs, r, ob, es, ep, k _ _ (.inl rfl) e, c⟩
  | dT kvs =>
    obtain ⟨z, y, xs, r, ob, es, ep, e, c⟩ := x
    exact ⟨z, y, xs, Paired.mapP r fun p q z => ⟨z.1, ht _ _ z.2.1, z.2.2⟩, ob, es, ep, k _ _ (.inl rfl) e, c⟩
  | set S n => obtain ⟨ob, es, ep, t, e, c⟩ := x; exact ⟨ob, es, ep, t, k _ _ (.inl rfl) e, c⟩
  | ins C dx fs =>
    obtain ⟨d, z, ne, e, mA, ⟨od, es, ep, e2, c⟩, r⟩ := x
    exact ⟨ho _ d, z, ne, k _ _ (.inl rfl) e, mA, ⟨od, es, ep, k _ _ (.inr d) e2, c⟩, r⟩
  | own y => obtain ⟨ob, e⟩ := x; exact ⟨ob, k _ _ (.inl rfl) e⟩
  | xd fs => obtain ⟨mA, ⟨od, es, ep, e, c⟩, r⟩ := x; exact ⟨mA, ⟨od, es, ep, k _ _ (.inl rfl) e, c⟩, r⟩
  | rng lo hi => obtain ⟨t, u, v, e⟩ := x; exact ⟨t, u, v, k _ _ (.inl rfl) e⟩
  | frz ob u ih => obtain ⟨e, q⟩ := x; exact ⟨k _ _ (.inl rfl) e, ih q⟩
  | tbl ps =>
    have e : h.get? a = some { cls := .none, data := .fields ps } := x
    show h'.get? a = some { cls := .none, data := .fields ps }
    exact k a _ (.inl rfl) e
  | met f y =>
    have e : h.get? a = some (PySem.W.methodObj (.ref f) (.ref y)) := x
    show h'.get? a = some (PySem.W.methodObj (.ref f) (.ref y))
    exact k a _ (.inl rfl) e
  | ext φ => obtain ⟨p, ⟨o, e⟩, st⟩ := x; exact ⟨st _ _ p fun o q => k _ _ (.inl rfl) q, ⟨o, k _ _ (.inl rfl) e⟩, st⟩
theorem HOk.lt (x : HOk P w H h) (e : H a = some o) : a < h.objs.size := (x a o e).lt
theorem HOk.fresh (x : HOk P w H h) (e : h.objs.size ≤ a) : H a = none := by
  cases q : H a with
  | none => rfl
  | some u => exact absurd (Nat.lt_of_lt_of_le (x.lt q) e) (Nat.lt_irrefl _)
/-- every object of the heap is kept -/
theorem HOk.kept (x : HOk P w H h) (k : ∀ b u, h.get? b = some u → h'.get? b = some u) : HOk P w H h' := fun a o e =>
  (x a o e).stay (fun b u _ q => k b u q) (fun _ q => q) fun _ _ q => q
/-- a new object is laid and tracked -/
theorem HOk.laid (x : HOk P w H h) (k : ∀ b u, h.get? b = some u → h'.get? b = some u) (hp : h.objs.size ≤ a) (new : ObjOk P w (upd H a o) h' a o) : HOk P w (upd H a o) h' := fun b u e => by
  have hn := x.fresh hp
  by_cases hb : b = a
  · subst hb; rw [upd_same] at e; cases e; exact new
  · rw [upd_ne hb] at e
    exact (x b u e).stay (fun c v _ q => k c v q) (fun c q => by rw [upd_ne (ne_of_none q hn)]; exact q) fun c xs q => by rw [upd_ne (ne_of_none q hn)]; exact q
end

/-- what may be read as u: it is u, or a known u -/
def Rd (H : Hp) (a : Addr) (u : HO) : Prop := H a = some u ∨ ∃ o, H a = some (.frz o u)
theorem Rd.ok {P : Program} {w : World} {H : Hp} {h : Heap} {a : Addr} {u : HO} (r : Rd H a u) (x : HOk P w H h) : ObjOk P w H h a u := by
  rcases r with r | ⟨o, r⟩
  · exact x a u r
  · obtain ⟨_, q⟩ := x a _ r
    exact q
/-- what may be written -/
def Mut : Option HO → Prop
  | some (.lst _) => True
  | some (.dK _) => True
  | some (.dT _) => True
  | some (.set _ _) => True
  | some (.ins _ _ _) => True
  | some (.ext _) => True
  | _ => False
section
variable {P : Program} {w : World} {H : Hp} {h h' : Heap} {x e : Addr} {o' : HO}
/-- the object at e is changed: x itself, or the dict of the instance x -/
theorem HOk.write (ok : HOk P w H h) (mu : Mut (H x)) (he : e = x ∨ H e = some (.own x)) (k : ∀ b u, b ≠ e → h.get? b = some u → h'.get? b = some u) (heo : ∃ u, h'.get? e = some u)
    (new : ObjOk P w (upd H x o') h' x o') : HOk P w (upd H x o') h' := fun b u q => by
  have nown : ∀ c y, H c = some (.own y) → c ≠ x := fun c y r z => by subst z; rw [r] at mu; exact mu
  have ntup : ∀ c xs, H c = some (.tup xs) → c ≠ x := fun c xs r z => by subst z; rw [r] at mu; exact mu
  by_cases hb : b = x
  · subst hb; rw [upd_same] at q; cases q; exact new
  · rw [upd_ne hb] at q
    by_cases hbe : b = e
    · have q' : H b = some (.own x) := by
        rcases he with z | z
        · exact absurd (hbe.trans z) hb
        · rw [hbe]; exact z
      rw [q] at q'; cases q'
      obtain ⟨v, hv⟩ := heo
      exact ⟨v, by rw [hbe]; exact hv⟩
    · refine (ok b u q).stay (fun c v hc r => k c v ?_ r) (fun c r => by rw [upd_ne (nown c b r)]; exact r) fun c xs r => by rw [upd_ne (ntup c xs r)]; exact r
      rcases hc with rfl | hc
      · exact hbe
      · rintro rfl
        rcases he with z | z
        · exact nown c b hc z
        · rw [hc] at z; cases z; exact hb rfl
end

/-! ### kept unless tracked; of the frames at fs (the callers') the slots may change (an exception that passes writes there); of the records at ex (iterators) nothing is said -/
structure Un (fs ex : List Addr) (H H' : Hp) (h h' : Heap) : Prop where
  keep : ∀ b o, h.get? b = some o → H b = none → b ∉ fs → b ∉ ex → h'.get? b = some o
  slot : ∀ b o, h.get? b = some o → H b = none → b ∈ fs → b ∉ ex → ∃ sl, h'.get? b = some { o with slots := sl }
  free : ∀ b o, h.get? b = some o → H b = none → b ∉ ex → H' b = none
  there : ∀ b o, h.get? b = some o → b ∉ ex → ∃ o', h'.get? b = some o'
  tups : ∀ b xs, H b = some (.tup xs) → H' b = some (.tup xs)
  frzs : ∀ b o u, H b = some (.frz o u) → H' b = some (.frz o u)
  tbls : ∀ b ps, H b = some (.tbl ps) → ∃ more, H' b = some (.tbl (ps ++ more))
section
variable {fs fs' ex ex' : List Addr} {H H1 H2 : Hp} {h h1 h2 h' : Heap} {a x e : Addr} {o : HO}
theorem Un.any (u : Un fs ex H H1 h h1) {b : Addr} {ob : Obj} (q : h.get? b = some ob) (n : H b = none) (hx : b ∉ ex) : ∃ sl, h1.get? b = some { ob with slots := sl } := by
  by_cases hb : b ∈ fs
  · exact u.slot b ob q n hb hx
  · exact ⟨ob.slots, u.keep b ob q n hb hx⟩
theorem Un.kept (k : ∀ b u, h.get? b = some u → h'.get? b = some u) : Un fs ex H H h h' :=
  ⟨fun b ob q _ _ _ => k b ob q, fun b ob q _ _ _ => ⟨ob.slots, k b ob q⟩, fun _ _ _ n _ => n, fun b ob q _ => ⟨ob, k b ob q⟩, fun _ _ q => q, fun _ _ _ q => q, fun _ ps q => ⟨#[], by rw [q]; simp⟩⟩
theorem Un.refl : Un fs ex H H h h := Un.kept fun _ _ q => q
theorem Un.laid (k : ∀ b u, h.get? b = some u → h'.get? b = some u) (hp : h.objs.size ≤ a) (hn : H a = none) : Un fs ex H (upd H a o) h h' where
  keep := fun b u q _ _ _ => k b u q
  slot := fun b u q _ _ _ => ⟨u.slots, k b u q⟩
  free := fun b u q n _ => by rw [upd_ne (Nat.ne_of_lt (Nat.lt_of_lt_of_le (Heap.lt_size q) hp))]; exact n
  there := fun b u q _ => ⟨u, k b u q⟩
  tups := fun b xs q => by rw [upd_ne (ne_of_none q hn)]; exact q
  frzs := fun b u xs q => by rw [upd_ne (ne_of_none q hn)]; exact q
  tbls := fun b ps q => ⟨#[], by rw [upd_ne (ne_of_none q hn), q]; simp⟩
theorem Un.write (mu : Mut (H x)) (he : e = x ∨ H e = some (.own x)) (k : ∀ b u, b ≠ e → h.get? b = some u → h'.get? b = some u) (heo : ∃ u, h'.get? e = some u) : Un fs ex H (upd H x o) h h' := by
  have hx : ∀ b, H b = none → b ≠ x := fun b n z => by subst z; rw [n] at mu; exact mu
  have hb : ∀ b, H b = none → b ≠ e := fun b n z => by
    subst z
    rcases he with r | r
    · exact hx b n r
    · rw [n] at r; cases r
  have hm : ∀ b u, H b = some u → ¬ Mut (some u) → b ≠ x := fun b u q nm z => by subst z; rw [q] at mu; exact nm mu
  refine ⟨fun b u q n _ _ => k b u (hb b n) q, fun b u q n _ _ => ⟨u.slots, k b u (hb b n) q⟩, fun b u q n _ => by rw [upd_ne (hx b n)]; exact n, fun b u q _ => ?_,
    fun b xs q => by rw [upd_ne (hm b _ q fun z => z)]; exact q, fun b u xs q => by rw [upd_ne (hm b _ q fun z => z)]; exact q, fun b ps q => ⟨#[], by rw [upd_ne (hm b _ q fun z => z), q]; simp⟩⟩
  by_cases hbe : b = e
  · subst hbe; exact heo
  · exact ⟨u, k b u hbe q⟩
end

/-! ### the heap without what is tracked -/
def trk (h : Heap) (H : Hp) : List Addr := (List.range h.objs.size).filter fun a => (H a).isSome
def hidT (h : Heap) (H : Hp) : Heap := PySem.W.hideAll h (trk h H)
theorem hidT_size (h : Heap) (H : Hp) : (hidT h H).objs.size = h.objs.size := PySem.W.hideAll_size _ _
theorem hidT_get {h : Heap} {H : Hp} {b : Addr} {o : Obj} (e : h.get? b = some o) (n : H b = none) : (hidT h H).get? b = some o :=
  PySem.W.hideAll_get _ e fun hm => by
    have q : (H b).isSome = true := (List.mem_filter.mp hm).2
    rw [n] at q; simp at q
theorem of_hidT {h : Heap} {H : Hp} {b : Addr} {o : Obj} (e : (hidT h H).get? b = some o) : h.get? b = some o ∧ H b = none := by
  have e' : h.get? b = some o := PySem.W.of_hideAll (trk h H) e
  refine ⟨e', ?_⟩
  cases q : H b with
  | none => rfl
  | some x =>
    have hm : b ∈ trk h H := List.mem_filter.mpr ⟨List.mem_range.mpr (Heap.lt_size e'), by simp [q]⟩
    have z : (hidT h H).get? b = none := PySem.W.hideAll_none (trk h H) hm
    rw [z] at e; cases e

/-! ### OpenK's ledger, filled with every new object but one -/
def allNews (g h : Heap) (L : Addr) : List (Addr × Obj) := (List.range h.objs.size).filterMap fun a => if a = L ∨ (g.get? a).isSome = true then none else (h.get? a).map fun o => (a, o)
def rest (g h : Heap) (L d : Addr) : List (Addr × Obj) := (allNews g h L).filter fun p => decide (p.1 ≠ d)
end L2

namespace L2
open PySem PySem.Spec PyProof.Rows

/-- the module's facts, over the base: the heap at the law's entry without what is tracked there -/
structure Mod (K : PySem.W.Frag) (mg : Str → Option Value) (base : Heap) : Prop where
  kin : K.In base
  glob : base.Ns mainGlobals mg
  blt : ∃ mb, base.Ns builtinsNs mb ∧ ∀ x : Str, x ≠ "__name__" → mb x = bootBuiltins x
  nolimit : base.NoLimit
  seer : base.NoSeer

/-- the context: a def's body (or a comprehension's block) running. base: fixed through the whole law; s₀, H₀: the entry; outer: the frames whose slots others may change (a def's callers); stack: all frames that run;
   ex: iterators that were made ahead of the entry and are walked here (a comprehension's); fn: the names whose cells were made at the entry (a def: all; a comprehension's block: its own); calm: not within an except suite; pn: pins that every state bears; xe: what is wanted of an exception that leaves the code -/
structure Cx where
  prog : Program
  w : World
  K : PySem.W.Frag
  mg : Str → Option Value
  base : Heap
  A : Around
  N : List Str
  s₀ : Shared
  H₀ : Hp
  env : Env
  outer : List Env
  stack : List Env
  ex : List Addr
  fn : Str → Bool
  calm : Bool
  pn : List (Addr × Obj)
  xe : Value → Shared → Prop
/-- the callers' frames -/
def frs (l : List Env) : List Addr := l.filterMap (·.frame)
abbrev Cx.fs (X : Cx) : List Addr := frs X.outer

def Vis (sc : Scope) (x : Str) : Prop := sc.names.lookup x = some .local ∨ sc.names.lookup x = some .cell ∨ sc.names.lookup x = some .free
def Loc (sc : Scope) (x : Str) : Prop := sc.names.lookup x = some .local ∨ sc.names.lookup x = some .cell
def Look (env : Env) (h : Heap) (m : Str → Option Value) (x : Str) (u : Value) : Prop :=
  (env.kindOf x = some .local ∧ m x = some u) ∨ ((env.kindOf x = some .cell ∨ env.kindOf x = some .free) ∧ ∃ c, env.cells.lookup x = some c ∧ h.IsCell c (some u))

structure Cx.Ok (X : Cx) : Prop where
  mod : Mod X.K X.mg X.base
  kind : X.env.scope.kind = .function
  glob : X.env.globals = mainGlobals
  blt : X.env.builtins = builtinsNs
  above : X.s₀.heap.objs.size ≤ X.env.locals
  inj : ∀ x y c, X.env.cells.lookup x = some c → X.env.cells.lookup y = some c → x = y
  has : ∀ x, (X.env.kindOf x = some .cell ∨ X.env.kindOf x = some .free) → ∃ c, X.env.cells.lookup x = some c
  cab : ∀ x c, X.fn x = true → X.env.cells.lookup x = some c → X.s₀.heap.objs.size ≤ c
  hd : X.calm = true → X.A.handled = none
  frames : X.A.frames = some X.stack
  stk : X.stack = X.outer ∨ (X.stack = X.env :: X.outer ∧ X.env.frame = some X.env.locals)
  exf : ∀ b ∈ X.ex, b ≠ X.env.locals ∧ ∀ x c, X.env.cells.lookup x = some c → c ≠ b
  bs : ∀ b o, X.base.get? b = some o → X.s₀.heap.get? b = some o ∧ X.H₀ b = none
  bsz : X.base.objs.size ≤ X.s₀.heap.objs.size
  noex : ∀ b o, X.base.get? b = some o → b ∉ X.ex
  exfs : ∀ b ∈ X.ex, b ∉ X.fs
  funs : X.s₀.heap.FunFrames X.base X.outer
  frf : ∀ b ∈ X.fs, X.H₀ b = none

structure Inv (X : Cx) (pins : List (Addr × Obj)) (σ : List (Option V)) (H : Hp) (s : Shared) : Prop where
  ok : X.Ok
  os : s.os = X.s₀.os
  bare : AllBare s.gens
  base : Un X.fs X.ex X.H₀ H X.s₀.heap s.heap
  loc : ∃ m, s.heap.Ns X.env.locals m ∧ ∀ (i : Nat) (x : Str) (v : V), X.N[i]? = some x → σ[i]? = some (some v) → Vis X.env.scope x → ∃ u, RelV v u ∧ Look X.env s.heap m x u
  cell : ∀ x c, X.env.cells.lookup x = some c → ∃ v, s.heap.IsCell c v
  free : H X.env.locals = none
  freeC : ∀ x c, X.env.cells.lookup x = some c → H c = none
  pin : ∀ p ∈ X.pn ++ pins, s.heap.get? p.1 = some p.2 ∧ H p.1 = none ∧ p.1 ≠ X.env.locals ∧ p.1 ∉ X.fs ∧ ∀ v, p.2.data ≠ .cell v
  hok : HOk X.prog X.w H s.heap
  len : σ.length = X.N.length

section
variable {X : Cx} {pins : List (Addr × Obj)} {σ : List (Option V)} {H H' : Hp} {s : Shared} {h' : Heap}

theorem Cx.Ok.nofr (ok : X.Ok) {b : Addr} {o : Obj} (e : X.base.get? b = some o) : b ∉ X.fs := fun hb => by
  have := (ok.funs.mem hb).1
  rw [e] at this; cases this
theorem Inv.bs (I : Inv X pins σ H s) : ∀ b o, X.base.get? b = some o → s.heap.get? b = some o ∧ H b = none := fun b o e =>
  ⟨I.base.keep b o (I.ok.bs b o e).1 (I.ok.bs b o e).2 (I.ok.nofr e) (I.ok.noex b o e), I.base.free b o (I.ok.bs b o e).1 (I.ok.bs b o e).2 (I.ok.noex b o e)⟩
theorem Inv.bk (I : Inv X pins σ H s) : ∀ b o, X.base.get? b = some o → s.heap.get? b = some o := fun b o e => (I.bs b o e).1
theorem Inv.mod (I : Inv X pins σ H s) : Mod X.K X.mg X.base := I.ok.mod
theorem Inv.kIn (I : Inv X pins σ H s) : X.K.In s.heap := I.ok.mod.kin.keeps I.bk
theorem Inv.nolimit (I : Inv X pins σ H s) : s.heap.NoLimit := I.ok.mod.nolimit.keeps I.bk
theorem Inv.lt (I : Inv X pins σ H s) : X.env.locals < s.heap.objs.size := let ⟨_, hn, _⟩ := I.loc; hn.lt
theorem Inv.sz (I : Inv X pins σ H s) : X.s₀.heap.objs.size ≤ s.heap.objs.size := Nat.le_trans I.ok.above (Nat.le_of_lt I.lt)
theorem Inv.nofs (I : Inv X pins σ H s) {a : Addr} (h : s.heap.objs.size ≤ a) : a ∉ X.fs := fun hb => by
  obtain ⟨_, o, ho, _⟩ := I.ok.funs.mem hb
  exact absurd (Nat.lt_of_lt_of_le (Heap.lt_size ho) (Nat.le_trans I.sz h)) (Nat.lt_irrefl _)
theorem Inv.cne (I : Inv X pins σ H s) : ∀ x c, X.env.cells.lookup x = some c → c ≠ X.env.locals := fun x c e z => by
  obtain ⟨v, o, ho, hd⟩ := I.cell x c e
  obtain ⟨m, ⟨o', es, ep, ho', hd', _⟩, _⟩ := I.loc
  rw [z, ho'] at ho; cases ho; rw [hd'] at hd; cases hd
theorem Inv.funs (I : Inv X pins σ H s) : s.heap.FunFrames X.base X.outer := by
  have all : ∀ (l : List Env), (∀ b ∈ frs l, b ∈ X.fs) → X.s₀.heap.FunFrames X.base l → s.heap.FunFrames X.base l := by
    intro l
    induction l with
    | nil => intro _ _; trivial
    | cons env r ih =>
      intro hs hl
      obtain ⟨hk, ⟨L, o, hf, hn, ho, hd⟩, hr⟩ := hl
      have hL : L ∈ X.fs := hs L (by unfold frs; rw [List.filterMap_cons, hf]; exact List.mem_cons_self)
      obtain ⟨sl, e⟩ := I.base.slot L o ho (I.ok.frf L hL) hL fun z => I.ok.exfs L z hL
      exact ⟨hk, ⟨L, _, hf, hn, e, hd⟩, ih (fun b hb => hs b (by unfold frs; rw [List.filterMap_cons, hf]; exact List.mem_cons_of_mem _ hb)) hr⟩
  exact all X.outer (fun _ hb => hb) I.ok.funs

/-- the frames that run, for a call -/
theorem Inv.stack (I : Inv X pins σ H s) : s.heap.FunFrames X.base X.stack := by
  rcases I.ok.stk with e | ⟨e, hf⟩
  · rw [e]; exact I.funs
  · rw [e]
    obtain ⟨m, hn, _⟩ := I.loc
    refine .cons (by rw [I.ok.kind]; decide) hf hn ?_ I.funs
    exact Heap.get?_none_of_le (Nat.le_trans I.ok.bsz I.ok.above)
theorem Inv.stkSub (I : Inv X pins σ H s) : ∀ b ∈ frs X.stack, b ∈ X.env.locals :: X.fs := fun b hb => by
  rcases I.ok.stk with e | ⟨e, hf⟩
  · rw [e] at hb; exact List.mem_cons_of_mem _ hb
  · rw [e] at hb
    unfold frs at hb
    rw [List.filterMap_cons, hf] at hb
    exact hb
theorem Inv.stkFree (I : Inv X pins σ H s) : ∀ b ∈ frs X.stack, H b = none := fun b hb => by
  rcases List.mem_cons.mp (I.stkSub b hb) with e | hb
  · rw [e]; exact I.free
  · obtain ⟨_, o, ho, _⟩ := I.ok.funs.mem hb
    exact I.base.free b o ho (I.ok.frf b hb) fun z => I.ok.exfs b z hb

/-- THE STEP: the untracked objects but the frame and the records at ch are kept (the callers' frames up to slots), the frame's map is kept, the new abstract heap is held -/
theorem Inv.step {g' : Array GenState} {t' : Nat} {d' : Drawn} {ch : List Addr} (I : Inv X pins σ H s)
    (hch : ∀ b ∈ ch, (b ∈ X.ex ∨ X.s₀.heap.objs.size ≤ b) ∧ b ≠ X.env.locals ∧ (∀ x c, X.env.cells.lookup x = some c → c ≠ b) ∧ ∀ p ∈ X.pn ++ pins, p.1 ≠ b)
    (keep : ∀ b o, b ≠ X.env.locals → b ∉ X.fs → b ∉ ch → s.heap.get? b = some o → H b = none → h'.get? b = some o)
    (slot : ∀ b o, b ≠ X.env.locals → b ∈ X.fs → b ∉ ch → s.heap.get? b = some o → H b = none → ∃ sl, h'.get? b = some { o with slots := sl }) (free : ∀ b o, b ∉ ch → s.heap.get? b = some o → H b = none → H' b = none)
    (there : ∀ b o, b ∉ ch → s.heap.get? b = some o → ∃ o', h'.get? b = some o')
    (tups : ∀ b xs, H b = some (.tup xs) → H' b = some (.tup xs)) (frzs : ∀ b o u, H b = some (.frz o u) → H' b = some (.frz o u)) (tbls : ∀ b ps, H b = some (.tbl ps) → ∃ more, H' b = some (.tbl (ps ++ more)))
    (ns : ∀ m, s.heap.Ns X.env.locals m → h'.Ns X.env.locals m) (hok : HOk X.prog X.w H' h') (hg : AllBare g') :
    Inv X pins σ H' { s with heap := h', gens := g', drawn := d', toks := t' } := by
  have neL : ∀ b o, X.s₀.heap.get? b = some o → b ≠ X.env.locals := fun b o e => Nat.ne_of_lt (Nat.lt_of_lt_of_le (Heap.lt_size e) I.ok.above)
  have neC : ∀ b o, X.s₀.heap.get? b = some o → b ∉ X.ex → b ∉ ch := fun b o e hx hb => by
    rcases (hch b hb).1 with z | z
    · exact hx z
    · exact absurd (Nat.lt_of_lt_of_le (Heap.lt_size e) z) (Nat.lt_irrefl _)
  have cellK : ∀ x c, X.env.cells.lookup x = some c → ∀ v, s.heap.IsCell c v → h'.IsCell c v := fun x c e v ⟨o, ho, hd⟩ => by
    have nch : c ∉ ch := fun z => (hch c z).2.2.1 x c e rfl
    by_cases hc : c ∈ X.fs
    · obtain ⟨sl, q⟩ := slot c o (I.cne x c e) hc nch ho (I.freeC x c e)
      exact ⟨_, q, hd⟩
    · exact ⟨o, keep c o (I.cne x c e) hc nch ho (I.freeC x c e), hd⟩
  refine ⟨I.ok, I.os, hg, ⟨fun b o e n hb hx => ?_, fun b o e n hb hx => ?_, fun b o e n hx => ?_, fun b o e hx => ?_, fun b xs e => tups b xs (I.base.tups b xs e), fun b o xs e => frzs b o xs (I.base.frzs b o xs e), fun b ps e => ?_⟩, ?_, fun x c e => ?_, ?_, fun x c e => ?_, fun p hp => ?_, hok, I.len⟩
  · exact keep b o (neL b o e) hb (neC b o e hx) (I.base.keep b o e n hb hx) (I.base.free b o e n hx)
  · obtain ⟨sl, e1⟩ := I.base.slot b o e n hb hx
    obtain ⟨sl', e2⟩ := slot b _ (neL b o e) hb (neC b o e hx) e1 (I.base.free b o e n hx)
    exact ⟨sl', e2⟩
  · obtain ⟨o', e1⟩ := I.base.there b o e hx
    exact free b o' (neC b o e hx) e1 (I.base.free b o e n hx)
  · obtain ⟨o', e1⟩ := I.base.there b o e hx
    exact there b o' (neC b o e hx) e1
  · obtain ⟨m1, e1⟩ := I.base.tbls b ps e
    obtain ⟨m2, e2⟩ := tbls b _ e1
    exact ⟨m1 ++ m2, by rw [e2, Array.append_assoc]⟩
  · obtain ⟨m, hn, hl⟩ := I.loc
    refine ⟨m, ns m hn, fun i x v e1 e2 e3 => ?_⟩
    obtain ⟨u, r, l⟩ := hl i x v e1 e2 e3
    refine ⟨u, r, ?_⟩
    rcases l with l | ⟨k, c, e, z⟩
    · exact .inl l
    · exact .inr ⟨k, c, e, cellK x c e _ z⟩
  · obtain ⟨v, z⟩ := I.cell x c e
    exact ⟨v, cellK x c e v z⟩
  · obtain ⟨m, ⟨o, _, _, ho, _⟩, _⟩ := I.loc
    exact free _ o (fun z => (hch _ z).2.1 rfl) ho I.free
  · obtain ⟨v, o, ho, hd⟩ := I.cell x c e
    exact free c o (fun z => (hch c z).2.2.1 x c e rfl) ho (I.freeC x c e)
  · obtain ⟨e, n, ne, nf, d⟩ := I.pin p hp
    have nch : p.1 ∉ ch := fun z => (hch p.1 z).2.2.2 p hp rfl
    exact ⟨keep p.1 p.2 ne nf nch e n, free p.1 p.2 nch e n, ne, nf, d⟩
/-- .. where the frame's own object is kept too -/
theorem Inv.un {t' : Nat} (I : Inv X pins σ H s) (u : Un X.fs [] H H' s.heap h') (hok : HOk X.prog X.w H' h') : Inv X pins σ H' { s with heap := h', toks := t' } := by
  obtain ⟨m, ⟨o, es, ep, ho, r⟩, _⟩ := id I.loc
  obtain ⟨sl, hL⟩ := u.any ho I.free (by simp)
  exact I.step (g' := s.gens) (d' := s.drawn) (ch := []) (fun _ z => nomatch z) (fun b o _ hb _ e n => u.keep b o e n hb (by simp)) (fun b o _ hb _ e n => u.slot b o e n hb (by simp)) (fun b o _ e n => u.free b o e n (by simp)) (fun b o _ e => u.there b o e (by simp)) u.tups u.frzs u.tbls (fun m' hm => by
    obtain ⟨o', es', ep', ho', r'⟩ := hm
    rw [ho] at ho'; cases ho'
    exact ⟨_, es', ep', hL, r'⟩) hok I.bare
/-- behind a call (or a comprehension's block): the slots of this frame may have changed too, the records at ch may have turned -/
theorem Inv.call {g' : Array GenState} {t' : Nat} {d' : Drawn} {ch : List Addr} (I : Inv X pins σ H s) (u : Un (frs X.stack) ch H H' s.heap h') (hok : HOk X.prog X.w H' h') (hg : AllBare g')
    (hch : ∀ b ∈ ch, (b ∈ X.ex ∨ X.s₀.heap.objs.size ≤ b) ∧ b ≠ X.env.locals ∧ (∀ x c, X.env.cells.lookup x = some c → c ≠ b) ∧ ∀ p ∈ X.pn ++ pins, p.1 ≠ b) :
    Inv X pins σ H' { s with heap := h', gens := g', drawn := d', toks := t' } := by
  obtain ⟨m, ⟨o, es, ep, ho, r⟩, _⟩ := id I.loc
  obtain ⟨sl, hL⟩ := u.any ho I.free fun z => (hch _ z).2.1 rfl
  exact I.step (ch := ch) hch (fun b o hL hb hc e n => u.keep b o e n (fun z => (List.mem_cons.mp (I.stkSub b z)).elim hL hb) hc) (fun b o _ _ hc e n => u.any e n hc) (fun b o hc e n => u.free b o e n hc) (fun b o hc e => u.there b o e hc) u.tups u.frzs u.tbls (fun m' hm => by
    obtain ⟨o', es', ep', ho', r'⟩ := hm
    rw [ho] at ho'; cases ho'
    exact ⟨_, es', ep', hL, r'⟩) hok hg
/-- an untracked record of ours (an iterator) has turned -/
theorem Inv.turned {t' : Nat} {it : Addr} (I : Inv X pins σ H s) (k : ∀ b o, b ≠ it → s.heap.get? b = some o → h'.get? b = some o) (hn : H it = none) (hL : it ≠ X.env.locals)
    (h1 : it ∈ X.ex ∨ X.s₀.heap.objs.size ≤ it) (h2 : ∀ x c, X.env.cells.lookup x = some c → c ≠ it) (h3 : ∀ p ∈ X.pn ++ pins, p.1 ≠ it) : Inv X pins σ H { s with heap := h', toks := t' } := by
  have nit : ∀ b u, H b = some u → b ≠ it := fun b u e z => by rw [z, hn] at e; cases e
  refine I.step (g' := s.gens) (d' := s.drawn) (ch := [it]) (fun b hb => ?_) (fun b o _ _ hc e _ => k b o (fun z => hc (by simp [z])) e) (fun b o _ _ hc e _ => ⟨o.slots, k b o (fun z => hc (by simp [z])) e⟩) (fun _ _ _ _ n => n)
    (fun b o hc e => ⟨o, k b o (fun z => hc (by simp [z])) e⟩) (fun _ _ e => e) (fun _ _ _ e => e) (fun b ps e => ⟨#[], by rw [e]; simp⟩) (fun m hm => ?_) (fun b u e => ?_) I.bare
  · have e : b = it := by simpa using hb
    subst e
    exact ⟨h1, hL, h2, h3⟩
  · obtain ⟨o, es, ep, ho, r⟩ := hm
    exact ⟨o, es, ep, k _ o (Ne.symm hL) ho, r⟩
  · refine (I.hok b u e).stay (fun c v hc q => k c v ?_ q) (fun _ q => q) fun _ _ q => q
    rcases hc with z | z
    · rw [z]; exact nit b u e
    · exact nit c _ z
theorem Inv.tok (I : Inv X pins σ H s) (t : Nat) : Inv X pins σ H { s with toks := t } := I.un (h' := s.heap) (t' := t) Un.refl I.hok
/-- all objects kept -/
theorem Inv.kept {t' : Nat} (I : Inv X pins σ H s) (k : ∀ b u, s.heap.get? b = some u → h'.get? b = some u) : Inv X pins σ H { s with heap := h', toks := t' } := I.un (Un.kept k) (I.hok.kept k)
/-- a new object laid and tracked -/
theorem Inv.laid {a : Addr} {o : HO} {t' : Nat} (I : Inv X pins σ H s) (k : ∀ b u, s.heap.get? b = some u → h'.get? b = some u) (hp : s.heap.objs.size ≤ a) (new : ObjOk X.prog X.w (upd H a o) h' a o) :
    Inv X pins σ (upd H a o) { s with heap := h', toks := t' } := I.un (Un.laid k hp (I.hok.fresh hp)) (I.hok.laid k hp new)
/-- an object written -/
theorem Inv.write {x e : Addr} {o : HO} {t' : Nat} (I : Inv X pins σ H s) (mu : Mut (H x)) (he : e = x ∨ H e = some (.own x)) (k : ∀ b u, b ≠ e → s.heap.get? b = some u → h'.get? b = some u) (heo : ∃ u, h'.get? e = some u)
    (new : ObjOk X.prog X.w (upd H x o) h' x o) : Inv X pins σ (upd H x o) { s with heap := h', toks := t' } := I.un (Un.write mu he k heo) (I.hok.write mu he k heo new)
/-- forgetting slots, pins -/
theorem Inv.weak {σ' : List (Option V)} (I : Inv X pins σ H s) (hl : σ'.length = σ.length) (w : ∀ (i : Nat) v, σ'[i]? = some (some v) → σ[i]? = some (some v)) : Inv X pins σ' H s :=
  ⟨I.ok, I.os, I.bare, I.base, let ⟨m, hn, hl'⟩ := I.loc; ⟨m, hn, fun i x v e1 e2 e3 => hl' i x v e1 (w i v e2) e3⟩, I.cell, I.free, I.freeC, I.pin, I.hok, hl.trans I.len⟩
theorem Inv.pins_of {pins' : List (Addr × Obj)} (I : Inv X pins σ H s) (h : ∀ p ∈ pins', s.heap.get? p.1 = some p.2 ∧ H p.1 = none ∧ p.1 ≠ X.env.locals ∧ p.1 ∉ X.fs ∧ ∀ v, p.2.data ≠ .cell v) : Inv X pins' σ H s :=
  ⟨I.ok, I.os, I.bare, I.base, I.loc, I.cell, I.free, I.freeC, fun p hp => (List.mem_append.mp hp).elim (fun z => I.pin p (List.mem_append_left _ z)) (h p), I.hok, I.len⟩

theorem nodup_ix {N : List Str} (hN : N.Nodup) {i j : Nat} {x : Str} (a : N[i]? = some x) (b : N[j]? = some x) : i = j := by
  obtain ⟨h1, e1⟩ := List.getElem?_eq_some_iff.mp a
  obtain ⟨h2, e2⟩ := List.getElem?_eq_some_iff.mp b
  exact (List.getElem_inj hN).mp (e1.trans e2.symm)

/-- a name is stored; what changed -/
theorem store_ok2 {M : Model} {A : Around} {E : Value → Shared → Prop} {i : Nat} {x : Str} {v : V} {u : Value} {Q : Unit → Shared → Prop} (I : Inv X pins σ H s) (hN : X.N.Nodup) (hi : X.N[i]? = some x) (hx : Loc X.env.scope x) (r : RelV v u)
    (h : ∀ s', Inv X pins (σ.set i (some v)) H s' → (∃ a, Heap.SameBut a s.heap s'.heap ∧ (a = X.env.locals ∨ X.env.cells.lookup x = some a)) → Q () s') (hf : X.fn x = true ∨ X.env.scope.names.lookup x = some .local := by first | exact .inl rfl | exact .inr rfl | assumption) : wpAny M A (storeName X.env x u) Q E s := by
  obtain ⟨m, hn, hl⟩ := id I.loc
  have hcls : (X.env.scope.kind == .class || (X.env.scope.kind == .module && X.env.locals != X.env.globals)) = false := by rw [I.ok.kind]; rfl
  have hiσ : i < σ.length := by rw [I.len]; exact (List.getElem?_eq_some_iff.mp hi).1
  have cne := I.cne
  have tracked : ∀ {a : Addr} {h' : Heap}, (∃ o, s.heap.get? a = some o ∧ H a = none) → Heap.SameBut a s.heap h' → HOk X.prog X.w H h' := fun {a h'} ha hs b ob e => by
    obtain ⟨_, _, hfree⟩ := ha
    refine (I.hok b ob e).stay (fun c w' hc q => (hs.2 c ?_).trans q) (fun _ q => q) fun _ _ q => q
    rintro rfl
    rcases hc with rfl | hc
    · rw [hfree] at e; cases e
    · rw [hfree] at hc; cases hc
  rcases hx with hk | hk
  · refine wpAny_storeName_local hk hn (fun h' hn' hs => ?_) hcls
    obtain ⟨oL, _, _, hoL, _⟩ := id hn
    refine h _ ⟨I.ok, I.os, I.bare, ⟨fun b o e n hb hx => ?_, fun b o e n hb hx => ?_, I.base.free, fun b o e hx => ?_, I.base.tups, I.base.frzs, I.base.tbls⟩, ⟨_, hn', fun j y v' e1 e2 e3 => ?_⟩, fun y c e => ?_, I.free, I.freeC, fun p hp => ?_, tracked ⟨oL, hoL, I.free⟩ hs, by simpa using I.len⟩ ⟨_, hs, .inl rfl⟩
    · exact (hs.2 b (Nat.ne_of_lt (Nat.lt_of_lt_of_le (Heap.lt_size e) I.ok.above))).trans (I.base.keep b o e n hb hx)
    · obtain ⟨sl, e1⟩ := I.base.slot b o e n hb hx
      exact ⟨sl, (hs.2 b (Nat.ne_of_lt (Nat.lt_of_lt_of_le (Heap.lt_size e) I.ok.above))).trans e1⟩
    · obtain ⟨o', e1⟩ := I.base.there b o e hx
      exact ⟨o', (hs.2 b (Nat.ne_of_lt (Nat.lt_of_lt_of_le (Heap.lt_size e) I.ok.above))).trans e1⟩
    · by_cases hj : j = i
      · subst hj
        rw [hi] at e1; cases e1
        rw [List.getElem?_set_self hiσ] at e2
        cases e2
        exact ⟨u, r, .inl ⟨hk, by simp⟩⟩
      · rw [List.getElem?_set_ne (Ne.symm hj)] at e2
        obtain ⟨u', r', q⟩ := hl j y v' e1 e2 e3
        refine ⟨u', r', ?_⟩
        rcases q with ⟨k, e⟩ | ⟨k, c, e, z⟩
        · refine .inl ⟨k, ?_⟩
          have : y ≠ x := fun e => hj (nodup_ix hN e1 (e ▸ hi))
          simp [this, e]
        · exact .inr ⟨k, c, e, z.sameBut hs (cne y c e)⟩
    · obtain ⟨w', z⟩ := I.cell y c e
      exact ⟨w', z.sameBut hs (cne y c e)⟩
    · obtain ⟨e, n, ne, nf, d⟩ := I.pin p hp
      exact ⟨(hs.2 p.1 ne).trans e, n, ne, nf, d⟩
  · have hfn : X.fn x = true := by
      rcases hf with z | z
      · exact z
      · rw [z] at hk; cases hk
    obtain ⟨c, hc⟩ := I.ok.has x (.inl hk)
    obtain ⟨w', z⟩ := I.cell x c hc
    refine wpAny_storeName_cell I.ok.kind hk hc z (fun h' hc' hs => ?_)
    obtain ⟨oc, hoc, hocd⟩ := id z
    refine h { s with heap := h' } ⟨I.ok, I.os, I.bare, ⟨fun b o e n hb hx => ?_, fun b o e n hb hx => ?_, I.base.free, fun b o e hx => ?_, I.base.tups, I.base.frzs, I.base.tbls⟩, ⟨m, hn.sameBut hs (Ne.symm (cne x c hc)), fun j y v' e1 e2 e3 => ?_⟩, fun y c' e => ?_, I.free, I.freeC, fun p hp => ?_, tracked ⟨oc, hoc, I.freeC x c hc⟩ hs, by simpa using I.len⟩ ⟨c, hs, .inr hc⟩
    · exact (hs.2 b (Nat.ne_of_lt (Nat.lt_of_lt_of_le (Heap.lt_size e) (I.ok.cab x c hfn hc)))).trans (I.base.keep b o e n hb hx)
    · obtain ⟨sl, e1⟩ := I.base.slot b o e n hb hx
      exact ⟨sl, (hs.2 b (Nat.ne_of_lt (Nat.lt_of_lt_of_le (Heap.lt_size e) (I.ok.cab x c hfn hc)))).trans e1⟩
    · obtain ⟨o', e1⟩ := I.base.there b o e hx
      exact ⟨o', (hs.2 b (Nat.ne_of_lt (Nat.lt_of_lt_of_le (Heap.lt_size e) (I.ok.cab x c hfn hc)))).trans e1⟩
    · by_cases hj : j = i
      · subst hj
        rw [hi] at e1; cases e1
        rw [List.getElem?_set_self hiσ] at e2
        cases e2
        exact ⟨u, r, .inr ⟨.inl hk, c, hc, hc'⟩⟩
      · rw [List.getElem?_set_ne (Ne.symm hj)] at e2
        obtain ⟨u', r', q⟩ := hl j y v' e1 e2 e3
        refine ⟨u', r', ?_⟩
        rcases q with q | ⟨k, c', e, z'⟩
        · exact .inl q
        · refine .inr ⟨k, c', e, z'.sameBut hs ?_⟩
          rintro rfl
          exact hj (nodup_ix hN e1 (I.ok.inj _ _ _ e hc ▸ hi))
    · by_cases hcc : c' = c
      · subst hcc; exact ⟨_, hc'⟩
      · obtain ⟨w2, z2⟩ := I.cell y c' e
        exact ⟨w2, z2.sameBut hs hcc⟩
    · obtain ⟨e, n, ne, nf, d⟩ := I.pin p hp
      refine ⟨(hs.2 p.1 ?_).trans e, n, ne, nf, d⟩
      intro q
      rw [q, hoc] at e
      have q' : oc = p.2 := Option.some.inj e
      exact d w' (by rw [← q']; exact hocd)
theorem store_ok {M : Model} {A : Around} {E : Value → Shared → Prop} {i : Nat} {x : Str} {v : V} {u : Value} {Q : Unit → Shared → Prop} (I : Inv X pins σ H s) (hN : X.N.Nodup) (hi : X.N[i]? = some x) (hx : Loc X.env.scope x) (r : RelV v u)
    (h : ∀ s', Inv X pins (σ.set i (some v)) H s' → Q () s') (hf : X.fn x = true ∨ X.env.scope.names.lookup x = some .local := by first | exact .inl rfl | exact .inr rfl | assumption) : wpAny M A (storeName X.env x u) Q E s :=
  store_ok2 I hN hi hx r (fun s' I' _ => h s' I') hf
/-- behind a call or a block, the state as it is -/
theorem Inv.call' {s' : Shared} {ch : List Addr} (I : Inv X pins σ H s) (ho : s'.os = s.os) (u : Un (frs X.stack) ch H H' s.heap s'.heap) (hok : HOk X.prog X.w H' s'.heap) (hg : AllBare s'.gens)
    (hch : ∀ b ∈ ch, (b ∈ X.ex ∨ X.s₀.heap.objs.size ≤ b) ∧ b ≠ X.env.locals ∧ (∀ x c, X.env.cells.lookup x = some c → c ≠ b) ∧ ∀ p ∈ X.pn ++ pins, p.1 ≠ b) : Inv X pins σ H' s' := by
  obtain ⟨h', g', d', t', o'⟩ := s'
  have e : o' = s.os := ho
  subst e
  exact I.call (g' := g') (t' := t') (d' := d') u hok hg hch
end

/-! ### the judgements -/
/-- an exception: its class, its own dict's address (where it has one), the abstract heap behind it -/
abbrev XK := Value → Option Addr → Hp → Prop
abbrev St := List (Option V)
abbrev VK := V → Hp → Prop
/-- an expression's reading; a test's; an argument list's -/
abbrev TE := St → Hp → VK → Prop
abbrev TT := St → Hp → (Bool → Hp → Prop) → Prop
abbrev TA := St → Hp → (List V → Hp → Prop) → Prop
/-- what is wanted behind a statement -/
structure Ends where
  nx : St → Hp → Prop
  rt : VK
  bk : St → Hp → Prop := fun _ _ => False
  ct : St → Hp → Prop := fun _ _ => False
abbrev TS := Ends → St → Hp → Prop

inductive EP (X : Cx) (pins : List (Addr × Obj)) (σ : St) (Q : VK) (u : Value) (s' : Shared) : Prop
  | mk (v : _) (H' : _) (h1 : Inv X pins σ H' s') (h2 : RelV v u) (h3 : Q v H') : EP X pins σ Q u s'
def TP (X : Cx) (pins : List (Addr × Obj)) (σ : St) (Q : Bool → Hp → Prop) (b : Bool) (s' : Shared) : Prop := ∃ H', Inv X pins σ H' s' ∧ Q b H'
inductive AP (X : Cx) (pins : List (Addr × Obj)) (σ : St) (Q : List V → Hp → Prop) (us : List Value) (s' : Shared) : Prop
  | mk (vs : _) (H' : _) (h1 : Inv X pins σ H' s') (h2 : Vals vs us) (h3 : Q vs H') : AP X pins σ Q us s'
def SP (X : Cx) (pins : List (Addr × Obj)) (D : Ends) (f : Flow) (s' : Shared) : Prop :=
  match f with
  | .next => ∃ σ' H', Inv X pins σ' H' s' ∧ D.nx σ' H'
  | .brk => ∃ σ' H', Inv X pins σ' H' s' ∧ D.bk σ' H'
  | .cont => ∃ σ' H', Inv X pins σ' H' s' ∧ D.ct σ' H'
  | .ret u => ∃ v σ' H', Inv X pins σ' H' s' ∧ RelV v u ∧ D.rt v H'

def PE (X : Cx) (e : Expr) (t : TE) : Prop :=
  ∀ (pins : List (Addr × Obj)) (s : Shared) (σ : St) (H : Hp) (Q : VK), Inv X pins σ H s → t σ H Q → wpAny (model X.prog X.w) X.A (eval e X.env) (EP X pins σ Q) X.xe s
def PT (X : Cx) (e : Expr) (t : TT) : Prop :=
  ∀ (pins : List (Addr × Obj)) (s : Shared) (σ : St) (H : Hp) (Q : Bool → Hp → Prop), Inv X pins σ H s → t σ H Q → wpAny (model X.prog X.w) X.A (isTrue e X.env (eval e X.env)) (TP X pins σ Q) X.xe s
/-- a test whatever its 'whole' is (and, or) -/
def PW (X : Cx) (e : Expr) (t : TT) : Prop :=
  ∀ (whole : Sem Value) (pins : List (Addr × Obj)) (s : Shared) (σ : St) (H : Hp) (Q : Bool → Hp → Prop), Inv X pins σ H s → t σ H Q → wpAny (model X.prog X.w) X.A (isTrue e X.env whole) (TP X pins σ Q) X.xe s
theorem PW.pt {X : Cx} {e : Expr} {t : TT} (h : PW X e t) : PT X e t := h _
/-- an argument list (no star), from the left -/
def PA (X : Cx) (es : List Expr) (t : TA) : Prop :=
  ∀ (pos : Pos) (pins : List (Addr × Obj)) (s : Shared) (σ : St) (H : Hp) (Q : List V → Hp → Prop), Inv X pins σ H s → t σ H Q → wpAny (model X.prog X.w) X.A (spliced (backTo pos (starEach es X.env))) (AP X pins σ Q) X.xe s
def PS (X : Cx) (st : Stmt) (t : TS) : Prop :=
  ∀ (pins : List (Addr × Obj)) (s : Shared) (σ : St) (H : Hp) (D : Ends), Inv X pins σ H s → t D σ H → wpAny (model X.prog X.w) X.A (exec st X.env) (SP X pins D) X.xe s
def PSs (X : Cx) (st : List Stmt) (t : TS) : Prop :=
  ∀ (pins : List (Addr × Obj)) (s : Shared) (σ : St) (H : Hp) (D : Ends), Inv X pins σ H s → t D σ H → wpAny (model X.prog X.w) X.A (execs st X.env) (SP X pins D) X.xe s
/-- weaken the end -/
theorem thn {α : Type} {t : Sem α} {Q Q' : α → Shared → Prop} {M : Model} {A : Around} {E : Value → Shared → Prop} {s : Shared} (h : wpAny M A t Q E s) (hQ : ∀ a s, Q a s → Q' a s) : wpAny M A t Q' E s := wpAny_mono h hQ fun _ _ x => x
end L2

namespace L2
open PySem PySem.Spec PyProof.Rows
section
variable {X : Cx}

/-! ### names and constants -/
inductive tVar (i : Nat) (σ : St) (H : Hp) (Q : VK) : Prop
  | mk (v : _) (h1 : σ[i]? = some (some v)) (h2 : Q v H) : tVar i σ H Q
def tC (v : V) : TE := fun _ H Q => Q v H
theorem pe_var {i : Nat} {x : Str} {pos : Pos} (hN : X.N[i]? = some x) (hv : Vis X.env.scope x) (hd : (x == ("__debug__" : Str)) = false := by decide) (hcd : (x == ("__classdict__" : Str)) = false := by decide) : PE X (.Name x pos) (tVar i) := by
  intro pins s σ H Q I h
  obtain ⟨v, e, h⟩ := h
  obtain ⟨m, hn, hl⟩ := I.loc
  obtain ⟨u, r, l⟩ := hl i x v hN e hv
  have fin : EP X pins σ Q u s := ⟨v, H, I, r, h⟩
  rcases l with ⟨hk, hm⟩ | ⟨hk, c, hc, hcell⟩
  · exact wpAny_Name (wpAny_loadName_local I.ok.kind hk hn hm fin) hd
  · rcases hk with hk | hk
    · exact wpAny_Name (wpAny_loadName_cell I.ok.kind hk hc hcell fin) hd
    · exact wpAny_Name (wpAny_loadName_free I.ok.kind hk hc hcell fin hcd) hd
theorem pe_int {i j pos} : PE X (.Constant (.int i) j pos) (tC (.int i)) := fun _ _ _ H _ I h => wpAny_Constant_int ⟨.int i, H, I.tok _, ⟨_, rfl⟩, h⟩
theorem pe_bl {b j pos} : PE X (.Constant (.bool b) j pos) (tC (.bl b)) := fun _ _ _ H _ I h => Constant_bool ⟨.bl b, H, I, rfl, h⟩
theorem pe_non {j pos} : PE X (.Constant .none j pos) (tC .non) := fun _ _ _ H _ I h => Constant_none ⟨.non, H, I, rfl, h⟩
theorem pe_str {x j pos} : PE X (.Constant (.str x) j pos) (tC (.str x)) := fun _ _ _ H _ I h => Calls.Constant_str ⟨.str x, H, I.tok _, ⟨_, rfl⟩, h⟩

/-- a global name of the def -/
def Gl (X : Cx) (x : Str) : Prop := X.env.kindOf x = some .globalImplicit
theorem ld_glob {E : Value → Shared → Prop} {pins : List (Addr × Obj)} {s : Shared} {σ : St} {H : Hp} {x : Str} {u : Value} {pos : Pos} {Q : Value → Shared → Prop} (I : Inv X pins σ H s) (hg : Gl X x) (hm : X.mg x = some u) (h : Q u s)
    (hd : (x == ("__debug__" : Str)) = false := by decide) : wpAny (model X.prog X.w) X.A (eval (.Name x pos) X.env) Q E s :=
  Calls.Name_function_global I.ok.kind hg (Calls.loadGlobal_global (by rw [I.ok.glob]; exact I.mod.glob.keeps I.bk) hm h) hd
theorem ld_blt {E : Value → Shared → Prop} {pins : List (Addr × Obj)} {s : Shared} {σ : St} {H : Hp} {x : Str} {u : Value} {pos : Pos} {Q : Value → Shared → Prop} (I : Inv X pins σ H s) (hg : Gl X x) (hm : X.mg x = none) (hv : bootBuiltins x = some u) (h : Q u s)
    (hn : x ≠ "__name__" := by decide) (hd : (x == ("__debug__" : Str)) = false := by decide) : wpAny (model X.prog X.w) X.A (eval (.Name x pos) X.env) Q E s := by
  obtain ⟨mb, h1, h2⟩ := I.mod.blt
  exact Calls.Name_function_global I.ok.kind hg (Calls.loadGlobal_builtin (by rw [I.ok.glob]; exact I.mod.glob.keeps I.bk) hm (by rw [I.ok.blt]; exact h1.keeps I.bk) ((h2 x hn).trans hv) h) hd
/-- a module's constant, a class, a function, as a value -/
theorem pe_glob {x : Str} {v : V} {u : Value} {pos : Pos} (hg : Gl X x) (hm : X.mg x = some u) (r : RelV v u) (hd : (x == ("__debug__" : Str)) = false := by decide) : PE X (.Name x pos) (tC v) :=
  fun _ _ _ H _ I h => ld_glob I hg hm ⟨v, H, I, r, h⟩ hd
theorem pe_bltn {x : Str} {v : V} {u : Value} {pos : Pos} (hg : Gl X x) (hm : X.mg x = none) (hv : bootBuiltins x = some u) (r : RelV v u) (hn : x ≠ "__name__" := by decide) (hd : (x == ("__debug__" : Str)) = false := by decide) : PE X (.Name x pos) (tC v) :=
  fun _ _ _ H _ I h => ld_blt I hg hm hv ⟨v, H, I, r, h⟩ hn hd

/-! ### arithmetic -/
variable {a b : Expr} {ta tb : TE} {pos : Pos}
/-! ### comparisons -/
def PC (X : Cx) (op : CmpOp) (a b : Expr) (t : TE) : Prop :=
  ∀ (pins : List (Addr × Obj)) (s : Shared) (σ : St) (H : Hp) (Q : VK), Inv X pins σ H s → t σ H Q →
    wpAny (model X.prog X.w) X.A (eval a X.env) (fun v s₁ => wpAny (model X.prog X.w) X.A (eval b X.env) (fun u s₂ => wpAny (model X.prog X.w) X.A (compareOp op v u) (EP X pins σ Q) X.xe s₂) X.xe s₁) X.xe s
/-- a comparison as a value, as a test -/
def tB (t : TE) : TT := fun σ H Q => t σ H fun x H1 => ∃ c, x = .bl c ∧ Q c H1
/-- an expression whose value is a bool, as a test -/
theorem pt_val {e : Expr} {t : TE} (h : PE X e t) (he : ∀ whole, isTrue e X.env whole = (do let v ← whole; standAt e.pos; holding [v] (truthy v)) := by intro _; rfl) : PT X e (tB t) := by
  intro pins s σ H Q I hw
  refine isTrue_plain (thn (h pins s σ H _ I hw) fun v s1 ⟨x, H1, I1, r1, q1⟩ => ?_) (he _)
  obtain ⟨d, rfl, q⟩ := q1
  cases r1
  exact wpAny_truthy_bool ⟨H1, I1, q⟩

/-! ### and, or, not -/
variable {tA tB' : TT} {rest : List Expr}
def tAnd (t u : TT) : TT := fun σ H Q => t σ H fun c H1 => if c = true then u σ H1 Q else Q false H1
def tOr (t u : TT) : TT := fun σ H Q => t σ H fun c H1 => if c = true then Q true H1 else u σ H1 Q
def tNot (t : TT) : TT := fun σ H Q => t σ H fun c H1 => Q (!c) H1
theorem pw_and1 (ha : PT X a tA) : PW X (.BoolOp .And [a] pos) tA := by
  intro wh pins s σ H Q I h
  refine isTrue_and (thn (ha pins s σ H Q I h) fun c s1 e => ?_)
  cases c with
  | true => exact isTrue_and_nil e
  | false => exact e
theorem pw_or1 (ha : PT X a tA) : PW X (.BoolOp .Or [a] pos) tA := by
  intro wh pins s σ H Q I h
  refine isTrue_or (thn (ha pins s σ H Q I h) fun c s1 e => ?_)
  cases c with
  | false => exact isTrue_or_nil e
  | true => exact e
theorem pw_and (ha : PT X a tA) (hb : PW X (.BoolOp .And (b :: rest) pos) tB') : PW X (.BoolOp .And (a :: b :: rest) pos) (tAnd tA tB') := by
  intro wh pins s σ H Q I h
  refine isTrue_and (thn (ha pins s σ H _ I h) fun c s1 ⟨H1, I1, q1⟩ => ?_)
  cases c with
  | true => exact hb wh pins s1 σ H1 Q I1 q1
  | false => exact ⟨H1, I1, q1⟩
theorem pw_or (ha : PT X a tA) (hb : PW X (.BoolOp .Or (b :: rest) pos) tB') : PW X (.BoolOp .Or (a :: b :: rest) pos) (tOr tA tB') := by
  intro wh pins s σ H Q I h
  refine isTrue_or (thn (ha pins s σ H _ I h) fun c s1 ⟨H1, I1, q1⟩ => ?_)
  cases c with
  | true => exact ⟨H1, I1, q1⟩
  | false => exact hb wh pins s1 σ H1 Q I1 q1
theorem pt_not (ha : PT X a tA) : PT X (.UnaryOp .Not a pos) (tNot tA) := by
  intro pins s σ H Q I h
  exact isTrue_not (ha pins s σ H (fun c H1 => Q (!c) H1) I h)
/-- .. as values (bools) -/
def tAndV (ta tb : TE) : TE := fun σ H Q => ta σ H fun x H1 => ∃ c, x = .bl c ∧ if c = true then tb σ H1 Q else Q (.bl false) H1
def tNotV (ta : TE) : TE := fun σ H Q => ta σ H fun x H1 => ∃ c, x = .bl c ∧ Q (.bl (!c)) H1
theorem pe_one {op} {t : TE} (h : PE X a t) : PE X (.BoolOp op [a] pos) t := fun pins s σ H Q I hw => BoolOp_one (h pins s σ H Q I hw)
theorem pe_and (ha : PE X a ta) (hb : PE X (.BoolOp .And (b :: rest) pos) tb) : PE X (.BoolOp .And (a :: b :: rest) pos) (tAndV ta tb) := by
  intro pins s σ H Q I h
  refine BoolOp_and (thn (ha pins s σ H _ I h) fun v s1 ⟨x, H1, I1, r1, q1⟩ => ?_)
  obtain ⟨c, rfl, q1⟩ := q1
  cases r1
  refine wpAny_truthy_bool ?_
  cases c with
  | true => exact hb pins s1 σ H1 Q I1 q1
  | false => exact ⟨.bl false, H1, I1, rfl, q1⟩
theorem pe_not (ha : PE X a ta) : PE X (.UnaryOp .Not a pos) (tNotV ta) := by
  intro pins s σ H Q I h
  refine UnaryOp_ (thn (ha pins s σ H _ I h) fun v s1 ⟨x, H1, I1, r1, q1⟩ => ?_)
  obtain ⟨c, rfl, q1⟩ := q1
  cases r1
  exact not_of (wpAny_truthy_bool ⟨.bl (!c), H1, I1, rfl, q1⟩)
/-- a if t else b -/
def tIf (t : TT) (ta tb : TE) : TE := fun σ H Q => t σ H fun c H1 => if c = true then ta σ H1 Q else tb σ H1 Q
theorem pe_ifExp {c : Expr} (hc : PT X c tA) (ha : PE X a ta) (hb : PE X b tb) : PE X (.IfExp c a b pos) (tIf tA ta tb) := by
  intro pins s σ H Q I h
  refine wpAny_IfExp (thn (hc pins s σ H _ I h) fun d s1 ⟨H1, I1, q1⟩ => ?_)
  cases d with
  | true => exact ha pins s1 σ H1 Q I1 q1
  | false => exact hb pins s1 σ H1 Q I1 q1
end
end L2

namespace L2
open PySem PySem.Spec PyProof.Rows

/-! ### a list, a tuple that is read: tracked, frozen, or an object of the module -/
def SqL (K : PySem.W.Frag) (H : Hp) (a : Addr) (xs : List V) : Prop :=
  Rd H a (.lst xs) ∨
    ∃ (o : Obj) (its : Array Value) (n : Nat), K.lookup a = some o ∧ o.cls = .type "list" ∧ o.dict = none ∧ o.data = .seq its n ∧ its.size ≤ sizeLine ∧ Vals xs its.toList
def SqT (K : PySem.W.Frag) (H : Hp) (a : Addr) (xs : List V) : Prop :=
  Rd H a (.tup xs) ∨
    ∃ (o : Obj) (its : Array Value) (n : Nat), K.lookup a = some o ∧ o.cls = .type "tuple" ∧ o.data = .seq its n ∧ its.size ≤ sizeLine ∧ Vals xs its.toList
def absV : Value → Option V
  | .none => some .non
  | .bool b => some (.bl b)
  | .int i _ => some (.int i)
  | .str x _ => some (.str x)
  | .bytes b _ => some (.byt b)
  | .float b _ => some (.flt b)
  | .ref a => some (.ref a)
  | .type n => some (.ty n)
  | _ => none
theorem RelV.abs {x : V} {u : Value} (r : RelV x u) : absV u = some x := by
  cases x with
  | non => cases r; rfl
  | bl _ => cases r; rfl
  | int _ => obtain ⟨t, rfl⟩ := r; rfl
  | str _ => obtain ⟨t, rfl⟩ := r; rfl
  | byt _ => obtain ⟨t, rfl⟩ := r; rfl
  | flt _ => obtain ⟨t, rfl⟩ := r; rfl
  | ref _ => cases r; rfl
  | ty _ => cases r; rfl
theorem RelV.inj {x y : V} {u : Value} (r : RelV x u) (q : RelV y u) : x = y := Option.some.inj (r.abs.symm.trans q.abs)
theorem Vals.inj {xs ys : List V} {us : List Value} (a : Vals xs us) (b : Vals ys us) : xs = ys := by
  induction a generalizing ys with
  | nil => cases b; rfl
  | cons r t ih => cases b with | cons r' t' => rw [r.inj r', ih t']
section
variable {X : Cx} {pins : List (Addr × Obj)} {σ : St} {H : Hp} {s : Shared} {a : Addr} {xs ys : List V}
theorem SqL.of {K : PySem.W.Frag} (h : H a = some (.lst xs)) : SqL K H a xs := .inl (.inl h)
theorem SqT.of {K : PySem.W.Frag} (h : H a = some (.tup xs)) : SqT K H a xs := .inl (.inl h)
theorem Inv.list (I : Inv X pins σ H s) (h : SqL X.K H a xs) : ∃ its : List Value, Vals xs its ∧ PlainL s.heap a its.toArray ∧ xs.length ≤ sizeLine := by
  rcases h with h | ⟨o, its, n, hk, hc, hd, hs, hz, r⟩
  · obtain ⟨z, its, n, r, e⟩ := h.ok I.hok
    exact ⟨its, r, ⟨_, n, e, rfl, rfl, rfl⟩, z⟩
  · refine ⟨its.toList, r, ⟨o, n, I.kIn a o hk, hc, hd, by simpa using hs⟩, ?_⟩
    have e := r.length
    simp only [Array.length_toList] at e
    lia
theorem Inv.tuple (I : Inv X pins σ H s) (h : SqT X.K H a xs) : ∃ its : List Value, Vals xs its ∧ IsTup s.heap a its.toArray ∧ xs.length ≤ sizeLine := by
  rcases h with h | ⟨o, its, n, hk, hc, hs, hz, r⟩
  · obtain ⟨z, its, r, p⟩ := h.ok I.hok
    exact ⟨its, r, p, z⟩
  · refine ⟨its.toList, r, ⟨o, I.kIn a o hk, hc, n, by simpa using hs⟩, ?_⟩
    have e := r.length
    simp only [Array.length_toList] at e
    lia
theorem Inv.list_inj (I : Inv X pins σ H s) (h : SqL X.K H a xs) (h' : SqL X.K H a ys) : xs = ys := by
  obtain ⟨its, r, ⟨o, n, e, _, _, d⟩, _⟩ := I.list h
  obtain ⟨its', r', ⟨o', n', e', _, _, d'⟩, _⟩ := I.list h'
  rw [e] at e'; cases e'
  rw [d] at d'
  injection d' with d1 _
  have : its = its' := by simpa using congrArg Array.toList d1
  subst this
  exact r.inj r'
theorem Inv.tuple_inj (I : Inv X pins σ H s) (h : SqT X.K H a xs) (h' : SqT X.K H a ys) : xs = ys := by
  obtain ⟨its, r, ⟨o, e, _, n, d⟩, _⟩ := I.tuple h
  obtain ⟨its', r', ⟨o', e', _, n', d'⟩, _⟩ := I.tuple h'
  rw [e] at e'; cases e'
  rw [d] at d'
  injection d' with d1 _
  have : its = its' := by simpa using congrArg Array.toList d1
  subst this
  exact r.inj r'
end

/-! ### another wish about exceptions -/
abbrev Cx.wish (X : Cx) (E : Value → Shared → Prop) : Cx := { X with xe := E }
/-- no exception leaves -/
abbrev Cx.nox (X : Cx) : Cx := X.wish fun _ _ => False
theorem Cx.Ok.wish {X : Cx} (ok : X.Ok) (E : Value → Shared → Prop) : (X.wish E).Ok :=
  ⟨ok.mod, ok.kind, ok.glob, ok.blt, ok.above, ok.inj, ok.has, ok.cab, ok.hd, ok.frames, ok.stk, ok.exf, ok.bs, ok.bsz, ok.noex, ok.exfs, ok.funs, ok.frf⟩
theorem Cx.Ok.unwish {X : Cx} {E : Value → Shared → Prop} (ok : (X.wish E).Ok) : X.Ok :=
  ⟨ok.mod, ok.kind, ok.glob, ok.blt, ok.above, ok.inj, ok.has, ok.cab, ok.hd, ok.frames, ok.stk, ok.exf, ok.bs, ok.bsz, ok.noex, ok.exfs, ok.funs, ok.frf⟩
section
variable {X : Cx} {pins : List (Addr × Obj)} {σ : St} {H : Hp} {s : Shared} {E : Value → Shared → Prop}
theorem Inv.wish (I : Inv X pins σ H s) (E : Value → Shared → Prop) : Inv (X.wish E) pins σ H s := ⟨I.ok.wish E, I.os, I.bare, I.base, I.loc, I.cell, I.free, I.freeC, I.pin, I.hok, I.len⟩
theorem Inv.unwish (I : Inv (X.wish E) pins σ H s) : Inv X pins σ H s := ⟨I.ok.unwish, I.os, I.bare, I.base, I.loc, I.cell, I.free, I.freeC, I.pin, I.hok, I.len⟩
theorem SP.unwish {D : Ends} {f : Flow} {s' : Shared} (h : SP (X.wish E) pins D f s') : SP X pins D f s' := by
  cases f with
  | next => obtain ⟨σ', H', I, q⟩ := h; exact ⟨σ', H', I.unwish, q⟩
  | brk => obtain ⟨σ', H', I, q⟩ := h; exact ⟨σ', H', I.unwish, q⟩
  | cont => obtain ⟨σ', H', I, q⟩ := h; exact ⟨σ', H', I.unwish, q⟩
  | ret u => obtain ⟨v, σ', H', I, r, q⟩ := h; exact ⟨v, σ', H', I.unwish, r, q⟩
theorem PSs.nox {st : List Stmt} {t : TS} (h : PSs X.nox st t) : PSs X st t := fun pins s σ H D I hw =>
  wpAny_mono (h pins s σ H D (I.wish _) hw) (fun _ _ q => q.unwish) fun _ _ z => False.elim z
end

/-! ### blocks and small statements -/
section
variable {X : Cx} {st : Stmt} {rest : List Stmt} {t u : TS} {e : Expr} {te : TE} {pos : Pos}
def tNext : TS := fun D σ H => D.nx σ H
@[reducible] def Ends.to (D : Ends) (n : St → Hp → Prop) : Ends := { D with nx := n }
def tSeq (t u : TS) : TS := fun D σ H => t (D.to (u D)) σ H
theorem pss_nil : PSs X [] tNext := fun _ _ σ H _ I h => wpAny_execs_nil ⟨σ, H, I, h⟩
theorem pss_cons (h1 : PS X st t) (h2 : PSs X rest u) : PSs X (st :: rest) (tSeq t u) := by
  intro pins s σ H D I h
  refine wpAny_execs_cons (thn (h1 pins s σ H { D with nx := u D } I h) fun f s1 q => ?_)
  cases f with
  | next =>
    obtain ⟨σ', H', I', q⟩ := q
    exact h2 pins s1 σ' H' D I' q
  | ret v => exact q
  | brk => exact q
  | cont => exact q
theorem pss_one (h1 : PS X st t) : PSs X [st] t := by
  intro pins s σ H D I h
  refine wpAny_execs_cons (thn (h1 pins s σ H D I h) fun f s1 q => ?_)
  cases f with
  | next => exact wpAny_execs_nil q
  | ret v => exact q
  | brk => exact q
  | cont => exact q
/-- in a def's body nothing is shown -/
theorem Inv.quiet {pins : List (Addr × Obj)} {σ : St} {H : Hp} {s : Shared} (I : Inv X pins σ H s) : interactive X.env = false := by simp [interactive, I.ok.kind]
/-- an expression whose value is dropped -/
def tDrop (te : TE) : TS := fun D σ H => te σ H fun _ H1 => D.nx σ H1
theorem ps_expr (he : PE X e te) (hs : swapsWith e none pos.line X.env = pure false := by rfl) : PS X (.Expr e pos) (tDrop te) := by
  intro pins s σ H D I h
  exact wpAny_Expr_any (thn (he pins s σ H _ I h) fun v s1 ⟨x, H1, I1, r1, q1⟩ => ⟨σ, H1, I1, q1⟩) I.quiet hs
def tRet (te : TE) : TS := fun D σ H => te σ H D.rt
theorem ps_ret (he : PE X e te) : PS X (.Return (some e) pos) (tRet te) := by
  intro pins s σ H D I h
  exact wpAny_Return_some (thn (he pins s σ H _ I h) fun v s1 ⟨x, H1, I1, r1, q1⟩ => ⟨x, σ, H1, I1, r1, q1⟩)
def tIfS (c : TT) (t u : TS) : TS := fun D σ H => c σ H fun b H1 => if b = true then t D σ H1 else u D σ H1
theorem ps_if {c : Expr} {a b : List Stmt} {tc : TT} (hc : PT X c tc) (ha : PSs X a t) (hb : PSs X b u) : PS X (.If c a b pos) (tIfS tc t u) := by
  intro pins s σ H D I h
  refine wpAny_If (thn (hc pins s σ H _ I h) fun d s1 ⟨H1, I1, q1⟩ => ?_)
  cases d with
  | true => exact ha pins s1 σ H1 D I1 q1
  | false => exact hb pins s1 σ H1 D I1 q1
/-- code that the proof never comes to -/
def tNever : TS := fun _ _ _ => False
theorem ps_never : PS X st tNever := fun _ _ _ _ _ _ h => h.elim
theorem pss_never {sts : List Stmt} : PSs X sts tNever := fun _ _ _ _ _ _ h => h.elim
end

/-! ### targets -/
abbrev TG := V → St → Hp → (St → Hp → Prop) → Prop
abbrev TGs := List V → St → Hp → (St → Hp → Prop) → Prop
def PG (X : Cx) (target : Expr) (t : TG) : Prop :=
  ∀ (pins : List (Addr × Obj)) (s : Shared) (σ : St) (H : Hp) (v : V) (u : Value) (Q : St → Hp → Prop), Inv X pins σ H s → RelV v u → t v σ H Q →
    wpAny (model X.prog X.w) X.A (assign target X.env u) (fun _ s' => ∃ σ' H', Inv X pins σ' H' s' ∧ Q σ' H') X.xe s
/-- several targets, one after another -/
def PGs (X : Cx) (ts : List Expr) (t : TGs) : Prop :=
  ∀ (pins : List (Addr × Obj)) (s : Shared) (σ : St) (H : Hp) (vs : List V) (us : List Value) (Q : St → Hp → Prop), Inv X pins σ H s → Vals vs us → t vs σ H Q →
    wpAny (model X.prog X.w) X.A (assignInOrder ((assignEach ts X.env).map (·.2)) us) (fun _ s' => ∃ σ' H', Inv X pins σ' H' s' ∧ Q σ' H') X.xe s
/-- o[i] = v, by values -/
abbrev TSet := V → V → V → Hp → (Hp → Prop) → Prop
def PSet (X : Cx) (t : TSet) : Prop :=
  ∀ (pins : List (Addr × Obj)) (s : Shared) (σ : St) (H : Hp) (o i v : V) (ov iv u : Value) (Q : Hp → Prop), Inv X pins σ H s → RelV o ov → RelV i iv → RelV v u → t o i v H Q →
    wpAny (model X.prog X.w) X.A (setItem ov iv u) (fun _ s' => ∃ H', Inv X pins σ H' s' ∧ Q H') X.xe s
section
variable {X : Cx} {pos : Pos}
def gName (i : Nat) : TG := fun v σ H Q => Q (σ.set i (some v)) H
theorem pg_name {i : Nat} {x : Str} (hN : X.N.Nodup) (hi : X.N[i]? = some x) (hx : Loc X.env.scope x) (hf : X.fn x = true ∨ X.env.scope.names.lookup x = some .local := by first | exact .inl rfl | exact .inr rfl | assumption) : PG X (.Name x pos) (gName i) := by
  intro pins s σ H v u Q I r h
  exact wpAny_assign_Name (store_ok I hN hi hx r (fun s' I' => ⟨_, H, I', h⟩) hf)
def gNil : TGs := fun vs σ H Q => vs = [] ∧ Q σ H
inductive gCons (t : TG) (u : TGs) (vs : List V) (σ : St) (H : Hp) (Q : (St → Hp → Prop)) : Prop
  | mk (v : _) (r : _) (h1 : vs = v :: r) (h2 : t v σ H fun σ' H' => u r σ' H' Q) : gCons t u vs σ H Q
theorem pgs_nil : PGs X [] gNil := by
  intro pins s σ H vs us Q I r h
  obtain ⟨e, h⟩ := h
  subst e
  cases r
  exact assignInOrder_nil ⟨σ, H, I, h⟩
theorem pgs_cons {e : Expr} {es : List Expr} {t : TG} {u : TGs} (h1 : PG X e t) (h2 : PGs X es u)
    (hs : (assignEach (e :: es) X.env).map (·.2) = assign e X.env :: (assignEach es X.env).map (·.2) := by rfl) : PGs X (e :: es) (gCons t u) := by
  intro pins s σ H vs us Q I r h
  obtain ⟨v, vr, e1, h⟩ := h
  subst e1
  cases r with
  | cons r rr =>
    rw [hs]
    refine assignInOrder_cons (thn (h1 pins s σ H _ _ _ I r h) fun _ s1 ⟨σ1, H1, I1, q1⟩ => ?_)
    exact h2 pins s1 σ1 H1 _ _ Q I1 rr q1
/-- (a, b, ..) = a tuple of that length -/
inductive gTup (K : PySem.W.Frag) (n : Nat) (t : TGs) (v : V) (σ : St) (H : Hp) (Q : (St → Hp → Prop)) : Prop
  | mk (a : _) (xs : _) (h1 : v = .ref a) (h2 : SqT K H a xs) (h3 : xs.length = n) (h4 : t xs σ H Q) : gTup K n t v σ H Q
theorem pg_tup {es : List Expr} {k : Nat} {t : TGs} {n : Nat} (hc : X.calm = true) (h : PGs X es t)
    (hn : (assignEach es X.env).length = n := by rfl) (hst : (assignEach es X.env).findIdx? (·.1) = none := by rfl) : PG X (.Tuple es k pos) (gTup X.K n t) := by
  intro pins s σ H v u Q I r hw
  obtain ⟨a, xs, e1, hq, hl, hw⟩ := hw
  subst e1
  cases r
  obtain ⟨its, rv, ht, hz⟩ := I.tuple hq
  refine assign_Tuple_tuple (I.ok.hd hc) ht (by simp [hn, ← hl, rv.length]) hst fun h' hx => ?_
  have I1 : Inv X pins σ H { s with heap := h' } := I.kept (t' := s.toks) fun b o e => hx b o (Nat.ne_of_lt (Heap.lt_size e)) e
  exact h pins _ σ H xs _ Q I1 (by simpa using rv) hw
/-- o[i] = .. -/
def gSub (to ti : TE) (t : TSet) : TG := fun v σ H Q => to σ H fun o H1 => ti σ H1 fun i H2 => t o i v H2 fun H3 => Q σ H3
theorem pg_sub {o i : Expr} {to ti : TE} {t : TSet} (ho : PE X o to) (hi : PE X i ti) (hs : PSet X t)
    (ha : ∀ v, assign (.Subscript o i pos) X.env v = (do
      let ov ← holding [v] (eval o X.env)
      let iv ← holding [v, ov] (eval i X.env)
      standAt pos
      holding [v, ov, iv] (setItem ov iv v)
      release [v, ov, iv] []) := by intro _; rfl) : PG X (.Subscript o i pos) (gSub to ti t) := by
  intro pins s σ H v u Q I r h
  rw [ha]
  refine wpAny_bind (wpAny_holding (thn (ho pins s σ H _ I h) fun ov s1 ⟨x, H1, I1, r1, q1⟩ => ?_))
  refine wpAny_bind (wpAny_holding (thn (hi pins s1 σ H1 _ I1 q1) fun iv s2 ⟨y, H2, I2, r2, q2⟩ => ?_))
  refine wpAny_bind (wpAny_standAt (wpAny_bind (wpAny_holding (thn (hs pins s2 σ H2 x y v ov iv u _ I2 r1 r2 r q2) fun _ s3 ⟨H3, I3, q3⟩ => ?_))))
  exact wpAny_release ⟨σ, H3, I3, q3⟩
/-- target = value -/
def tAsg (te : TE) (g : TG) : TS := fun D σ H => te σ H fun x H1 => g x σ H1 D.nx
theorem ps_asg {tg e : Expr} {te : TE} {g : TG} (he : PE X e te) (hg : PG X tg g) (hs : swapsWithSole [tg] e pos.line X.env = pure false := by rfl) (hw : swappedStores [tg] e X.env = pure none := by rfl)
    (h1 : (assignEach [tg] X.env).map (·.2) = [assign tg X.env] := by rfl) : PS X (.Assign [tg] e pos) (tAsg te g) := by
  intro pins s σ H D I h
  refine wpAny_Assign_stores (thn (he pins s σ H _ I h) fun v s1 ⟨x, H1, I1, r1, q1⟩ => ?_) hs hw
  rw [h1]
  exact thn (hg pins s1 σ H1 x v _ I1 r1 q1) fun _ s2 q => q
/-- name = value -/
theorem ps_set {i : Nat} {x : Str} {e : Expr} {te : TE} {pos' : Pos} (hN : X.N.Nodup) (hi : X.N[i]? = some x) (hx : Loc X.env.scope x) (he : PE X e te) (hs : swapsWith e (some (.Name x pos')) pos.line X.env = pure false := by rfl) (hf : X.fn x = true ∨ X.env.scope.names.lookup x = some .local := by first | exact .inl rfl | exact .inr rfl | assumption) :
    PS X (.Assign [.Name x pos'] e pos) (tAsg te (gName i)) := by
  intro pins s σ H D I h
  refine wpAny_Assign_Name (thn (he pins s σ H _ I h) fun v s1 ⟨y, H1, I1, r1, q1⟩ => ?_) hs
  exact store_ok I1 hN hi hx r1 (fun s2 I2 => ⟨_, H1, I2, q1⟩) hf
/-- a, b = x, y with plain local names: stored from the right; the pair itself is not tracked (the opening rows as in PyProof/Rows/TupAssign.lean:23) -/
def tPar (i j : Nat) (ta : TA) : TS := fun D σ H => ta σ H fun vs H1 => ∃ v w, vs = [v, w] ∧ D.nx ((σ.set i (some v)).set j (some w)) H1
theorem ps_par {i j : Nat} {x y : Str} {a b : Expr} {ta : TA} {px py pt : Pos} {kt k2 pt2} (hc : X.calm = true) (hN : X.N.Nodup) (hi : X.N[i]? = some x) (hj : X.N[j]? = some y) (hij : i ≠ j)
    (hx : X.env.scope.names.lookup x = some .local) (hy : X.env.scope.names.lookup y = some .local) (ha : PA X [a, b] ta)
    (hw : swappedStores [.Tuple [.Name x px, .Name y py] kt pt] (.Tuple [a, b] k2 pt2) X.env = pure (some [x, y]))
    (hs : swapsWithSole [.Tuple [.Name x px, .Name y py] kt pt] (.Tuple [a, b] k2 pt2) pos.line X.env = pure false := by rfl) :
    PS X (.Assign [.Tuple [.Name x px, .Name y py] kt pt] (.Tuple [a, b] k2 pt2) pos) (tPar i j ta) := by
  intro pins s σ H D I h
  rw [exec_Assign_arm]
  refine wpAny_bind (wpAny_standAt ?_)
  rw [hs]
  refine wpAny_bind (wpAny_pure ?_)
  rw [if_neg (by decide)]
  refine wpAny_bind (Tuple_ (thn (ha _ pins s σ H _ I h) fun us s1 ⟨vs, H1, I1, r1, q1⟩ => ?_))
  obtain ⟨v, w, e1, q1⟩ := q1
  subst e1
  obtain ⟨u1, u2, rfl, rv, rw'⟩ : ∃ u1 u2, us = [u1, u2] ∧ RelV v u1 ∧ RelV w u2 := by
    cases r1 with
    | cons p q =>
      cases q with
      | cons p' q' =>
        cases q'
        exact ⟨_, _, rfl, p, p'⟩
  refine wpAny_newObj_type ?_ (by show 2 ≤ sizeLine; decide)
  have I2 : Inv X pins σ H1 { s1 with heap := s1.heap.push { cls := .type "tuple", data := .seq [u1, u2].toArray } } := I1.kept (t' := s1.toks) fun b o e => Heap.get?_push_of_some _ e
  rw [hw]
  refine wpAny_bind (wpAny_pure ?_)
  show wpAny (model X.prog X.w) X.A (do rule "assign.swapped-stores"; let items ← unpackItems (.ref s1.heap.objs.size) 2 none; assignInOrder [fun v => bindName X.env y v, fun v => bindName X.env x v] items.reverse; pure Flow.next) _ _ _
  refine wpAny_bind (wpAny_rule (wpAny_bind (unpackItems_tuple (items := #[u1, u2]) (I.ok.hd hc) (IsTup.new s1.heap _) fun h' hx' => ?_)))
  have I3 := I2.kept (h' := h') (t' := s1.toks) fun b o e => hx' b o (Nat.ne_of_lt (Heap.lt_size e)) e
  show wpAny _ _ (assignInOrder [fun v => bindName X.env y v, fun v => bindName X.env x v] [u2, u1] >>= fun _ => pure Flow.next) _ _ _
  refine wpAny_bind (assignInOrder_cons (wpAny_bindName (store_ok I3 hN hj (.inl hy) rw' (fun s2 I4 => ?_) (.inr hy))))
  refine assignInOrder_cons (wpAny_bindName (store_ok I4 hN hi (.inl hx) rv (fun s3 I5 => assignInOrder_nil (wpAny_pure ?_)) (.inr hx)))
  rw [List.set_comm _ _ (Ne.symm hij)] at I5
  exact ⟨_, H1, I5, q1⟩
end

/-! ### while -/
section
variable {X : Cx} {pos : Pos}
/-- the invariant W with its measure -/
def tWhile (c : TT) (tb : TS) : TS := fun D σ H => ∃ W : Nat → St → Hp → Prop, (∃ m, W m σ H) ∧ ∀ m σ H, W m σ H →
  c σ H fun b H1 => if b = true then ∃ N : St → Hp → Prop, (∀ σ' H', N σ' H' → ∃ m', m' < m ∧ W m' σ' H') ∧ tb { D with nx := N, ct := N, bk := D.nx } σ H1 else D.nx σ H1
theorem ps_while {c : Expr} {body : List Stmt} {tc : TT} {tb : TS} (hp : PassesOwn (model X.prog X.w) X.A X.env X.xe) (hc : PT X c tc) (hb : PSs X body tb) : PS X (.While c body [] pos) (tWhile tc tb) := by
  intro pins s σ H D I h
  obtain ⟨W, ⟨m0, w0⟩, turn⟩ := h
  refine wpAny_While (codeAny_whileLoop (fun n s' => ∃ σ' H', Inv X pins σ' H' s' ∧ W n σ' H') ?_ m0 ⟨σ, H, I, w0⟩)
  rintro n s1 ⟨σ1, H1, I1, w1⟩
  refine wpAny_passesOwn hp (thn (hc pins s1 σ1 H1 _ I1 (turn n σ1 H1 w1)) fun b s2 ⟨H2, I2, q2⟩ => ?_)
  cases b with
  | true =>
    obtain ⟨N, hN, q2⟩ := q2
    rw [if_pos rfl]
    refine wpAny_passesOwn hp (thn (hb pins s2 σ1 H2 _ I2 q2) fun f s3 q3 => ?_)
    cases f with
    | next =>
      obtain ⟨σ3, H3, I3, n3⟩ := q3
      obtain ⟨m', hm, w3⟩ := hN σ3 H3 n3
      exact ⟨m', hm, σ3, H3, I3, w3⟩
    | cont =>
      obtain ⟨σ3, H3, I3, n3⟩ := q3
      obtain ⟨m', hm, w3⟩ := hN σ3 H3 n3
      exact ⟨m', hm, σ3, H3, I3, w3⟩
    | brk => exact q3
    | ret v => exact q3
  | false =>
    rw [if_neg Bool.false_ne_true]
    exact wpAny_execs_nil ⟨σ1, H2, I2, q2⟩
end

/-! ### what a loop or a comprehension walks -/
/-- at turn i: it yields x (the heap may grow), or it stops -/
structure It where
  go : Nat → Hp → Prop
  yld : Nat → Hp → V → Hp → Prop
  stop : Nat → Hp → Prop
/-- the iterator's own objects may turn: they are not the frame's, not pinned, younger than the entry (or a comprehension's own) -/
def FpOk (X : Cx) (pins : List (Addr × Obj)) (H : Hp) (b : Addr) : Prop :=
  H b = none ∧ b ≠ X.env.locals ∧ b ∉ X.fs ∧ (b ∈ X.ex ∨ X.s₀.heap.objs.size ≤ b) ∧ (∀ x c, X.env.cells.lookup x = some c → c ≠ b) ∧ ∀ p ∈ X.pn ++ pins, p.1 ≠ b
theorem Inv.fpOk {X : Cx} {pins : List (Addr × Obj)} {σ : St} {H H' : Hp} {s : Shared} {b : Addr} (I : Inv X pins σ H s) (hb : s.heap.objs.size ≤ b) (hn : H' b = none) : FpOk X pins H' b := by
  refine ⟨hn, Nat.ne_of_gt (Nat.lt_of_lt_of_le I.lt hb), I.nofs hb, .inr (Nat.le_trans I.sz hb), fun x c e z => ?_, fun p hp z => ?_⟩
  · obtain ⟨v, q⟩ := I.cell x c e
    exact absurd (Nat.lt_of_lt_of_le q.lt (by rw [z]; exact hb)) (Nat.lt_irrefl _)
  · exact absurd (Nat.lt_of_lt_of_le (Heap.lt_size (I.pin p hp).1) (by rw [z]; exact hb)) (Nat.lt_irrefl _)
structure Turn (P : Program) (w : World) (K : PySem.W.Frag) (tg : Expr) (J : It) (fp : List Addr) (it : Addr) (tn : Nat → Heap → Prop) : Prop where
  mem : it ∈ fp
  obj : ∀ i h, tn i h → ∀ b ∈ fp, ∃ o, h.get? b = some o ∧ ∀ v, o.data ≠ .cell v
  keep : ∀ i h h', tn i h → (∀ b ∈ fp, ∀ o, h.get? b = some o → h'.get? b = some o) → tn i h'
  item : ∀ (X : Cx), X.prog = P → X.w = w → X.K = K → X.calm = true → ∀ (i : Nat) (pins : List (Addr × Obj)) (s : Shared) (σ : St) (H : Hp) (E : Value → Shared → Prop), Inv X pins σ H s → (∀ b ∈ fp, FpOk X pins H b) → tn i s.heap → J.go i H →
    wpAny (model P w) X.A (pyNext (.ref it)) (fun r s1 => ∃ u, r = some u ∧
      wpAny (model P w) X.A (letOwnedTupleGo tg (.ref it) u) (fun _ s2 => ∃ x H', Inv X pins σ H' s2 ∧ RelV x u ∧ J.yld i H x H' ∧ tn (i + 1) s2.heap ∧ ∀ b ∈ fp, H' b = none) E s1) E s
  done : ∀ (X : Cx), X.prog = P → X.w = w → X.K = K → X.calm = true → ∀ (i : Nat) (pins : List (Addr × Obj)) (s : Shared) (σ : St) (H : Hp) (E : Value → Shared → Prop), Inv X pins σ H s → (∀ b ∈ fp, FpOk X pins H b) → tn i s.heap → J.stop i H →
    wpAny (model P w) X.A (pyNext (.ref it)) (fun r s1 => r = none ∧ Inv X pins σ H s1) E s
  self : ∀ (A : Around) (i : Nat) (s : Shared) (Q : Value → Shared → Prop) (E : Value → Shared → Prop), tn i s.heap → Q (.ref it) s → wpAny (model P w) A (pyIter (.ref it)) Q E s
abbrev TI := St → Hp → (It → Hp → Prop) → Prop
/-- an iterator has come -/
def PIE (X : Cx) (pins : List (Addr × Obj)) (σ : St) (tg : Expr) (R : It → Hp → Prop) (itv : Value) (s2 : Shared) : Prop :=
  ∃ (it : Addr) (fp : List Addr) (tn : Nat → Heap → Prop) (J : It) (H' : Hp), itv = .ref it ∧ Inv X pins σ H' s2 ∧ Turn X.prog X.w X.K tg J fp it tn ∧ tn 0 s2.heap ∧ (∀ b ∈ fp, FpOk X pins H' b) ∧ R J H'
def PI (X : Cx) (tg iter : Expr) (wi : TI) : Prop :=
  ∀ (pins : List (Addr × Obj)) (s : Shared) (σ : St) (H : Hp) (R : It → Hp → Prop), Inv X pins σ H s → wi σ H R →
    wpAny (model X.prog X.w) X.A (eval iter X.env) (fun v s1 => wpAny (model X.prog X.w) X.A (pyIter v) (PIE X pins σ tg R) X.xe s1) X.xe s

/-- the step ahead of the store is nothing for an iterator that keeps no tuple -/
theorem go_of {M : Model} {A : Around} {E : Value → Shared → Prop} {s : Shared} {tg : Expr} {it : Addr} {u : Value} {o : Obj} {n : String} {vs : Array Value} {Q : Unit → Shared → Prop} (ho : s.heap.get? it = some o) (hc : o.cls = .type n) (hd : o.data = .fields vs)
    (hn : ["enumerate", "zip", "dict_itemiterator", "dict_reverseitemiterator", "odict_iterator", "itertools.zip_longest", "itertools.pairwise"].contains n = false) (hQ : Q () s) : wpAny M A (letOwnedTupleGo tg (.ref it) u) Q E s := by
  unfold letOwnedTupleGo
  cases tg <;> first
    | exact wpAny_pure hQ
    | (cases u <;> first
        | exact wpAny_pure hQ
        | (refine wpAny_bind (wpAny_load ho ?_)
           rw [hc, hd]
           show wpAny M A (if (["enumerate", "zip", "dict_itemiterator", "dict_reverseitemiterator", "odict_iterator", "itertools.zip_longest", "itertools.pairwise"].contains n && vs[0]? == some (rawInt _)) = true then _ else _) Q E s
           rw [if_neg (by intro h; rw [hn, Bool.false_and] at h; cases h)]
           exact wpAny_pure hQ))

/-- the list at a, as it stands at each turn (a loop may append to it) -/
def Itl (K : PySem.W.Frag) (a : Addr) : It :=
  ⟨fun i H => ∃ xs x, SqL K H a xs ∧ xs[i]? = some x, fun i H x H' => H' = H ∧ ∀ xs, SqL K H a xs → xs[i]? = some x, fun i H => ∃ xs, SqL K H a xs ∧ xs.length ≤ i⟩
def Itt (K : PySem.W.Frag) (a : Addr) : It :=
  ⟨fun i H => ∃ xs x, SqT K H a xs ∧ xs[i]? = some x, fun i H x H' => H' = H ∧ ∀ xs, SqT K H a xs → xs[i]? = some x, fun i H => ∃ xs, SqT K H a xs ∧ xs.length ≤ i⟩
/-- lo, lo + 1, .. (n of them) -/
def Itr (lo : Int) (n : Nat) : It := ⟨fun i _ => i < n, fun i H x H' => H' = H ∧ x = .int (lo + i), fun i _ => n ≤ i⟩
theorem turn_list {P : Program} {w : World} {K : PySem.W.Frag} {tg : Expr} (a it : Addr) : Turn P w K tg (Itl K a) [it] it (fun i h => h.IsListIter it a i) where
  mem := by simp
  obj := fun i h st b hb => by
    have e : b = it := by simpa using hb
    subst e
    obtain ⟨o, e, c, d⟩ := st
    exact ⟨o, e, fun v z => by rw [d] at z; cases z⟩
  keep := fun i h h' st k => st.at fun o e => k it (by simp) o e
  item := by
    intro X hP hw hK hc i pins s σ H E I hf st hg
    subst hP hw hK
    obtain ⟨xs, x, hq, hx⟩ := hg
    obtain ⟨its, rv, p, hz⟩ := I.list hq
    obtain ⟨u, hu, ru⟩ := rv.get hx
    obtain ⟨f0, f1, f2, f3, f4, f5⟩ := hf it (by simp)
    refine wpAny_pyNext_list_item st p.isList (x := u) (by simpa using hu) fun h' st' sb => ?_
    have I1 : Inv X pins σ H { s with heap := h' } := I.turned (t' := s.toks) (fun b o hb e => (sb.2 b hb).trans e) f0 f1 f3 f4 f5
    obtain ⟨o, e, c, d⟩ := id st'
    exact ⟨u, rfl, go_of (s := { s with heap := h' }) e c d (by decide) ⟨x, H, I1, ru, ⟨rfl, fun ys hy => by rw [I.list_inj hy hq]; exact hx⟩, st', fun b hb => (hf b hb).1⟩⟩
  done := by
    intro X hP hw hK hc i pins s σ H E I hf st hg
    subst hP hw hK
    obtain ⟨xs, hq, hx⟩ := hg
    obtain ⟨its, rv, p, hz⟩ := I.list hq
    obtain ⟨f0, f1, f2, f3, f4, f5⟩ := hf it (by simp)
    have hl := rv.length
    exact wpAny_pyNext_list_end (I.ok.hd hc) st p.isList (by simp; lia) fun h' eb => ⟨rfl, I.turned (t' := s.toks) (fun b o hb e => eb b o hb e) f0 f1 f3 f4 f5⟩
  self := fun _ _ _ _ _ st h => wpAny_pyIter_listiter st h
theorem turn_tuple {P : Program} {w : World} {K : PySem.W.Frag} {tg : Expr} (a it : Addr) : Turn P w K tg (Itt K a) [it] it (fun i h => h.IsTupleIter it a i) where
  mem := by simp
  obj := fun i h st b hb => by
    have e : b = it := by simpa using hb
    subst e
    obtain ⟨o, e, c, d⟩ := st
    exact ⟨o, e, fun v z => by rw [d] at z; cases z⟩
  keep := fun i h h' st k => st.at fun o e => k it (by simp) o e
  item := by
    intro X hP hw hK hc i pins s σ H E I hf st hg
    subst hP hw hK
    obtain ⟨xs, x, hq, hx⟩ := hg
    obtain ⟨its, rv, p, hz⟩ := I.tuple hq
    obtain ⟨u, hu, ru⟩ := rv.get hx
    obtain ⟨f0, f1, f2, f3, f4, f5⟩ := hf it (by simp)
    refine wpAny_pyNext_tuple_item st (show s.heap.IsTuple a its.toArray from p) (x := u) (by simpa using hu) fun h' st' sb => ?_
    have I1 : Inv X pins σ H { s with heap := h' } := I.turned (t' := s.toks) (fun b o hb e => (sb.2 b hb).trans e) f0 f1 f3 f4 f5
    obtain ⟨o, e, c, d⟩ := id st'
    exact ⟨u, rfl, go_of (s := { s with heap := h' }) e c d (by decide) ⟨x, H, I1, ru, ⟨rfl, fun ys hy => by rw [I.tuple_inj hy hq]; exact hx⟩, st', fun b hb => (hf b hb).1⟩⟩
  done := by
    intro X hP hw hK hc i pins s σ H E I hf st hg
    subst hP hw hK
    obtain ⟨xs, hq, hx⟩ := hg
    obtain ⟨its, rv, p, hz⟩ := I.tuple hq
    obtain ⟨f0, f1, f2, f3, f4, f5⟩ := hf it (by simp)
    have hl := rv.length
    exact wpAny_pyNext_tuple_end (I.ok.hd hc) st (show s.heap.IsTuple a its.toArray from p) (by simp; lia) fun h' eb => ⟨rfl, I.turned (t' := s.toks) (fun b o hb e => eb b o hb e) f0 f1 f3 f4 f5⟩
  self := fun _ _ _ _ _ st h => wpAny_pyIter_tupleiter st h
theorem turn_range {P : Program} {w : World} {K : PySem.W.Frag} {tg : Expr} (it : Addr) (lo : Int) (n : Nat) : Turn P w K tg (Itr lo n) [it] it (fun i h => IsRangeIter h it (lo + (i : Nat) * 1) ((n : Int) - (i : Nat)) 1) where
  mem := by simp
  obj := fun i h st b hb => by
    have e : b = it := by simpa using hb
    subst e
    exact ⟨_, st, fun v z => by
      have z' : Data.fields _ = Data.cell v := z
      cases z'⟩
  keep := fun i h h' st k => k it (by simp) _ st
  item := by
    intro X hP hw hK hc i pins s σ H E I hf st hg
    subst hP hw hK
    obtain ⟨f0, f1, f2, f3, f4, f5⟩ := hf it (by simp)
    have W := Walks.range (prog := X.prog) (w := X.w) (I.ok.hd hc) it lo 1 n
    refine W.item i s _ _ hg st fun v h' tk hv st' kk => ?_
    obtain ⟨t, rfl⟩ := hv
    have I1 : Inv X pins σ H { s with heap := h', toks := tk } := I.turned (fun b o hb e => kk b o (by simpa using hb) e) f0 f1 f3 f4 f5
    refine ⟨_, rfl, go_of (s := { s with heap := h', toks := tk }) (n := "range_iterator") st' rfl rfl (by decide) ⟨.int (lo + i), H, I1, ⟨t, ?_⟩, ⟨rfl, rfl⟩, st', fun b hb => (hf b hb).1⟩⟩
    rw [Int.mul_one]
  done := by
    intro X hP hw hK hc i pins s σ H E I hf st hg
    subst hP hw hK
    obtain ⟨f0, f1, f2, f3, f4, f5⟩ := hf it (by simp)
    exact wpAny_pyNext_range_end (I.ok.hd hc) st (by have : n ≤ i := hg; lia) fun h' eb => ⟨rfl, I.turned (t' := s.toks) (fun b o hb e => eb b o hb e) f0 f1 f3 f4 f5⟩
  self := fun _ _ _ _ _ st h => wpAny_pyIter_rangeiter st h
end L2

namespace L2
open PySem PySem.Spec PyProof.Rows
section
variable {X : Cx} {tg : Expr}
def iList (K : PySem.W.Frag) (tl : TE) : TI := fun σ H R => tl σ H fun x H1 => ∃ a, x = .ref a ∧ (∃ xs, SqL K H1 a xs) ∧ R (Itl K a) H1
def iTup (K : PySem.W.Frag) (tl : TE) : TI := fun σ H R => tl σ H fun x H1 => ∃ a, x = .ref a ∧ (∃ xs, SqT K H1 a xs) ∧ R (Itt K a) H1
theorem pi_list {l : Expr} {tl : TE} (hl : PE X l tl) : PI X tg l (iList X.K tl) := by
  intro pins s σ H R I h
  refine thn (hl pins s σ H _ I h) fun v s1 ⟨x, H1, I1, r1, q1⟩ => ?_
  obtain ⟨a, e, ⟨xs, hq⟩, q⟩ := q1
  subst e
  cases r1
  obtain ⟨its, rv, p, hz⟩ := I1.list hq
  refine wpAny_pyIter_list p.isList ?_
  refine ⟨s1.heap.objs.size, [s1.heap.objs.size], _, _, H1, rfl, I1.kept (t' := s1.toks) fun b o e => Heap.get?_push_of_some _ e, turn_list a _, ⟨_, Heap.get?_push_size _ rfl, rfl, rfl⟩, fun b hb => ?_, q⟩
  have e : b = s1.heap.objs.size := by simpa using hb
  subst e
  exact I1.fpOk (Nat.le_refl _) (I1.hok.fresh (Nat.le_refl _))
theorem pi_tup {l : Expr} {tl : TE} (hl : PE X l tl) : PI X tg l (iTup X.K tl) := by
  intro pins s σ H R I h
  refine thn (hl pins s σ H _ I h) fun v s1 ⟨x, H1, I1, r1, q1⟩ => ?_
  obtain ⟨a, e, ⟨xs, hq⟩, q⟩ := q1
  subst e
  cases r1
  obtain ⟨its, rv, p, hz⟩ := I1.tuple hq
  refine wpAny_pyIter_tuple (show s1.heap.IsTuple a its.toArray from p) ?_
  refine ⟨s1.heap.objs.size, [s1.heap.objs.size], _, _, H1, rfl, I1.kept (t' := s1.toks) fun b o e => Heap.get?_push_of_some _ e, turn_tuple a _, ⟨_, Heap.get?_push_size _ rfl, rfl, rfl⟩, fun b hb => ?_, q⟩
  have e : b = s1.heap.objs.size := by simpa using hb
  subst e
  exact I1.fpOk (Nat.le_refl _) (I1.hok.fresh (Nat.le_refl _))
/-- a range object just made, walked -/
theorem range_it {pins : List (Addr × Obj)} {σ : St} {H : Hp} {s : Shared} {R : It → Hp → Prop} {E : Value → Shared → Prop} {lo hi : Int} {t u v : Tok} {tk : Nat} (I : Inv X pins σ H s) (h1 : -(2 ^ 62) ≤ lo) (h2 : lo < 2 ^ 62) (h3 : -(2 ^ 62) ≤ hi) (h4 : hi < 2 ^ 62)
    (q : R (Itr lo (hi - lo).toNat) H) : wpAny (model X.prog X.w) X.A (pyIter (.ref s.heap.objs.size)) (PIE X pins σ tg R) E { s with heap := s.heap.push { cls := .type "range", data := .fields #[.int lo t, .int hi u, .int 1 v] }, toks := tk } := by
  refine wpAny_pyIter_range (IsRange.new ..) (small_one h1 h2 h3 h4) ?_
  have I1 : Inv X pins σ H { s with heap := s.heap.push { cls := .type "range", data := .fields #[.int lo t, .int hi u, .int 1 v] }, toks := tk } := I.kept fun b o e => Heap.get?_push_of_some _ e
  refine ⟨(s.heap.push { cls := .type "range", data := .fields #[.int lo t, .int hi u, .int 1 v] }).objs.size, [(s.heap.push { cls := .type "range", data := .fields #[.int lo t, .int hi u, .int 1 v] }).objs.size], _, _, H, rfl,
    I1.kept (t' := tk) fun b o e => Heap.get?_push_of_some _ e, turn_range _ lo (hi - lo).toNat, ?_, fun b hb => ?_, q⟩
  · have e1 : lo + ((0 : Nat) : Int) * 1 = lo := by simp
    have e2 : (((hi - lo).toNat : Nat) : Int) - ((0 : Nat) : Int) = Builtin.Range.rangeSize lo hi 1 := by rw [rangeSize_one]; split <;> lia
    show IsRangeIter _ _ (lo + ((0 : Nat) : Int) * 1) ((((hi - lo).toNat : Nat) : Int) - ((0 : Nat) : Int)) 1
    rw [e1, e2]
    exact Heap.get?_push_size _ rfl
  · have e : b = (s.heap.push { cls := .type "range", data := .fields #[.int lo t, .int hi u, .int 1 v] }).objs.size := by simpa using hb
    subst e
    exact I1.fpOk (Nat.le_refl _) (I1.hok.fresh (Nat.le_refl _))
def iRng1 (ta : TA) : TI := fun σ H R => ta σ H fun vs H1 => ∃ j : Int, vs = [.int j] ∧ -(2 ^ 62) ≤ j ∧ j < 2 ^ 62 ∧ R (Itr 0 j.toNat) H1
def iRng2 (ta : TA) : TI := fun σ H R => ta σ H fun vs H1 => ∃ i j : Int, vs = [.int i, .int j] ∧ (-(2 ^ 62) ≤ i ∧ i < 2 ^ 62 ∧ -(2 ^ 62) ≤ j ∧ j < 2 ^ 62) ∧ R (Itr i (j - i).toNat) H1
theorem pi_range1 {a : Expr} {ta : TA} {p pos : Pos} (hg : Gl X "range") (hm : X.mg "range" = none) (ha : PA X [a] ta) (hs : starEach [a] X.env = [(false, eval a X.env)] := by rfl) : PI X tg (.Call (.Name "range" p) [a] [] pos) (iRng1 ta) := by
  intro pins s σ H R I h
  refine Call_ (ld_blt I hg hm boot_range (PyProof.Rows.callWith_type1 (thn (ha pos pins s σ H _ I h) fun us s1 ⟨vs, H1, I1, r1, q1⟩ => ?_) hs rfl))
  obtain ⟨j, e, q1, q2, q⟩ := q1
  subst e
  cases r1 with
  | cons r rr =>
    cases rr
    obtain ⟨t, rfl⟩ := r
    exact call_range_1 (range_it I1 (by lia) (by lia) q1 q2 (by simpa using q))
theorem pi_range2 {a b : Expr} {ta : TA} {p pos : Pos} (hg : Gl X "range") (hm : X.mg "range" = none) (ha : PA X [a, b] ta) (hs : starEach [a, b] X.env = [(false, eval a X.env), (false, eval b X.env)] := by rfl) (hs2 : starEach [b] X.env = [(false, eval b X.env)] := by rfl) :
    PI X tg (.Call (.Name "range" p) [a, b] [] pos) (iRng2 ta) := by
  intro pins s σ H R I h
  refine Call_ (ld_blt I hg hm boot_range (PyProof.Rows.callWith_type1 (thn (ha pos pins s σ H _ I h) fun us s1 ⟨vs, H1, I1, r1, q1⟩ => ?_) (by rw [hs, hs2]) (by rw [hs2]; rfl)))
  obtain ⟨i, j, e, ⟨q1, q2, q3, q4⟩, q⟩ := q1
  subst e
  cases r1 with
  | cons r rr =>
    cases rr with
    | cons r' rr =>
      cases rr
      obtain ⟨t, rfl⟩ := r
      obtain ⟨t', rfl⟩ := r'
      exact call_range_2 (range_it I1 q1 q2 q3 q4 q)

/-! ### for -/
/-- W: the invariant by the turn and a measure; N: what the body is to reach -/
def tFor (wi : TI) (g : TG) (tb : TS) : TS := fun D σ H => wi σ H fun J H1 => ∃ W : Nat → Nat → St → Hp → Prop, (∃ m, W 0 m σ H1) ∧ ∀ i m σ H, W i m σ H →
  (J.stop i H ∧ D.nx σ H) ∨ (J.go i H ∧ ∃ N : St → Hp → Prop, (∀ σ' H', N σ' H' → ∃ m', m' < m ∧ W (i + 1) m' σ' H') ∧ ∀ x H', J.yld i H x H' → g x σ H' fun σ2 H2 => tb { D with nx := N, ct := N, bk := D.nx } σ2 H2)
/-- the records at fp as they stand -/
def pinsAt (fp : List Addr) (h : Heap) : List (Addr × Obj) := fp.filterMap fun b => (h.get? b).map fun o => (b, o)
theorem mem_pinsAt {fp : List Addr} {h : Heap} {b : Addr} {o : Obj} (hb : b ∈ fp) (e : h.get? b = some o) : (b, o) ∈ pinsAt fp h := List.mem_filterMap.mpr ⟨b, hb, by rw [e]; rfl⟩
theorem of_pinsAt {fp : List Addr} {h : Heap} {p : Addr × Obj} (hp : p ∈ pinsAt fp h) : p.1 ∈ fp ∧ h.get? p.1 = some p.2 := by
  obtain ⟨b, hb, e⟩ := List.mem_filterMap.mp hp
  cases q : h.get? b with
  | none => rw [q] at e; cases e
  | some o =>
    rw [q] at e
    have e' : (b, o) = p := Option.some.inj e
    subst e'
    exact ⟨hb, q⟩
theorem Inv.pinned {pins : List (Addr × Obj)} {σ : St} {H : Hp} {s : Shared} {fp : List Addr} (I : Inv X pins σ H s) (hf : ∀ b ∈ fp, FpOk X pins H b) (ho : ∀ b ∈ fp, ∃ o, s.heap.get? b = some o ∧ ∀ v, o.data ≠ .cell v) : Inv X (pins ++ pinsAt fp s.heap) σ H s :=
  I.pins_of fun p hp => (List.mem_append.mp hp).elim (fun z => I.pin p (List.mem_append_right _ z)) fun z => by
    obtain ⟨hb, e⟩ := of_pinsAt z
    obtain ⟨f0, f1, f2, _⟩ := hf p.1 hb
    obtain ⟨o, e', d⟩ := ho p.1 hb
    rw [e] at e'; cases e'
    exact ⟨e, f0, f1, f2, d⟩
theorem Inv.unpinned {pins pl : List (Addr × Obj)} {σ : St} {H : Hp} {s : Shared} (I : Inv X (pins ++ pl) σ H s) : Inv X pins σ H s := I.pins_of fun p hp => I.pin p (List.mem_append_right _ (List.mem_append_left _ hp))
theorem ps_for {iter : Expr} {body : List Stmt} {wi : TI} {g : TG} {tb : TS} {pos : Pos} (hp : PassesOwn (model X.prog X.w) X.A X.env X.xe) (hc : X.calm = true) (hi : PI X tg iter wi) (hg : PG X tg g) (hb : PSs X body tb)
    (hs : ∀ x, foldedSetIterable iter X.env x = pure x := by intro _; rfl) : PS X (.For tg iter body [] pos) (tFor wi g tb) := by
  intro pins s σ H D I h
  refine wpAny_For (thn (hi pins s σ H _ I h) fun v s1 h1 => thn h1 fun itv s2 h2 => ?_) hs
  obtain ⟨it, fp, tn, J, H2, e, I2, T, st2, f2, W, ⟨m0, w0⟩, turn⟩ := h2
  subst e
  -- what stays true of the iterator's objects through the loop
  have stat : ∀ {H' : Hp}, (∀ b ∈ fp, H' b = none) → ∀ b ∈ fp, FpOk X pins H' b := fun hn b hb => ⟨hn b hb, (f2 b hb).2⟩
  refine codeAny_forLoop_any (fun n s' => ∃ i σ' H', Inv X pins σ' H' s' ∧ tn i s'.heap ∧ (∀ b ∈ fp, H' b = none) ∧ W i n σ' H') ?_ m0 ⟨0, σ, H2, I2, st2, fun b hb => (f2 b hb).1, w0⟩
  rintro n s3 ⟨i, σ3, H3, I3, st3, fr3, w3⟩
  rcases turn i n σ3 H3 w3 with ⟨stop, qn⟩ | ⟨go, N, hN, step⟩
  · refine wpAny_passesOwn hp (thn (T.done X rfl rfl rfl hc i pins s3 σ3 H3 X.xe I3 (stat fr3) st3 stop) fun r s4 ⟨hr, I4⟩ => ?_)
    subst hr
    exact wpAny_execs_nil ⟨σ3, H3, I4, qn⟩
  · refine wpAny_passesOwn hp (thn (T.item X rfl rfl rfl hc i pins s3 σ3 H3 X.xe I3 (stat fr3) st3 go) fun r s4 ⟨u, hr, h4⟩ => ?_)
    subst hr
    refine wpAny_passesOwn hp (thn h4 fun _ s5 ⟨x, H5, I5, r5, y5, st5, fr5⟩ => ?_)
    have I5' := I5.pinned (stat fr5) (T.obj _ _ st5)
    refine wpAny_passesOwn hp (thn (hg _ s5 σ3 H5 x u _ I5' r5 (step x H5 y5)) fun _ s6 ⟨σ6, H6, I6, q6⟩ => ?_)
    refine wpAny_passesOwn hp (thn (hb _ s6 σ6 H6 _ I6 q6) fun f s7 q7 => ?_)
    have again : ∀ {σ7 : St} {H7 : Hp}, Inv X (pins ++ pinsAt fp s5.heap) σ7 H7 s7 → N σ7 H7 → ∃ m, m < n ∧ ∃ i σ' H', Inv X pins σ' H' s7 ∧ tn i s7.heap ∧ (∀ b ∈ fp, H' b = none) ∧ W i m σ' H' := fun {σ7 H7} I7 n7 => by
      obtain ⟨m', hm, w7⟩ := hN σ7 H7 n7
      refine ⟨m', hm, i + 1, σ7, H7, I7.unpinned, T.keep _ _ _ st5 fun b hb o e => (I7.pin (b, o) (List.mem_append_right _ (List.mem_append_right _ (mem_pinsAt hb e)))).1, fun b hb => ?_, w7⟩
      obtain ⟨o, e, d⟩ := T.obj _ _ st5 b hb
      exact (I7.pin (b, o) (List.mem_append_right _ (List.mem_append_right _ (mem_pinsAt hb e)))).2.1
    cases f with
    | next => obtain ⟨σ7, H7, I7, n7⟩ := q7; exact again I7 n7
    | cont => obtain ⟨σ7, H7, I7, n7⟩ := q7; exact again I7 n7
    | brk => obtain ⟨σ7, H7, I7, q7⟩ := q7; exact ⟨σ7, H7, I7.unpinned, q7⟩
    | ret v => obtain ⟨x7, σ7, H7, I7, r7, q7⟩ := q7; exact ⟨x7, σ7, H7, I7.unpinned, r7, q7⟩
end

/-! ### the forms one uses -/
/-- over a list that the body leaves as it is -/
theorem for_list {K : PySem.W.Frag} {a : Addr} {xs : List V} {g : TG} {tb : TS} {D : Ends} {σ : St} {H : Hp} (Pv : Nat → St → Hp → Prop) (h0 : Pv 0 σ H) (hl : ∀ i σ H, i ≤ xs.length → Pv i σ H → SqL K H a xs)
    (hs : ∀ i x σ H, xs[i]? = some x → Pv i σ H → g x σ H fun σ2 H2 => tb { D with nx := Pv (i + 1), ct := Pv (i + 1), bk := D.nx } σ2 H2) (hd : ∀ σ H, Pv xs.length σ H → D.nx σ H) :
    ∃ W : Nat → Nat → St → Hp → Prop, (∃ m, W 0 m σ H) ∧ ∀ i m σ H, W i m σ H →
      ((Itl K a).stop i H ∧ D.nx σ H) ∨ ((Itl K a).go i H ∧ ∃ N : St → Hp → Prop, (∀ σ' H', N σ' H' → ∃ m', m' < m ∧ W (i + 1) m' σ' H') ∧ ∀ x H', (Itl K a).yld i H x H' → g x σ H' fun σ2 H2 => tb { D with nx := N, ct := N, bk := D.nx } σ2 H2) := by
  refine ⟨fun i m σ H => m = xs.length - i ∧ i ≤ xs.length ∧ Pv i σ H, ⟨xs.length, by simp, Nat.zero_le _, h0⟩, ?_⟩
  rintro i m σ H ⟨rfl, hi, p⟩
  have q := hl i σ H hi p
  by_cases hlt : i < xs.length
  · refine .inr ⟨⟨xs, xs[i], q, by simp [hlt]⟩, Pv (i + 1), fun σ' H' p' => ⟨xs.length - (i + 1), by lia, rfl, hlt, p'⟩, fun x H' y => ?_⟩
    obtain ⟨e, y⟩ := y
    subst e
    exact hs i x σ _ (y xs q) p
  · have e : i = xs.length := by lia
    subst e
    exact .inl ⟨⟨xs, q, Nat.le_refl _⟩, hd σ H p⟩
theorem for_tup {K : PySem.W.Frag} {a : Addr} {xs : List V} {g : TG} {tb : TS} {D : Ends} {σ : St} {H : Hp} (Pv : Nat → St → Hp → Prop) (h0 : Pv 0 σ H) (hl : ∀ i σ H, i ≤ xs.length → Pv i σ H → SqT K H a xs)
    (hs : ∀ i x σ H, xs[i]? = some x → Pv i σ H → g x σ H fun σ2 H2 => tb { D with nx := Pv (i + 1), ct := Pv (i + 1), bk := D.nx } σ2 H2) (hd : ∀ σ H, Pv xs.length σ H → D.nx σ H) :
    ∃ W : Nat → Nat → St → Hp → Prop, (∃ m, W 0 m σ H) ∧ ∀ i m σ H, W i m σ H →
      ((Itt K a).stop i H ∧ D.nx σ H) ∨ ((Itt K a).go i H ∧ ∃ N : St → Hp → Prop, (∀ σ' H', N σ' H' → ∃ m', m' < m ∧ W (i + 1) m' σ' H') ∧ ∀ x H', (Itt K a).yld i H x H' → g x σ H' fun σ2 H2 => tb { D with nx := N, ct := N, bk := D.nx } σ2 H2) := by
  refine ⟨fun i m σ H => m = xs.length - i ∧ i ≤ xs.length ∧ Pv i σ H, ⟨xs.length, by simp, Nat.zero_le _, h0⟩, ?_⟩
  rintro i m σ H ⟨rfl, hi, p⟩
  have q := hl i σ H hi p
  by_cases hlt : i < xs.length
  · refine .inr ⟨⟨xs, xs[i], q, by simp [hlt]⟩, Pv (i + 1), fun σ' H' p' => ⟨xs.length - (i + 1), by lia, rfl, hlt, p'⟩, fun x H' y => ?_⟩
    obtain ⟨e, y⟩ := y
    subst e
    exact hs i x σ _ (y xs q) p
  · have e : i = xs.length := by lia
    subst e
    exact .inl ⟨⟨xs, q, Nat.le_refl _⟩, hd σ H p⟩
theorem for_range {lo : Int} {n : Nat} {g : TG} {tb : TS} {D : Ends} {σ : St} {H : Hp} (Pv : Nat → St → Hp → Prop) (h0 : Pv 0 σ H)
    (hs : ∀ i σ H, i < n → Pv i σ H → g (.int (lo + i)) σ H fun σ2 H2 => tb { D with nx := Pv (i + 1), ct := Pv (i + 1), bk := D.nx } σ2 H2) (hd : ∀ σ H, Pv n σ H → D.nx σ H) :
    ∃ W : Nat → Nat → St → Hp → Prop, (∃ m, W 0 m σ H) ∧ ∀ i m σ H, W i m σ H →
      ((Itr lo n).stop i H ∧ D.nx σ H) ∨ ((Itr lo n).go i H ∧ ∃ N : St → Hp → Prop, (∀ σ' H', N σ' H' → ∃ m', m' < m ∧ W (i + 1) m' σ' H') ∧ ∀ x H', (Itr lo n).yld i H x H' → g x σ H' fun σ2 H2 => tb { D with nx := N, ct := N, bk := D.nx } σ2 H2) := by
  refine ⟨fun i m σ H => m = n - i ∧ i ≤ n ∧ Pv i σ H, ⟨n, by simp, Nat.zero_le _, h0⟩, ?_⟩
  rintro i m σ H ⟨rfl, hi, p⟩
  by_cases hlt : i < n
  · refine .inr ⟨hlt, Pv (i + 1), fun σ' H' p' => ⟨n - (i + 1), by lia, rfl, hlt, p'⟩, fun x H' y => ?_⟩
    obtain ⟨e, y⟩ := y
    subst e y
    exact hs i σ _ hlt p
  · have e : i = n := by lia
    subst e
    exact .inl ⟨Nat.le_refl _, hd σ H p⟩
/-- while, by a word and a measure of the state -/
theorem while_by {c : TT} {tb : TS} {D : Ends} {σ : St} {H : Hp} (Pv : St → Hp → Prop) (μ : St → Hp → Nat) (h0 : Pv σ H)
    (hs : ∀ σ H, Pv σ H → c σ H fun b H1 => if b = true then tb { D with nx := fun σ' H' => Pv σ' H' ∧ μ σ' H' < μ σ H, ct := fun σ' H' => Pv σ' H' ∧ μ σ' H' < μ σ H, bk := D.nx } σ H1 else D.nx σ H1)
    (mono : ∀ σ H Q Q', (∀ b H1, Q b H1 → Q' b H1) → c σ H Q → c σ H Q') : tWhile c tb D σ H := by
  refine ⟨fun m σ H => m = μ σ H ∧ Pv σ H, ⟨_, rfl, h0⟩, ?_⟩
  rintro m σ H ⟨rfl, p⟩
  refine mono σ H _ _ (fun b H1 q => ?_) (hs σ H p)
  cases b with
  | true => exact ⟨_, fun σ' H' ⟨p', l⟩ => ⟨_, l, rfl, p'⟩, q⟩
  | false => exact q
end L2

namespace L2
open PySem PySem.Spec PyProof.Rows

abbrev R2 := V → V → Hp → VK → Prop
/-- a two-place operation on values: f is binaryOp op, inplaceOp op or compareOp op -/
def OpR (X : Cx) (f : Value → Value → Sem Value) (r : R2) : Prop :=
  ∀ (pins : List (Addr × Obj)) (s : Shared) (σ : St) (H : Hp) (x y : V) (v u : Value) (Q : VK), Inv X pins σ H s → RelV x v → RelV y u → r x y H Q →
    wpAny (model X.prog X.w) X.A (f v u) (EP X pins σ Q) X.xe s
/-- a one-place operation -/
def UnR (X : Cx) (f : Value → Sem Value) (r : V → Hp → VK → Prop) : Prop :=
  ∀ (pins : List (Addr × Obj)) (s : Shared) (σ : St) (H : Hp) (x : V) (v : Value) (Q : VK), Inv X pins σ H s → RelV x v → r x H Q →
    wpAny (model X.prog X.w) X.A (f v) (EP X pins σ Q) X.xe s
/-- a call of a value that is known (a builtin, a type) with values -/
def CallR (X : Cx) (f : Value) (r : List V → Hp → VK → Prop) : Prop :=
  ∀ (pins : List (Addr × Obj)) (s : Shared) (σ : St) (H : Hp) (xs : List V) (us : List Value) (Q : VK), Inv X pins σ H s → Vals xs us → r xs H Q →
    wpAny (model X.prog X.w) X.A (call f us) (EP X pins σ Q) X.xe s
def tOp (r : R2) (ta tb : TE) : TE := fun σ H Q => ta σ H fun x H1 => tb σ H1 fun y H2 => r x y H2 Q
def tUn (r : V → Hp → VK → Prop) (ta : TE) : TE := fun σ H Q => ta σ H fun x H1 => r x H1 Q
/-- ints in, under C, and a value out -/
inductive rI (C : Int → Int → Prop) (g : Int → Int → V) (x : V) (y : V) (H : Hp) (Q : VK) : Prop
  | mk (i : _) (j : _) (h1 : x = .int i) (h2 : y = .int j) (h3 : C i j) (h4 : Q (g i j) H) : rI C g x y H Q
inductive rI0 (g : Int → Int → V) (x : V) (y : V) (H : Hp) (Q : VK) : Prop
  | mk (i : _) (j : _) (h1 : x = .int i) (h2 : y = .int j) (h3 : Q (g i j) H) : rI0 g x y H Q
inductive rU (g : Int → V) (x : V) (H : Hp) (Q : VK) : Prop
  | mk (i : _) (h1 : x = .int i) (h2 : Q (g i) H) : rU g x H Q

section
variable {X : Cx} {a b c : Expr} {ta tb tc : TE} {pos : Pos}

theorem binT (ha : PE X a ta) (hb : PE X b tb) {pins : List (Addr × Obj)} {s : Shared} {σ : St} {H : Hp} {R : V → V → Hp → Prop} (I : Inv X pins σ H s)
    (h : ta σ H fun x H1 => tb σ H1 fun y H2 => R x y H2) {Q : Value → Shared → Prop} {f : Value → Value → Sem Value}
    (hf : ∀ v u s2 x y H2, Inv X pins σ H2 s2 → RelV x v → RelV y u → R x y H2 → wpAny (model X.prog X.w) X.A (f v u) Q X.xe s2) :
    wpAny (model X.prog X.w) X.A (eval a X.env) (fun v s₁ => wpAny (model X.prog X.w) X.A (eval b X.env) (fun u s₂ => wpAny (model X.prog X.w) X.A (f v u) Q X.xe s₂) X.xe s₁) X.xe s := by
  refine thn (ha pins s σ H _ I h) fun v s1 ⟨x, H1, I1, r1, q1⟩ => ?_
  refine thn (hb pins s1 σ H1 _ I1 q1) fun u s2 ⟨y, H2, I2, r2, q2⟩ => ?_
  exact hf v u s2 x y H2 I2 r1 r2 q2

theorem pe_op {op : Operator} {r : R2} (ho : OpR X (binaryOp op) r) (ha : PE X a ta) (hb : PE X b tb) : PE X (.BinOp a op b pos) (tOp r ta tb) := by
  intro pins s σ H Q I h
  exact wpAny_BinOp (binT ha hb I h fun v u s2 x y H2 I2 rx ry q => ho pins s2 σ H2 x y v u Q I2 rx ry q)
theorem pe_un {op : UnaryOp} {r : V → Hp → VK → Prop} (ho : UnR X (unaryOp op) r) (ha : PE X a ta) : PE X (.UnaryOp op a pos) (tUn r ta) := by
  intro pins s σ H Q I h
  exact UnaryOp_ (thn (ha pins s σ H _ I h) fun v s1 ⟨x, H1, I1, r1, q1⟩ => ho pins s1 σ H1 x v Q I1 r1 q1)
/-! ### ints -/
theorem opI {f : Value → Value → Sem Value} {C : Int → Int → Prop} {g : Int → Int → Int}
    (rule : ∀ (i j : Int) (t u : Tok) (s : Shared) (Q : Value → Shared → Prop) (E : Value → Shared → Prop), C i j → Q (.int (g i j) s.toks) { s with toks := s.toks + 1 } → wpAny (model X.prog X.w) X.A (f (.int i t) (.int j u)) Q E s) :
    OpR X f (rI C fun i j => .int (g i j)) := by
  intro pins s σ H x y v u Q I rx ry h
  obtain ⟨i, j, rfl, rfl, hc, q⟩ := h
  obtain ⟨t, rfl⟩ := rx
  obtain ⟨t', rfl⟩ := ry
  exact rule i j t t' s _ _ hc ⟨.int (g i j), H, I.tok _, ⟨_, rfl⟩, q⟩
theorem opI0 {f : Value → Value → Sem Value} {g : Int → Int → Int}
    (rule : ∀ (i j : Int) (t u : Tok) (s : Shared) (Q : Value → Shared → Prop) (E : Value → Shared → Prop), Q (.int (g i j) s.toks) { s with toks := s.toks + 1 } → wpAny (model X.prog X.w) X.A (f (.int i t) (.int j u)) Q E s) :
    OpR X f (rI0 fun i j => .int (g i j)) := by
  intro pins s σ H x y v u Q I rx ry h
  obtain ⟨i, j, rfl, rfl, q⟩ := h
  obtain ⟨t, rfl⟩ := rx
  obtain ⟨t', rfl⟩ := ry
  exact rule i j t t' s _ _ ⟨.int (g i j), H, I.tok _, ⟨_, rfl⟩, q⟩
theorem opB0 {f : Value → Value → Sem Value} {g : Int → Int → Bool}
    (rule : ∀ (i j : Int) (t u : Tok) (s : Shared) (Q : Value → Shared → Prop) (E : Value → Shared → Prop), Q (.bool (g i j)) s → wpAny (model X.prog X.w) X.A (f (.int i t) (.int j u)) Q E s) :
    OpR X f (rI0 fun i j => .bl (g i j)) := by
  intro pins s σ H x y v u Q I rx ry h
  obtain ⟨i, j, rfl, rfl, q⟩ := h
  obtain ⟨t, rfl⟩ := rx
  obtain ⟨t', rfl⟩ := ry
  exact rule i j t t' s _ _ ⟨.bl (g i j), H, I, rfl, q⟩

def CPow (i j : Int) : Prop := 0 ≤ j ∧ j ≤ 1000000 ∧ i.natAbs < 2 ^ 64
theorem op_add : OpR X (binaryOp .Add) (rI0 fun i j => .int (i + j)) := opI0 fun _ _ _ _ _ _ _ q => add_int q
theorem op_sub : OpR X (binaryOp .Sub) (rI0 fun i j => .int (i - j)) := opI0 fun _ _ _ _ _ _ _ q => sub_int q
/-- % by a positive divisor of any size -/
theorem op_mod : OpR X (binaryOp .Mod) (rI (fun _ j => 0 < j) fun i j => .int (i % j)) := opI fun i j _ _ _ _ _ hc q => by
  have h1 : (0 : Int) < j := hc
  exact mod_int' (by lia) (by rw [Int.fmod_eq_emod_of_nonneg i (by lia)]; exact q)
theorem op_pow : OpR X (binaryOp .Pow) (rI CPow fun i j => .int (i ^ j.toNat)) := opI fun _ _ _ _ _ _ _ hc q => pow_int_small hc.1 hc.2.1 hc.2.2 q
theorem unI {f : Value → Sem Value} {g : Int → Int}
    (rule : ∀ (i : Int) (t : Tok) (s : Shared) (Q : Value → Shared → Prop) (E : Value → Shared → Prop), Q (.int (g i) s.toks) { s with toks := s.toks + 1 } → wpAny (model X.prog X.w) X.A (f (.int i t)) Q E s) :
    UnR X f (rU fun i => .int (g i)) := by
  intro pins s σ H x v Q I rx h
  obtain ⟨i, rfl, q⟩ := h
  obtain ⟨t, rfl⟩ := rx
  exact rule i t s _ _ ⟨.int (g i), H, I.tok _, ⟨_, rfl⟩, q⟩
theorem un_neg : UnR X (unaryOp .USub) (rU fun i => .int (-i)) := unI fun _ _ _ _ _ q => neg_int q
/-! ### bools among ints: n += (a < b) -/
end

/-! ### comparisons -/
/-- the scalars that == tells apart as data does -/
def scal : V → V → Bool
  | .non, .non => true | .non, .int _ => true | .int _, .non => true | .non, .bl _ => true | .bl _, .non => true | .non, .str _ => true | .str _, .non => true
  | .int _, .int _ => true | .bl _, .bl _ => true | .str _, .str _ => true | .byt _, .byt _ => true
  | .int _, .str _ => true | .str _, .int _ => true | .bl _, .str _ => true | .str _, .bl _ => true
  | _, _ => false
def rEq : R2 := fun x y H Q => scal x y = true ∧ Q (.bl (decide (x = y))) H
def rNe : R2 := fun x y H Q => scal x y = true ∧ Q (.bl (!decide (x = y))) H

theorem dec_int {i j : Int} : decide (V.int i = V.int j) = (i == j) := by
  rw [Bool.eq_iff_iff]
  simp
theorem dec_bl {i j : Bool} : decide (V.bl i = V.bl j) = (i == j) := by
  rw [Bool.eq_iff_iff]
  simp
theorem dec_str {i j : Str} : decide (V.str i = V.str j) = (i == j) := by
  rw [Bool.eq_iff_iff]
  simp
theorem dec_byt {i j : Array UInt8} : decide (V.byt i = V.byt j) = (i.toList == j.toList) := by
  rw [Bool.eq_iff_iff]
  cases i
  cases j
  simp

section
variable {X : Cx} {a b c : Expr} {ta tb tc : TE} {pos : Pos}
theorem fin_bl {pins : List (Addr × Obj)} {σ : St} {H : Hp} {s : Shared} {Q : VK} {k k' : Bool} (I : Inv X pins σ H s) (q : Q (.bl k) H) (e : k = k') : EP X pins σ Q (.bool k') s := by
  subst e
  exact ⟨.bl k, H, I, rfl, q⟩
theorem op_eq : OpR X (compareOp .Eq) rEq := by
  intro pins s σ H x y v u Q I rx ry h
  obtain ⟨hs, q⟩ := h
  cases x with
  | non =>
    cases rx
    cases y with
    | non => cases ry; exact PySem.EqNone.eq_none_none (fin_bl I q (by simp))
    | bl j => cases ry; exact PySem.EqNone.eq_none_bool (fin_bl I q (by simp))
    | int j => obtain ⟨t', rfl⟩ := ry; exact PySem.EqNone.eq_none_int (fin_bl I q (by simp))
    | str j => obtain ⟨t', rfl⟩ := ry; exact PySem.EqNone.eq_none_str (fin_bl I q (by simp))
    | _ => exact absurd (show false = true from hs) Bool.false_ne_true
  | bl i =>
    cases rx
    cases y with
    | non => cases ry; exact PySem.EqNone.eq_bool_none (fin_bl I q (by simp))
    | bl j => cases ry; exact eq_bool (fin_bl I q dec_bl)
    | str j => obtain ⟨t', rfl⟩ := ry; exact PySem.EqMixed.eq_bool_str (fin_bl I q (by simp))
    | _ => exact absurd (show false = true from hs) Bool.false_ne_true
  | int i =>
    obtain ⟨t, rfl⟩ := rx
    cases y with
    | non => cases ry; exact PySem.EqNone.eq_int_none (fin_bl I q (by simp))
    | int j => obtain ⟨t', rfl⟩ := ry; exact eq_int (fin_bl I q dec_int)
    | str j => obtain ⟨t', rfl⟩ := ry; exact PySem.EqMixed.eq_int_str (fin_bl I q (by simp))
    | _ => exact absurd (show false = true from hs) Bool.false_ne_true
  | str i =>
    obtain ⟨t, rfl⟩ := rx
    cases y with
    | non => cases ry; exact PySem.EqNone.eq_str_none (fin_bl I q (by simp))
    | bl j => cases ry; exact PySem.EqMixed.eq_str_bool (fin_bl I q (by simp))
    | int j => obtain ⟨t', rfl⟩ := ry; exact PySem.EqMixed.eq_str_int (fin_bl I q (by simp))
    | str j => obtain ⟨t', rfl⟩ := ry; exact eq_str (fin_bl I q dec_str)
    | _ => exact absurd (show false = true from hs) Bool.false_ne_true
  | byt i =>
    obtain ⟨t, rfl⟩ := rx
    cases y with
    | byt j => obtain ⟨t', rfl⟩ := ry; exact PySem.W.eq_bytes (fin_bl I q dec_byt)
    | _ => exact absurd (show false = true from hs) Bool.false_ne_true
  | _ => cases y <;> exact absurd (show false = true from hs) Bool.false_ne_true
theorem op_ne : OpR X (compareOp .NotEq) rNe := by
  intro pins s σ H x y v u Q I rx ry h
  obtain ⟨hs, q⟩ := h
  cases x with
  | non =>
    cases rx
    cases y with
    | non => cases ry; exact PySem.EqNone.ne_none_none (fin_bl I q (by simp))
    | bl j => cases ry; exact PySem.EqNone.ne_none_bool (fin_bl I q (by simp))
    | int j => obtain ⟨t', rfl⟩ := ry; exact PySem.EqNone.ne_none_int (fin_bl I q (by simp))
    | str j => obtain ⟨t', rfl⟩ := ry; exact PySem.EqNone.ne_none_str (fin_bl I q (by simp))
    | _ => exact absurd (show false = true from hs) Bool.false_ne_true
  | bl i =>
    cases rx
    cases y with
    | non => cases ry; exact PySem.EqNone.ne_bool_none (fin_bl I q (by simp))
    | bl j => cases ry; exact ne_bool (fin_bl I q (congrArg not dec_bl))
    | str j => obtain ⟨t', rfl⟩ := ry; exact PySem.EqMixed.ne_bool_str (fin_bl I q (by simp))
    | _ => exact absurd (show false = true from hs) Bool.false_ne_true
  | int i =>
    obtain ⟨t, rfl⟩ := rx
    cases y with
    | non => cases ry; exact PySem.EqNone.ne_int_none (fin_bl I q (by simp))
    | int j => obtain ⟨t', rfl⟩ := ry; exact ne_int (fin_bl I q (congrArg not dec_int))
    | str j => obtain ⟨t', rfl⟩ := ry; exact PySem.EqMixed.ne_int_str (fin_bl I q (by simp))
    | _ => exact absurd (show false = true from hs) Bool.false_ne_true
  | str i =>
    obtain ⟨t, rfl⟩ := rx
    cases y with
    | non => cases ry; exact PySem.EqNone.ne_str_none (fin_bl I q (by simp))
    | bl j => cases ry; exact PySem.EqMixed.ne_str_bool (fin_bl I q (by simp))
    | int j => obtain ⟨t', rfl⟩ := ry; exact PySem.EqMixed.ne_str_int (fin_bl I q (by simp))
    | str j => obtain ⟨t', rfl⟩ := ry; exact ne_str (fin_bl I q (congrArg not dec_str))
    | _ => exact absurd (show false = true from hs) Bool.false_ne_true
  | byt i =>
    obtain ⟨t, rfl⟩ := rx
    cases y with
    | byt j => obtain ⟨t', rfl⟩ := ry; exact PySem.W.ne_bytes (fin_bl I q (congrArg not dec_byt))
    | _ => exact absurd (show false = true from hs) Bool.false_ne_true
  | _ => cases y <;> exact absurd (show false = true from hs) Bool.false_ne_true

theorem op_lt : OpR X (compareOp .Lt) (rI0 fun i j => .bl (decide (i < j))) := opB0 fun _ _ _ _ _ _ _ q => lt_int q
theorem op_gt : OpR X (compareOp .Gt) (rI0 fun i j => .bl (decide (j < i))) := opB0 fun _ _ _ _ _ _ _ q => gt_int q
theorem op_ge : OpR X (compareOp .GtE) (rI0 fun i j => .bl (decide (j ≤ i))) := opB0 fun _ _ _ _ _ _ _ q => ge_int q
/-- is None, is not None: the right side a value none -/
theorem op_isN : OpR X (compareOp .Is) (fun x y H Q => y = .non ∧ Q (.bl (decide (x = .non))) H) := by
  intro pins s σ H x y v u Q I rx ry h
  obtain ⟨rfl, q⟩ := h
  cases ry
  refine is_none_gen (fin_bl I q ?_)
  cases x <;> first
    | (cases rx; rfl)
    | (obtain ⟨t, rfl⟩ := rx; rfl)
theorem nomark (b : Expr) {op : CmpOp} (h : op ≠ .In := by decide) (h2 : op ≠ .NotIn := by decide) : behindInMarks op b = false := by
  have e1 : (op == CmpOp.In) = false := by cases op <;> first | rfl | exact absurd rfl h
  have e2 : (op == CmpOp.NotIn) = false := by cases op <;> first | rfl | exact absurd rfl h2
  cases b <;> simp [behindInMarks, e1, e2]
/-- a comparison as a value; hm: nomark b, or (for in, not in) by with_unfolding_all rfl -/
theorem pe_cmpR {op : CmpOp} {r : R2} (ho : OpR X (compareOp op) r) (ha : PE X a ta) (hb : PE X b tb) (hm : behindInMarks op b = false) : PE X (.Compare a [op] [b] pos) (tOp r ta tb) := by
  intro pins s σ H Q I h
  exact wpAny_Compare1 (binT ha hb I h fun v u s2 x y H2 I2 rx ry q => ho pins s2 σ H2 x y v u Q I2 rx ry q) hm
/-- a reading of a value as a test -/
def tTest (t : TE) : TT := fun σ H Q => t σ H fun x H' => ∃ k, x = .bl k ∧ Q k H'
theorem pt_cmpR {op : CmpOp} {r : R2} (ho : OpR X (compareOp op) r) (ha : PE X a ta) (hb : PE X b tb) (hm : behindInMarks op b = false) : PT X (.Compare a [op] [b] pos) (tTest (tOp r ta tb)) := by
  intro pins s σ H Q I h
  refine wpAny_isTrue_Compare1 (thn (ha pins s σ H _ I h) fun v s1 ⟨x, H1, I1, r1, q1⟩ => thn (hb pins s1 σ H1 _ I1 q1) fun u s2 ⟨y, H2, I2, r2, q2⟩ =>
    thn (ho pins s2 σ H2 x y v u _ I2 r1 r2 q2) fun c s3 ⟨z, H3, I3, r3, k, e, q3⟩ => ?_) hm
  subst e
  cases r3
  exact wpAny_truthy_bool ⟨H3, I3, q3⟩
/-! ### truth -/
theorem line63 : (sizeLine : Nat) < 2 ^ 63 := by rw [sizeLine_eq]; decide
/-! ### strs and bytes -/
/-! ### scalar builtins, by CallR -/
theorem vals1 {x : V} {us : List Value} (r : Vals [x] us) : ∃ u, us = [u] ∧ RelV x u := by
  cases r with
  | cons r1 r2 => cases r2; exact ⟨_, rfl, r1⟩
theorem vals2 {x y : V} {us : List Value} (r : Vals [x, y] us) : ∃ u w', us = [u, w'] ∧ RelV x u ∧ RelV y w' := by
  cases r with
  | cons r1 r2 =>
    cases r2 with
    | cons r3 r4 => cases r4; exact ⟨_, _, rfl, r1, r3⟩
theorem call_abs : CallR X (.builtin "abs") (fun xs H Q => ∃ i, xs = [.int i] ∧ Q (.int (if i < 0 then -i else i)) H) := by
  intro pins s σ H xs us Q I r h
  obtain ⟨i, rfl, q⟩ := h
  obtain ⟨u, rfl, t, rfl⟩ := vals1 r
  exact call_abs_int fun u tk => ⟨.int (if i < 0 then -i else i), H, I.tok _, ⟨_, rfl⟩, q⟩
end
end L2

namespace L2
open PySem PySem.Spec PyProof.Rows

/-! ### an instance, its attributes a map -/
structure ObjM (h : Heap) (x dx C : Addr) (mA : Str → Option Value) : Prop where
  obj : h.get? x = some (PySem.W.instObj C dx)
  ns : h.Ns1 dx mA
  ne : dx ≠ x

theorem lookIn_ns {h : Heap} {dx : Addr} {mA : Str → Option Value} (n : h.Ns1 dx mA) : ∃ od, h.get? dx = some od ∧ ∀ name, PySem.W.lookIn name od = some (mA name) := by
  obtain ⟨o, es, ep, ho, hd, hk, _, hm⟩ := n
  refine ⟨o, ho, fun name => ?_⟩
  have e := hm name
  unfold nsFind findBy at e
  rw [← Array.find?_toList] at e
  unfold PySem.W.lookIn
  rw [hd]
  dsimp only
  split
  · rename_i y q
    rw [q] at e
    exact congrArg some e
  · rename_i q
    rw [q] at e
    have a : es.toList.any (·.refKey) = false := by
      rw [List.any_eq_false]
      intro y hy
      obtain ⟨z, t, hkey⟩ := hk y (Array.mem_toList_iff.mp hy)
      simp [DictEntry.refKey, hkey]
    have a' : ¬ es.toList.any (·.refKey) = true := by rw [a]; exact Bool.false_ne_true
    rw [if_neg a']
    exact congrArg some e

theorem ObjM.look {h : Heap} {x dx C : Addr} {mA : Str → Option Value} (I : ObjM h x dx C mA) : ∃ od, PySem.W.InstAt h x (PySem.W.instObj C dx) C (some od) ∧ ∀ name, PySem.W.lookIn name od = some (mA name) :=
  let ⟨od, ho, hl⟩ := lookIn_ns I.ns
  ⟨od, ⟨I.obj, rfl, rfl, ho⟩, hl⟩

section
variable {prog : Program} {w : World} {A : Around} {E : Value → Shared → Prop} {s : Shared} {K : PySem.W.Frag} {x dx C f : Addr} {mA : Str → Option Value} {name : Str} {v : Value}

end

/-! ### the attributes as a list of pairs -/
section
variable {P : Program} {w : World} {H H' : Hp} {h h' : Heap} {a C dx : Addr} {fs fs' : List (Str × V)}
theorem ins_get (hok : HOk P w H h) (e : H a = some (.ins C dx fs)) : ∃ mA, ObjM h a dx C mA ∧ (∀ f, RelO (fs.lookup f) (mA f)) ∧ PySem.Within mA (fs.map (·.1)) ∧ fs.length ≤ 1000 ∧ H dx = some (.own a) := by
  obtain ⟨d, z, ne, ob, mA, n, r, q⟩ := (show ObjOk P w H h a (.ins C dx fs) from hok a _ e)
  exact ⟨mA, ⟨ob, n, ne⟩, r, q, z, d⟩
end

/-! ### what of the text a class must have -/
structure Cls (K : PySem.W.Frag) (C : Addr) : Prop where
  pg : PySem.W.plainGet K C Str.empty = true
  hd : PySem.W.hasDictIn K C = true
  po : PySem.W.plainOver K C = true
  sa : PySem.W.findIn K (.ref C) "__setattr__" = some (some (.builtin "object.__setattr__"))
theorem Cls.get {K : PySem.W.Frag} {C : Addr} (c : Cls K C) (f : Str) : PySem.W.plainGet K C f = true := c.pg
/-- a constant of the class -/
structure Con (K : PySem.W.Frag) (C : Addr) (f : Str) (v : V) (u : Value) : Prop where
  at_ : PySem.W.findIn K (.ref C) f = some (some u)
  rel : RelV v u
  get : PySem.W.specialIn K u "__get__" = some none
  cp : PySem.W.copiedNames.contains f = false
/-- a method: a plain def of the class or of one above it -/
structure Meth (K : PySem.W.Frag) (C : Addr) (m : Str) (f : Addr) : Prop where
  at_ : PySem.W.findIn K (.ref C) m = some (some (.ref f))
  fn : PySem.W.isFn K (.ref f) = true
  kp : PySem.W.keepIn K (.ref f) = true

section
variable {X : Cx} {pins : List (Addr × Obj)} {σ : St} {H : Hp} {s : Shared} {a C dx : Addr} {fs : List (Str × V)} {f : Str} {v : V} {A : Around} {E : Value → Shared → Prop}

end

/-! ### readings and rules -/
section
variable {X : Cx} {o e value : Expr} {f : Str} {pos pos' tpos : Pos} {ta tv : TE}
end

/-! ### isinstance -/
section
variable {X : Cx} {pins : List (Addr × Obj)} {σ : St} {H : Hp} {s : Shared} {A : Around} {E : Value → Shared → Prop} {Q : Value → Shared → Prop} {c : Value} {b : Bool}
/-- the type of a value, as the fragment's deciders take it; for an instance its class -/
inductive TyOf (K : PySem.W.Frag) (H : Hp) : V → Value → Prop where
  | non : TyOf K H .non (.type "NoneType")
  | bl (x : Bool) : TyOf K H (.bl x) (.type "bool")
  | int (i : Int) : TyOf K H (.int i) (.type "int")
  | str (x : Str) : TyOf K H (.str x) (.type "str")
  | flt (x : UInt64) : TyOf K H (.flt x) (.type "float")
  | lst {a : Addr} {xs : List V} (e : H a = some (.lst xs)) : TyOf K H (.ref a) (.type "list")
  | frz {a : Addr} {o : Obj} {xs : List V} (e : H a = some (.frz o (.lst xs))) : TyOf K H (.ref a) (.type "list")
  | tup {a : Addr} {xs : List V} (e : H a = some (.tup xs)) : TyOf K H (.ref a) (.type "tuple")
  | dK {a : Addr} {kvs : List (Key × V)} (e : H a = some (.dK kvs)) : TyOf K H (.ref a) (.type "dict")
  | dT {a : Addr} {kvs : List (List Key × V)} (e : H a = some (.dT kvs)) : TyOf K H (.ref a) (.type "dict")
  | ins {a C dx : Addr} {fs : List (Str × V)} (e : H a = some (.ins C dx fs)) (cl : Cls K C) (ha : PySem.W.findIn K (.ref C) "__class__" = some (some (.builtin "object.__class__")))
      (hn : PySem.W.specialIn K (.builtin "object.__class__") "__get__" = some (some (.builtin "getset_descriptor.__get__"))) (htk : PySem.W.takesIn K (.builtin "object.__class__") = some true)
      (hm : PySem.W.mroIn K C (.type "object") = some true) : TyOf K H (.ref a) (.ref C)
/-- isinstance(x, c) for one class c, a built-in or an own one: kitOne's answer -/
theorem isinst_ok {x : V} {u t : Value} (I : Inv X pins σ H s) (rx : RelV x u) (ty : TyOf X.K H x t) (e : PySem.W.kitOne X.K t c = some b) (h : ∀ tk, Q (.bool b) { s with toks := tk }) :
    wpAny (model X.prog X.w) A (call (.builtin "isinstance") [u, c]) Q E s := by
  cases ty with
  | non => cases (show u = Value.none from rx); exact PySem.W.kia_one PySem.W.kitx_none I.kIn True.intro e (fun z => nomatch z) h
  | bl y => cases (show u = Value.bool y from rx); exact PySem.W.kia_one PySem.W.kitx_bool I.kIn True.intro e (fun z => nomatch z) h
  | int i => obtain ⟨t, q⟩ := (show ∃ t, u = Value.int i t from rx); cases q; exact PySem.W.kia_one PySem.W.kitx_int I.kIn True.intro e (fun z => nomatch z) h
  | str y => obtain ⟨t, q⟩ := (show ∃ t, u = Value.str y t from rx); cases q; exact PySem.W.kia_one PySem.W.kitx_str I.kIn True.intro e (fun z => nomatch z) h
  | flt y => obtain ⟨t, q⟩ := (show ∃ t, u = Value.float y t from rx); cases q; exact PySem.W.kia_one PySem.W.kitx_float I.kIn True.intro e (fun z => nomatch z) h
  | @lst a xs ea =>
    cases (show u = Value.ref a from rx)
    obtain ⟨_, _, n, _, h1⟩ := (show ObjOk X.prog X.w H s.heap a (.lst xs) from I.hok a _ ea)
    exact PySem.W.kia_one PySem.W.kitx_list I.kIn ⟨_, h1, rfl⟩ e (fun z => nomatch z) h
  | @frz a ob xs ea =>
    cases (show u = Value.ref a from rx)
    obtain ⟨_, _, _, n, _, h1⟩ := (show ObjOk X.prog X.w H s.heap a (.frz ob (.lst xs)) from I.hok a _ ea)
    exact PySem.W.kia_one PySem.W.kitx_list I.kIn ⟨_, h1, rfl⟩ e (fun z => nomatch z) h
  | @tup a xs ea =>
    cases (show u = Value.ref a from rx)
    obtain ⟨_, _, _, p⟩ := (show ObjOk X.prog X.w H s.heap a (.tup xs) from I.hok a _ ea)
    obtain ⟨o, h1, h2, _⟩ := p
    exact PySem.W.kia_one PySem.W.kitx_tuple I.kIn ⟨o, h1, h2⟩ e (fun z => nomatch z) h
  | @dK a kvs ea =>
    cases (show u = Value.ref a from rx)
    obtain ⟨_, _, vs, _, p⟩ := (show ObjOk X.prog X.w H s.heap a (.dK kvs) from I.hok a _ ea)
    obtain ⟨o, es, ep, h1, h2, _⟩ := p
    exact PySem.W.kia_one PySem.W.kitx_dict I.kIn ⟨o, h1, h2.1⟩ e (fun z => nomatch z) h
  | @dT a kvs ea =>
    cases (show u = Value.ref a from rx)
    obtain ⟨_, _, xs, _, o, es, ep, h1, h2, _⟩ := (show ObjOk X.prog X.w H s.heap a (.dT kvs) from I.hok a _ ea)
    exact PySem.W.kia_one PySem.W.kitx_dict I.kIn ⟨o, h1, h2.1⟩ e (fun z => nomatch z) h
  | @ins a C dx fs ea cl ha hn htk hm =>
    cases (show u = Value.ref a from rx)
    obtain ⟨mA, O, _⟩ := ins_get I.hok ea
    obtain ⟨od, J, _⟩ := O.look
    exact PySem.W.kia_one (PySem.W.kitx_own (cl.get _) cl.hd ha hn htk hm) I.kIn J e (fun z => nomatch z) h
end
end L2

namespace L2
open PySem PySem.Spec PyProof.Rows

/-! ### room -/
structure Room (k : Nat) (A : Around) : Prop where
  hd : A.handled = none
  dp : A.depth + 3 * k + 5 < recursionLimit
  un : A.units + 16 * k + 200 < cLine
theorem Room.mono {j k : Nat} {A : Around} (r : Room k A) (h : j ≤ k) : Room j A := ⟨r.hd, by have := r.dp; lia, by have := r.un; lia⟩
theorem Room.deeper {k : Nat} {A : Around} (r : Room (k + 1) A) (env : Env) : Room k (A.deeper env) :=
  ⟨r.hd, by have := r.dp; show A.depth + 1 + 3 * k + 5 < _; lia, by have := r.un; show A.units + 3 + 16 * k + 200 < _; lia⟩
theorem Room.depth {k : Nat} {A : Around} (r : Room k A) : A.depth < recursionLimit := by have := r.dp; lia
theorem Room.units {k : Nat} {A : Around} (r : Room k A) : A.units + 64 < cLine := by have := r.un; lia
/-! ### argument lists and displays -/
def tNil : TA := fun _ H Q => Q [] H
def tCons (ta : TE) (tr : TA) : TA := fun σ H Q => ta σ H fun x H1 => tr σ H1 fun xs H2 => Q (x :: xs) H2
section
variable {X : Cx} {e : Expr} {es : List Expr} {te : TE} {t : TA} {pos : Pos}
theorem pa_nil : PA X [] tNil := fun _ _ _ _ H Q I h => Calls.spliced_nil ⟨[], H, I, .nil, h⟩
theorem pa_cons (ha : PE X e te) (hr : PA X es t) (hs : starEach (e :: es) X.env = (false, eval e X.env) :: starEach es X.env := by rfl) : PA X (e :: es) (tCons te t) := by
  intro pos pins s σ H Q I h
  rw [hs]
  show wpAny _ _ (spliced ((false, eval e X.env) :: backTo pos (starEach es X.env))) _ _ s
  refine Calls.spliced_cons (thn (ha pins s σ H _ I h) fun u s1 ⟨x, H1, I1, r1, q1⟩ => ?_)
  exact thn (hr pos pins s1 σ H1 _ I1 q1) fun us s2 ⟨xs, H2, I2, r2, q2⟩ => ⟨x :: xs, H2, I2, .cons r1 r2, q2⟩

/-- a tuple, a list of written items -/
def tTup (t : TA) : TE := fun σ H Q => t σ H fun xs H1 => xs.length ≤ sizeLine ∧ ∀ p, H1 p = none → Q (.ref p) (upd H1 p (.tup xs))
def tLst (t : TA) : TE := fun σ H Q => t σ H fun xs H1 => xs.length ≤ sizeLine ∧ ∀ p, H1 p = none → Q (.ref p) (upd H1 p (.lst xs))
theorem pe_tup {x1} (h : PA X es t) : PE X (.Tuple es x1 pos) (tTup t) := by
  intro pins s σ H Q I hq
  refine wpAny_Tuple_spliced (thn (h pos pins s σ H _ I hq) fun us s1 ⟨xs, H1, I1, r, z, q⟩ => ⟨by rw [← r.length]; exact z, ?_⟩)
  have hf : H1 s1.heap.objs.size = none := I1.hok.fresh (Nat.le_refl _)
  refine ⟨.ref s1.heap.objs.size, upd H1 s1.heap.objs.size (.tup xs), I1.laid (t' := s1.toks) (fun b u e => Heap.get?_push_of_some _ e) (Nat.le_refl _) ?_, rfl, q _ hf⟩
  exact ⟨z, us, r, ⟨_, Heap.get?_push_size _ rfl, rfl, _, rfl⟩⟩
theorem pe_lst (h : PA X es t) : PE X (.List es pos) (tLst t) := by
  intro pins s σ H Q I hq
  refine wpAny_List_spliced (thn (h pos pins s σ H _ I hq) fun us s1 ⟨xs, H1, I1, r, z, q⟩ => ⟨by rw [← r.length]; exact z, ?_⟩)
  have hf : H1 s1.heap.objs.size = none := I1.hok.fresh (Nat.le_refl _)
  refine ⟨.ref s1.heap.objs.size, upd H1 s1.heap.objs.size (.lst xs), I1.laid (t' := s1.toks) (fun b u e => Heap.get?_push_of_some _ e) (Nat.le_refl _) ?_, rfl, q _ hf⟩
  exact ⟨z, us, 0, r, Heap.get?_push_size _ rfl⟩
end

/-! ### what a def promises -/
/-- a def's promise: the bound arguments in the parameters' order, the heap, the wanted end, the wanted exception -/
abbrev Sp := List V → Hp → VK → XK → Prop
/-- how an exception lies behind a call (file 08 gives it): the callers' frames, abstract heap and state ahead of the call, the wish, the exception, the state -/
abbrev CXT := List Env → Hp → Shared → XK → Value → Shared → Prop

/-- the state at a call -/
structure Env0 (P : Program) (w : World) (K : PySem.W.Frag) (mg : Str → Option Value) (base : Heap) (A : Around) (outer : List Env) (s : Shared) (H : Hp) : Prop where
  frames : A.frames = some outer
  mod : Mod K mg base
  bs : ∀ b o, base.get? b = some o → s.heap.get? b = some o ∧ H b = none
  bsz : base.objs.size ≤ s.heap.objs.size
  funs : s.heap.FunFrames base outer
  frf : ∀ b ∈ frs outer, H b = none
  hok : HOk P w H s.heap
  bare : AllBare s.gens
/-- a call's end -/
def CE (outer : List Env) (P : Program) (w : World) (H : Hp) (s : Shared) (Q : VK) (u : Value) (s' : Shared) : Prop :=
  ∃ v H', s'.os = s.os ∧ AllBare s'.gens ∧ Un (frs outer) [] H H' s.heap s'.heap ∧ HOk P w H' s'.heap ∧ RelV v u ∧ Q v H'
def CR (CX : CXT) (outer : List Env) (P : Program) (w : World) (H : Hp) (s : Shared) (Q : VK) (E : XK) (r : Result) (s' : Shared) : Prop :=
  match r with
  | .ok (.ret u) => CE outer P w H s Q u s'
  | .ok _ => False
  | .error e => CX outer H s E e s'
structure FnOk (P : Program) (w : World) (K : PySem.W.Frag) (mg : Str → Option Value) (base : Heap) (CX : CXT) (k : Nat) (f : Addr) (fd : FuncData) (ps : List Str) (sp : Sp) : Prop where
  len : ∀ vs H Q E, sp vs H Q E → vs.length = ps.length
  run : ∀ (A : Around) (outer : List Env) (s : Shared) (H : Hp) (args : Args) (us : List Value) (vs : List V) (Q : VK) (E : XK), Room k A → Env0 P w K mg base A outer s H → BindsTo s fd args (ps.zip us) → Vals vs us → sp vs H Q E →
    codeAny (model P w) A (.call (.ref f) args) (CR CX outer P w H s Q E) s
section
variable {X : Cx} {pins : List (Addr × Obj)} {σ : St} {H : Hp} {s s' : Shared}
/-- from a body: what a callee wants -/
theorem Inv.env0 (I : Inv X pins σ H s) : Env0 X.prog X.w X.K X.mg X.base X.A X.stack s H :=
  ⟨I.ok.frames, I.ok.mod, I.bs, Nat.le_trans I.ok.bsz I.sz, I.stack, I.stkFree, I.hok, I.bare⟩
/-- behind a call -/
theorem Inv.after {Q : VK} {u : Value} (I : Inv X pins σ H s) (h : CE X.stack X.prog X.w H s Q u s') : EP X pins σ Q u s' := by
  obtain ⟨v, H', os, bare, un, hok, r, q⟩ := h
  obtain ⟨hh, g, d, t, os'⟩ := s'
  obtain rfl : os' = s.os := os
  exact ⟨v, H', I.call (h' := hh) (g' := g) (d' := d) (t' := t) (ch := []) un hok bare (fun b z => absurd z (by simp)), r, q⟩
end

/-! ### calls -/
/-- f(..): the written arguments, then the defaults dvs; E: what is wanted of an exception -/
def tCall (sp : Sp) (dvs : List V) (E : XK) (t : TA) : TE := fun σ H Q => t σ H fun vs H1 => sp (vs ++ dvs) H1 Q E
/-- how the parameters are bound: us the positional arguments, kw the keywords' values by name, ds the defaults that fill up -/
def Binds (K : PySem.W.Frag) (fd : FuncData) (ps : List Str) (ds : List Value) : Prop :=
  ∀ (s : Shared) (us : List Value), K.In s.heap → (us ++ ds).length = ps.length → BindsTo s fd ⟨us, []⟩ (ps.zip (us ++ ds))
/-- every parameter is given -/
theorem Binds.all {K : PySem.W.Frag} {fd : FuncData} {ps : List Str} (h : ∀ us : List Value, us.length = ps.length → bindArgs fd ⟨us, []⟩ = pure (ps.zip us)) : Binds K fd ps [] := fun s us _ hl => by
  rw [List.append_nil] at hl ⊢
  exact .of_eq (h us hl)

/-- an exception of a callee reaches what this body wants of exceptions -/
def Passes (CX : CXT) (X : Cx) (E : XK) : Prop := ∀ (pins : List (Addr × Obj)) (σ : St) (H : Hp) (s : Shared) (e : Value) (s' : Shared), Inv X pins σ H s → CX X.stack H s E e s' → X.xe e s'

section
variable {X : Cx} {CX : CXT} {k : Nat} {f C : Addr} {fd : FuncData} {ps : List Str} {sp : Sp} {dvs : List V} {ds : List Value} {E : XK} {x m : Str} {p pos apos : Pos} {e o : Expr} {es : List Expr} {ta : TE} {t : TA}

/-- the callee runs -/
theorem run_fn {pins : List (Addr × Obj)} {σ : St} {H : Hp} {s : Shared} {Q : VK} {us : List Value} {vs : List V} (F : FnOk X.prog X.w X.K X.mg X.base CX k f fd ps sp) (hr : Room k X.A) (hb : Binds X.K fd ps ds) (hd : Vals dvs ds) (hx : Passes CX X E)
    (I : Inv X pins σ H s) (r : Vals vs us) (h : sp (vs ++ dvs) H Q E) : wpAny (model X.prog X.w) X.A (call (.ref f) us) (EP X pins σ Q) X.xe s := by
  have r2 : Vals (vs ++ dvs) (us ++ ds) := r.append hd
  have hl : (us ++ ds).length = ps.length := by rw [← r2.length]; exact F.len _ _ _ _ h
  refine wpAny_call (codeAny_mono (F.run X.A X.stack s H ⟨us, []⟩ (us ++ ds) (vs ++ dvs) Q E hr I.env0 (hb s us I.kIn hl) r2 h) fun r s' hq => ?_)
  cases r with
  | error e => exact hx pins σ H s e s' I hq
  | ok fl =>
    cases fl with
    | ret u => exact I.after hq
    | next => exact False.elim hq
    | brk => exact False.elim hq
    | cont => exact False.elim hq

theorem pe_call (F : FnOk X.prog X.w X.K X.mg X.base CX k f fd ps sp) (hr : Room k X.A) (hg : Gl X x) (hm : X.mg x = some (.ref f)) (hk : PySem.W.keepIn X.K (.ref f) = true) (hb : Binds X.K fd ps ds) (hd : Vals dvs ds) (hx : Passes CX X E)
    (ha : PA X (e :: es) t) (hdb : (x == ("__debug__" : Str)) = false := by decide) (he : starEach (e :: es) X.env = (false, eval e X.env) :: starEach es X.env := by rfl) (hpl : (backTo pos (starEach es X.env)).any (·.1) = false := by rfl) :
    PE X (.Call (.Name x p) (e :: es) [] pos) (tCall sp dvs E t) := by
  intro pins s σ H Q I h
  refine wpAny_Call_Name_kw (ld_glob I hg hm ?_ hdb)
  refine PySem.W.callWith_K (h₀ := X.base) I.ok.mod.kin hk (thn (ha pos pins s σ H _ I h) fun us s1 ⟨vs, H1, I1, r, q⟩ => ⟨I1.kIn, ?_⟩) he hpl
  exact run_fn F hr hb hd hx I1 r q
/-- what a class must have to be made -/
structure Mk (K : PySem.W.Frag) (C f : Addr) : Prop where
  makes : PySem.W.makesIn K C = true
  init : PySem.W.findIn K (.ref C) "__init__" = some (some (.ref f))
  fn : PySem.W.isFn K (.ref f) = true
  kp : PySem.W.keepIn K (.ref C) = true

end

/-! ### keywords -/
section
variable {X : Cx} {CX : CXT} {k : Nat} {f C : Addr} {fd : FuncData} {ps ks : List Str} {sp : Sp} {E : XK} {x m : Str} {p pos apos kpos : Pos} {e o : Expr} {es : List Expr} {kws : List Keyword} {te ta : TE} {t tk : TA} {nm : Option Str}
/-- how a call with keywords binds: g puts the positional values us and the keywords' values ws (names ks) in the parameters' order, defaults among them -/
structure KBinds (K : PySem.W.Frag) (fd : FuncData) (ps ks : List Str) (g : List Value → List Value → List Value) (gV : List V → List V → List V) : Prop where
  to : ∀ (s : Shared) (us ws : List Value), K.In s.heap → (g us ws).length = ps.length → BindsTo s fd ⟨us, ks.zip ws⟩ (ps.zip (g us ws))
  rel : ∀ {vs : List V} {us : List Value} {zs : List V} {ws : List Value}, Vals vs us → Vals zs ws → Vals (gV vs zs) (g us ws)
variable {g : List Value → List Value → List Value} {gV : List V → List V → List V}
end

/-! ### a def's body keeps its promise -/
/-- names: the parameters first -/
structure FnScope (N P : List Str) (sc : Scope) : Prop where
  kind : sc.kind = .function
  co : sc.isCoroutine = false
  gen : sc.isGenerator = false
  nd : N.Nodup
  pre : N.take P.length = P
  par : ∀ x ∈ P, sc.names.lookup x = some .local ∨ sc.names.lookup x = some .cell
  nofree : ∀ y ∈ sc.names, y.2 ≠ .free

theorem bindL_out {kindOf : Str → Option NameKind} {x : Str} : ∀ {binds : List (Str × Value)} {m : Str → Option Value}, (∀ v, (x, v) ∉ binds) → bindL kindOf binds m x = m x
  | [], _, _ => rfl
  | (n, v) :: r, m, h => by
    unfold bindL
    rw [bindL_out fun w hw => h w (List.mem_cons_of_mem _ hw)]
    split
    · have : x ≠ n := by rintro rfl; exact h v List.mem_cons_self
      simp [this]
    · rfl
theorem bindC_out {kindOf : Str → Option NameKind} {x : Str} : ∀ {binds : List (Str × Value)} {m : Str → Option Value}, (∀ v, (x, v) ∉ binds) → bindC kindOf binds m x = m x
  | [], _, _ => rfl
  | (n, v) :: r, m, h => by
    unfold bindC
    rw [bindC_out fun w hw => h w (List.mem_cons_of_mem _ hw)]
    split
    · rfl
    · have : x ≠ n := by rintro rfl; exact h v List.mem_cons_self
      simp [this]
theorem bindL_get {kindOf : Str → Option NameKind} {x : Str} {v : Value} : ∀ {P : List Str} {vs : List Value} {i : Nat} {m : Str → Option Value}, P.Nodup → P[i]? = some x → vs[i]? = some v → kindOf x = some .local →
    bindL kindOf (P.zip vs) m x = some v
  | [], _, _, _, _, h, _, _ => by simp at h
  | _ :: _, [], _, _, _, _, h, _ => by simp at h
  | p :: P, w :: vs, 0, m, nd, h1, h2, hk => by
    simp at h1 h2; subst h1; subst h2
    show bindL kindOf ((p, w) :: P.zip vs) m p = _
    unfold bindL
    rw [bindL_out fun v hv => (List.nodup_cons.mp nd).1 (List.of_mem_zip hv).1, if_pos hk]
    simp
  | p :: P, w :: vs, i + 1, m, nd, h1, h2, hk => by
    show bindL kindOf ((p, w) :: P.zip vs) m x = _
    unfold bindL
    exact bindL_get (i := i) (List.nodup_cons.mp nd).2 (by simpa using h1) (by simpa using h2) hk
theorem bindC_get {kindOf : Str → Option NameKind} {x : Str} {v : Value} : ∀ {P : List Str} {vs : List Value} {i : Nat} {m : Str → Option Value}, P.Nodup → P[i]? = some x → vs[i]? = some v → kindOf x ≠ some .local →
    bindC kindOf (P.zip vs) m x = some v
  | [], _, _, _, _, h, _, _ => by simp at h
  | _ :: _, [], _, _, _, _, h, _ => by simp at h
  | p :: P, w :: vs, 0, m, nd, h1, h2, hk => by
    simp at h1 h2; subst h1; subst h2
    show bindC kindOf ((p, w) :: P.zip vs) m p = _
    unfold bindC
    rw [bindC_out fun v hv => (List.nodup_cons.mp nd).1 (List.of_mem_zip hv).1, if_neg hk]
    simp
  | p :: P, w :: vs, i + 1, m, nd, h1, h2, hk => by
    show bindC kindOf ((p, w) :: P.zip vs) m x = _
    unfold bindC
    exact bindC_get (i := i) (List.nodup_cons.mp nd).2 (by simpa using h1) (by simpa using h2) hk

/-- the names' values at the entry -/
def start (N : List Str) (vs : List V) : St := vs.map some ++ List.replicate (N.length - vs.length) none

/-- the context of a def's body, at its entry; an exception leaves the frame, then lies as CX says -/
def cxOf (CX : CXT) (P : Program) (w : World) (K : PySem.W.Frag) (mg : Str → Option Value) (base : Heap) (N : List Str) (qual : Str) (scope : Scope) (f : Addr) (cd : Value) (A : Around) (outer : List Env) (s : Shared) (H : Hp) (E : XK) : Cx where
  prog := P
  w := w
  K := K
  mg := mg
  base := base
  A := A.deeper (envOfC qual scope s.heap.objs.size f cd)
  N := N
  s₀ := s
  H₀ := H
  env := envOfC qual scope s.heap.objs.size f cd
  outer := outer
  stack := envOfC qual scope s.heap.objs.size f cd :: outer
  ex := []
  calm := true
  fn := fun _ => true
  pn := []
  xe := fun e s' => wpAny (model P w) (A.deeper (envOfC qual scope s.heap.objs.size f cd)) (leaving (envOfC qual scope s.heap.objs.size f cd) e) (fun _ s'' => CX outer H s E e s'') (fun e' s'' => CX outer H s E e' s'') s'

theorem cell_has {sc : Scope} {n : Nat} {x : Str} (h : sc.names.lookup x = some .cell) : ∃ c, (cellsFrom n sc.names []).lookup x = some c := by
  have q := PySem.W.cellsFrom_some sc.names n [] (.inl h)
  exact Option.isSome_iff_exists.mp q

theorem inv_start {CX : CXT} {P : Program} {w : World} {K : PySem.W.Frag} {mg : Str → Option Value} {base : Heap} {N ps : List Str} {qual : Str} {scope : Scope} {f : Addr} {cd : Value} {A : Around} {outer : List Env} {s s1 : Shared} {H : Hp} {E : XK} {us : List Value} {vs : List V}
    (S : FnScope N ps scope) (hd : A.handled = none) (e0 : Env0 P w K mg base A outer s H) (hl : vs.length = ps.length) (r : Vals vs us)
    (x : InCallC s s.heap.objs.size (bindL (envOfC qual scope s.heap.objs.size f cd).kindOf (ps.zip us) fun _ => none) (cellsFrom (s.heap.objs.size + 1) scope.names []) (bindC (envOfC qual scope s.heap.objs.size f cd).kindOf (ps.zip us) fun _ => none) s1) :
    Inv (cxOf CX P w K mg base N qual scope f cd A outer s H E) [] (start N vs) H s1 := by
  have hpl : ps.length ≤ N.length := by have := congrArg List.length S.pre; rw [List.length_take] at this; lia
  obtain ⟨h1, tk, rfl, hk⟩ := x.done
  have noA : ∀ b : Addr, b ∉ (cxOf CX P w K mg base N qual scope f cd A outer s H E).ex := fun b z => absurd (show b ∈ ([] : List Addr) from z) (by simp)
  refine ⟨⟨e0.mod, S.kind, rfl, rfl, Nat.le_refl _, fun y z c h1 h2 => ?_, fun y hy => ?_, fun y c _ h => ?_, fun _ => hd, Around.frames_deeper e0.frames, .inr ⟨rfl, rfl⟩, fun b z => absurd z (noA b), e0.bs, e0.bsz, fun b _ _ => noA b, fun b z => absurd z (noA b), e0.funs, e0.frf⟩,
    rfl, e0.bare, Un.kept hk, ⟨_, x.toInCall.ns, fun i y v h1 h2 h3 => ?_⟩, fun y c h => ⟨_, x.cell y c h⟩, e0.hok.fresh (Nat.le_refl _), fun y c h => ?_, fun p hp => absurd (show p ∈ ([] : List (Addr × Obj)) from hp) (by simp), e0.hok.kept hk, ?_⟩
  · exact name_of_addr x.apart (PySem.mem_of_lookup h1) (PySem.mem_of_lookup h2)
  · have hy : scope.names.lookup y = some .cell ∨ scope.names.lookup y = some .free := hy
    rcases hy with hy | hy
    · exact cell_has hy
    · exact absurd rfl (S.nofree _ (PySem.mem_of_lookup hy))
  · exact Nat.le_of_lt (x.above y c (PySem.mem_of_lookup h))
  · have hi : i < vs.length := by
      unfold start at h2
      by_cases hi : i < vs.length
      · exact hi
      · rw [List.getElem?_append_right (by simpa using hi)] at h2
        rw [List.getElem?_replicate] at h2
        split at h2 <;> cases h2
    have ha : vs[i]? = some v := by
      unfold start at h2
      rw [List.getElem?_append_left (by simpa using hi), List.getElem?_map] at h2
      cases e : vs[i]? with
      | none => rw [e] at h2; cases h2
      | some a => rw [e] at h2; cases h2; rfl
    obtain ⟨u, hu, rv⟩ := r.get ha
    have hp : ps[i]? = some y := by
      rw [← S.pre, List.getElem?_take_of_lt (by lia)]; exact h1
    have ndP : ps.Nodup := by rw [← S.pre]; exact S.nd.sublist (List.take_sublist _ _)
    refine ⟨u, rv, ?_⟩
    rcases S.par y (List.mem_of_getElem? hp) with k | k
    · exact .inl ⟨k, bindL_get ndP hp hu k⟩
    · obtain ⟨c, e⟩ := cell_has (n := s.heap.objs.size + 1) k
      refine .inr ⟨.inl k, c, e, ?_⟩
      have q := x.cell y c e
      rw [bindC_get ndP hp hu (by show scope.names.lookup y ≠ _; rw [k]; decide)] at q
      exact q
  · exact e0.hok.fresh (Nat.le_of_lt (x.above y c (PySem.mem_of_lookup h)))
  · unfold start
    show _ = N.length
    rw [List.length_append, List.length_map, List.length_replicate]
    lia

/-- THE RULE: a def (or a method) of the text, by its body. The body's reading t is chosen for each entry; it is run at the parameters' values -/
theorem fn_of {CX : CXT} {P : Program} {w : World} {K : PySem.W.Frag} {mg : Str → Option Value} {base : Heap} {k : Nat} {f : Addr} {name qual : Str} {params : Arguments} {body : List Stmt} {scope : Scope} {dV kV doc pm cdv ct oc : Value} {an od : Option Addr}
    {osl : Array (Option Value)} {N ps : List Str} {sp : Sp} (lk : K.lookup f = some ⟨oc, od, .func (PySem.W.fnOf name qual params body scope dV kV doc pm an cdv ct), osl⟩) (hcd : PySem.W.codeIn K cdv qual = true) (S : FnScope N ps scope)
    (len : ∀ vs H Q E, sp vs H Q E → vs.length = ps.length)
    (hbody : ∀ (A : Around) (outer : List Env) (s : Shared) (H : Hp) (vs : List V) (Q : VK) (E : XK), Room k (A.deeper (envOfC qual scope s.heap.objs.size f cdv)) → sp vs H Q E →
      ∃ t, PSs (cxOf CX P w K mg base N qual scope f cdv A outer s H E) body t ∧ t { nx := fun _ H' => Q .non H', rt := Q } (start N vs) H) :
    FnOk P w K mg base CX (k + 1) f (PySem.W.fnOf name qual params body scope dV kV doc pm an cdv ct) ps sp := by
  refine ⟨len, fun A outer s H args us vs Q E hr e0 hb r hsp => ?_⟩
  have hl := len _ _ _ _ hsp
  have KX : K.In s.heap := e0.mod.kin.keeps fun b o e => (e0.bs b o e).1
  have lim : s.heap.NoLimit := e0.mod.nolimit.keeps fun b o e => (e0.bs b o e).1
  have hkind : ∀ y ∈ ps.zip us, scope.names.lookup y.1 = some .local ∨ (scope.names.lookup y.1 = some .cell ∧ ((cellsFrom (s.heap.objs.size + 1) scope.names []).lookup y.1).isSome = true) := fun ⟨n, v⟩ hy => by
    rcases S.par n (List.of_mem_zip hy).1 with q | q
    · exact .inl q
    · exact .inr ⟨q, PySem.W.cellsFrom_some _ _ _ (.inl q)⟩
  refine codeAny_call_function hr.depth (KX _ _ lk) rfl S.co S.gen rfl (PySem.W.codeRec_of KX hcd) (hb _ _ _ _ ?_)
  refine wpAny_newFunctionEnv_cells S.kind hkind fun env he s1 x => ?_
  subst he
  refine ⟨lim.keeps x.toInCall.keep, codeAny_func ?_⟩
  obtain ⟨t, ht, hq⟩ := hbody A outer s H vs Q E (hr.deeper _) hsp
  have I : Inv (cxOf CX P w K mg base N qual scope f cdv A outer s H E) [] (start N vs) H s1 := inv_start S hr.hd e0 hl r x
  refine wpAny_mono (ht [] s1 (start N vs) H _ I hq) (fun fl s' hs => ?_) fun e s' hs => hs
  have fin : ∀ {σ' : St} {H' : Hp} {v : V} {u : Value}, Inv (cxOf CX P w K mg base N qual scope f cdv A outer s H E) [] σ' H' s' → RelV v u → Q v H' → CE outer P w H s Q u s' :=
    fun {σ' H' v u} J rv q => ⟨v, H', J.os, J.bare, J.base, J.hok, rv, q⟩
  cases fl with
  | ret u =>
    obtain ⟨v, σ', H', J, rv, q⟩ := hs
    exact fin J rv q
  | next =>
    obtain ⟨σ', H', J, q⟩ := hs
    exact fin (v := V.non) (u := Value.none) J rfl q
  | brk =>
    obtain ⟨_, _, _, q⟩ := hs
    exact False.elim q
  | cont =>
    obtain ⟨_, _, _, q⟩ := hs
    exact False.elim q
end L2

namespace L2
open PySem PySem.Spec PyProof.Rows
section
variable {X : Cx} {x : Str} {p pos : Pos} {e : Expr} {es : List Expr} {t : TA} {id T : String} {r : List V → Hp → VK → Prop}

def tCB (r : List V → Hp → VK → Prop) (t : TA) : TE := fun σ H Q => t σ H fun vs H1 => r vs H1 Q
/-- f(e, ..), f a built-in function -/
theorem pe_callB (hc : CallR X (.builtin id) r) (hg : Gl X x) (hm : X.mg x = none) (hv : bootBuiltins x = some (.builtin id)) (ha : PA X (e :: es) t) (hn : x ≠ "__name__" := by decide) (hdb : (x == ("__debug__" : Str)) = false := by decide)
    (he : starEach (e :: es) X.env = (false, eval e X.env) :: starEach es X.env := by rfl) (hpl : (backTo pos (starEach es X.env)).any (·.1) = false := by rfl) : PE X (.Call (.Name x p) (e :: es) [] pos) (tCB r t) := by
  intro pins s σ H Q I h
  refine wpAny_Call_Name_kw (ld_blt I hg hm hv ?_ hn hdb)
  exact PyProof.Rows.callWith_builtin1 (thn (ha pos pins s σ H _ I h) fun us s1 ⟨vs, H1, I1, r1, q1⟩ => hc pins s1 σ H1 vs us Q I1 r1 q1) he hpl
/-- T(e, ..), T a built-in type -/
theorem pe_callTy (hc : CallR X (.type T) r) (hg : Gl X x) (hm : X.mg x = none) (hv : bootBuiltins x = some (.type T)) (ha : PA X (e :: es) t) (hn : x ≠ "__name__" := by decide) (hdb : (x == ("__debug__" : Str)) = false := by decide)
    (he : starEach (e :: es) X.env = (false, eval e X.env) :: starEach es X.env := by rfl) (hpl : (backTo pos (starEach es X.env)).any (·.1) = false := by rfl) : PE X (.Call (.Name x p) (e :: es) [] pos) (tCB r t) := by
  intro pins s σ H Q I h
  refine wpAny_Call_Name_kw (ld_blt I hg hm hv ?_ hn hdb)
  exact PyProof.Rows.callWith_type1 (thn (ha pos pins s σ H _ I h) fun us s1 ⟨vs, H1, I1, r1, q1⟩ => hc pins s1 σ H1 vs us Q I1 r1 q1) he hpl
end
end L2

namespace HT
open PySem PyProof.Rows

section
open PySem.SeqAt
open PySem.AutoSeq1 (wpAny_loadPart')
open PySem.MeetsSeq PySem.MeetsSeq2 PySem.MeetsSeq3

end

section
variable {prog : Program} {w : World} {A : Around} {E : Value → Shared → Prop} {s : Shared}

/-- t + u, t not empty -/
theorem cat_tup {t b : Addr} {vs ws : List Value} {Q : Value → Shared → Prop} (ht : IsTup s.heap t vs.toArray) (hb : IsTup s.heap b ws.toArray) (hv : vs ≠ [])
    (h1 : ws = [] → Q (.ref t) s) (h2 : ws ≠ [] → Q (.ref s.heap.objs.size) { s with heap := s.heap.push { cls := .type "tuple", data := .seq (vs ++ ws).toArray } })
    (hsz : vs.length + ws.length ≤ sizeLine) : wpAny (model prog w) A (binaryOp .Add (.ref t) (.ref b)) Q E s := by
  obtain ⟨⟨cls, dd, data, sl⟩, ho, hc, n, hd⟩ := id ht
  obtain ⟨⟨cls2, dd2, data2, sl2⟩, ho2, hc2, n2, hd2⟩ := id hb
  simp only at hc hd hc2 hd2
  subst hc hd hc2 hd2
  have e : vs.toArray ++ ws.toArray = (vs ++ ws).toArray := by simp
  by_cases hw : ws = []
  · exact concat_meets ⟨_, ho, rfl⟩ ⟨_, ho2, rfl⟩ noFill_tuple_add seq_tuple_add PySem.F.slot_tuple_add PySem.F.entry_tuple_add (PySem.F.args_tuple_add_2 _ _)
      (tuple_addW1 t b vs.toArray ws.toArray n n2 dd dd2 sl sl2 (by simpa using hv) (by simp [hw])) ⟨ho, ho2, h1 hw⟩
  · refine concat_meets ⟨_, ho, rfl⟩ ⟨_, ho2, rfl⟩ noFill_tuple_add seq_tuple_add PySem.F.slot_tuple_add PySem.F.entry_tuple_add (PySem.F.args_tuple_add_2 _ _)
      (tuple_addW2 t b vs.toArray ws.toArray n n2 dd dd2 sl sl2 (by simpa using hv) (by simpa using hw) (by rw [List.size_toArray, List.size_toArray]; exact hsz)) ⟨ho, ho2, ?_⟩
    rw [e]
    exact h2 hw

/-! ### t[a:b], not the whole -/
/-- a slice's bound as a place among n (d where it is left out) -/
def sIx (n d : Nat) : Option Int → Nat
  | none => d
  | some v => if v < 0 then (v + (n : Int)).toNat else min v.toNat n
theorem sIx_nat (n d k : Nat) : sIx n d (some (k : Int)) = min k n := by
  show (if (k : Int) < 0 then ((k : Int) + (n : Int)).toNat else min (k : Int).toNat n) = min k n
  rw [if_neg (by lia), Int.toNat_natCast]
theorem sIx_le (n d : Nat) (hd : d ≤ n) (o : Option Int) : sIx n d o ≤ n := by
  cases o with
  | none => exact hd
  | some v =>
    show (if v < 0 then (v + (n : Int)).toNat else min v.toNat n) ≤ n
    by_cases hv : v < 0
    · rw [if_pos hv]; lia
    · rw [if_neg hv]; exact Nat.min_le_right _ _
theorem clip_eq (v : Int) (n d : Nat) : (if v < 0 then max (v + (n : Int)) 0 else min v (n : Int)) = ((sIx n d (some v) : Nat) : Int) := by
  show (if v < 0 then max (v + (n : Int)) 0 else min v (n : Int)) = (((if v < 0 then (v + (n : Int)).toNat else min v.toNat n) : Nat) : Int)
  by_cases hv : v < 0
  · rw [if_pos hv, if_pos hv, Int.toNat_eq_max]
  · rw [if_neg hv, if_neg hv]
    obtain ⟨k, rfl⟩ := Int.eq_ofNat_of_zero_le (Int.not_lt.mp hv)
    rw [Int.toNat_natCast]
    rcases Nat.le_total k n with h | h
    · rw [Nat.min_eq_left h, Int.min_eq_left (Int.ofNat_le.mpr h)]
    · rw [Nat.min_eq_right h, Int.min_eq_right (Int.ofNat_le.mpr h)]
theorem adjust_gen (lo hi : Option Int) (n : Nat) : Builtin.Slice.sliceAdjust lo hi 1 (n : Int) = (((sIx n 0 lo : Nat) : Int), ((sIx n n hi : Nat) : Int)) := by
  have h1 : ¬ ((1 : Int) < 0) := by lia
  unfold Builtin.Slice.sliceAdjust
  simp only [h1, if_false]
  refine Prod.ext ?_ ?_
  · cases lo with
    | none => rfl
    | some v => exact clip_eq v n 0
  · cases hi with
    | none => rfl
    | some v => exact clip_eq v n n
theorem places_gen (i j : Nat) : Builtin.Slice.slicePlaces (i : Int) (j : Int) 1 = j - i := by
  unfold Builtin.Slice.slicePlaces
  have h1 : (1 : Int) > 0 := by lia
  simp only [h1, if_true, Int.ediv_one]
  split <;> lia
theorem slicePart_ {v : Value} {o : Option Int} {Q : Option Int → Shared → Prop} (p : IsPart v o) (h : Q o s) : wpAny (model prog w) A (Builtin.Slice.slicePartIndex v) Q E s := by
  cases p with
  | none => exact slicePart_none h
  | int i t => exact slicePart_int h
theorem sliceApplied_gen {sl : Addr} {vl vu : Value} {lo hi : Option Int} {n : Nat} {Q : Int × Int × Nat → Shared → Prop} (hs : s.heap.IsSliceOf sl vl vu .none) (pl : IsPart vl lo) (pu : IsPart vu hi)
    (h : Q (((sIx n 0 lo : Nat) : Int), 1, sIx n n hi - sIx n 0 lo) s) : wpAny (model prog w) A (Builtin.Slice.sliceApplied (.ref sl) (pure (n : Int))) Q E s := by
  obtain ⟨os, hos, hcs, hds⟩ := id hs
  unfold Builtin.Slice.sliceApplied Builtin.Slice.sliceFields
  refine wpAny_bind (wpAny_bind (wpAny_field hos hds (x := vl) rfl (wpAny_bind (wpAny_field hos hds (x := vu) rfl (wpAny_bind (wpAny_field hos hds (x := .none) rfl (wpAny_pure ?_)))))))
  refine wpAny_bind (slicePart_none ?_)
  show wpAny _ _ (if ((1 : Int) == 0) = true then _ else _) _ _ s
  rw [if_neg (by decide)]
  refine wpAny_bind (slicePart_ pl (wpAny_bind (slicePart_ pu (wpAny_bind (wpAny_pure ?_)))))
  show wpAny _ _ (match Builtin.Slice.sliceAdjust lo hi 1 (n : Int) with | (lo, hi) => pure (lo, (1 : Int), Builtin.Slice.slicePlaces lo hi 1)) _ _ s
  rw [adjust_gen lo hi n]
  show wpAny _ _ (pure (((sIx n 0 lo : Nat) : Int), (1 : Int), Builtin.Slice.slicePlaces ((sIx n 0 lo : Nat) : Int) ((sIx n n hi : Nat) : Int) 1)) _ _ s
  rw [places_gen]
  exact wpAny_pure h
theorem pick_gen (xs : Array Value) (i k : Nat) : ((List.range k).filterMap fun (m : Nat) => xs[((i : Int) + (m : Int) * 1).toNat]?).toArray = ((xs.toList.drop i).take k).toArray := by
  have e : (fun (m : Nat) => xs[((i : Int) + (m : Int) * 1).toNat]?) = fun m => xs[i + m]? := by
    funext m
    have : ((i : Int) + (m : Int) * 1).toNat = i + m := by lia
    rw [this]
  rw [e]
  have := pick_run xs i k
  rw [List.filterMap_map] at this
  have e2 : ((fun x => xs[x]?) ∘ fun x => i + x) = fun m => xs[i + m]? := rfl
  rw [e2] at this
  rw [this]

theorem getItem_tuple_cut {t sl : Addr} {items : Array Value} {vl vu : Value} {lo hi : Option Int} {Q : Value → Shared → Prop} (ht : IsTup s.heap t items) (hs : s.heap.IsSliceOf sl vl vu .none) (pl : IsPart vl lo) (pu : IsPart vu hi)
    (hw : ¬ (sIx items.size 0 lo = 0 ∧ sIx items.size items.size hi = items.size))
    (h : Q (.ref s.heap.objs.size) { s with heap := s.heap.push { cls := .type "tuple", data := .seq ((items.toList.drop (sIx items.size 0 lo)).take (sIx items.size items.size hi - sIx items.size 0 lo)).toArray } })
    (hsz : items.size ≤ sizeLine) : wpAny (model prog w) A (getItem (.ref t) (.ref sl)) Q E s := by
  have htake : sizeOk (.seq ((items.toList.drop (sIx items.size 0 lo)).take (sIx items.size items.size hi - sIx items.size 0 lo)).toArray) := by
    show ((items.toList.drop (sIx items.size 0 lo)).take (sIx items.size items.size hi - sIx items.size 0 lo)).toArray.size ≤ sizeLine
    rw [List.size_toArray, List.length_take, List.length_drop, Array.length_toList]
    exact Nat.le_trans (Nat.le_trans (Nat.min_le_right _ _) (Nat.sub_le _ _)) hsz
  have hj : sIx items.size items.size hi ≤ items.size := sIx_le _ _ (Nat.le_refl _) hi
  obtain ⟨os, hos, hcs, hds⟩ := id hs
  have hTs : s.TypeIs (.ref sl) "slice" := ⟨os, hos, hcs⟩
  unfold getItem
  try with_reducible refine wpAny_holding ?_
  first | refine wpAny_bind (wpAny_pure ?_) | skip
  refine wpAny_bind (wpAny_sequenceKey ht.typeIs (by decide) ?_)
  refine wpAny_bind (wpAny_callSpecial?_slot (name := Str.ofString "__getitem__") ht.typeIs PyProof.Rows.slot_tuple_getitem
    (wpAny_call_entry PyProof.Rows.slot_tuple_getitem ht.typeIs entry_tuple_getitem ?_ (args_tuple_getitem _ _)))
  show wpAny _ _ (Builtin.Tuple.tupleItemsOf (.ref t) >>= _) _ _ s
  refine wpAny_bind (tupleItemsOf_ ht ?_)
  refine wpAny_bind (wpAny_typeOf hTs ?_)
  rw [if_pos (by decide)]
  refine wpAny_bind (sliceApplied_gen hs pl pu ?_)
  have hno : ¬ ((((sIx items.size 0 lo : Nat) : Int) == 0 && (1 : Int) == 1 && (sIx items.size items.size hi - sIx items.size 0 lo) == items.size) = true) := by
    intro q
    rw [Bool.and_eq_true, Bool.and_eq_true] at q
    have q1 : ((sIx items.size 0 lo : Nat) : Int) = 0 := eq_of_beq q.1.1
    have q2 : sIx items.size items.size hi - sIx items.size 0 lo = items.size := eq_of_beq q.2
    exact hw ⟨by lia, by lia⟩
  show wpAny _ _ (if (((sIx items.size 0 lo : Nat) : Int) == 0 && (1 : Int) == 1 && (sIx items.size items.size hi - sIx items.size 0 lo) == items.size) = true then _ else _) _ _ s
  rw [if_neg hno, pick_gen]
  first
    | exact wpAny_bind (m := Builtin.Tuple.tupleExact _) (wpAny_newObj_type (wpAny_pure ⟨_, rfl, wpAny_pure h⟩) htake)
    | exact wpAny_bind (m := Builtin.Tuple.tupleExact _) (wpAny_newObj_type (wpAny_bind (wpAny_pure (wpAny_pure ⟨_, rfl, wpAny_pure h⟩))) htake)
    | exact wpAny_bind (wpAny_bind (m := Builtin.Tuple.tupleExact _) (wpAny_newObj_type (wpAny_pure (wpAny_pure ⟨_, rfl, wpAny_pure h⟩)) htake))
    | exact wpAny_bind (wpAny_bind (m := Builtin.Tuple.tupleExact _) (wpAny_newObj_type (wpAny_pure ⟨_, rfl, wpAny_pure h⟩) htake))
end
end HT

namespace L2
open PySem PySem.Spec PyProof.Rows

/-! ### the parts of a slice -/
abbrev TO := St → Hp → (Option Int → Hp → Prop) → Prop
/-- a slice's part (left out, or an int) -/
def PO (X : Cx) (e : Option Expr) (t : TO) : Prop :=
  ∀ (pins : List (Addr × Obj)) (s : Shared) (σ : St) (H : Hp) (Q : Option Int → Hp → Prop), Inv X pins σ H s → t σ H Q →
    wpAny (model X.prog X.w) X.A (evalPart e X.env) (fun u s' => ∃ o H', Inv X pins σ H' s' ∧ IsPart u o ∧ Q o H') X.xe s
def tNoPart : TO := fun _ H Q => Q none H
def tPart (t : TE) : TO := fun σ H Q => t σ H fun x H1 => ∃ i, x = .int i ∧ Q (some i) H1

section
variable {X : Cx} {e : Expr} {te : TE} {lo hi : Option Expr} {tl th : TO} {pos p2 : Pos}

theorem po_none : PO X none tNoPart := by
  intro pins s σ H Q I h
  rw [evalPart_none]
  exact wpAny_pure ⟨none, H, I, .none, h⟩
theorem po_some (h : PE X e te) : PO X (some e) (tPart te) := by
  intro pins s σ H Q I hw
  rw [evalPart_some]
  refine thn (h pins s σ H _ I hw) fun u s1 ⟨x, H1, I1, r1, q1⟩ => ?_
  obtain ⟨i, rfl, q⟩ := q1
  obtain ⟨t, rfl⟩ := r1
  exact ⟨some i, H1, I1, .int i t, q⟩

/-- what a slice of a value is, by values: the slice object stands at sl -/
def SlR (X : Cx) (r : V → Option Int → Option Int → Hp → VK → Prop) : Prop :=
  ∀ (pins : List (Addr × Obj)) (s : Shared) (σ : St) (H : Hp) (x : V) (v vl vu : Value) (lo hi : Option Int) (sl : Addr) (Q : VK), Inv X pins σ H s → RelV x v → s.heap.IsSliceOf sl vl vu .none → IsPart vl lo → IsPart vu hi → r x lo hi H Q →
    ∃ T id, typeLookup (.type T) "__getitem__" = pure (some (.builtin id)) ∧ s.TypeIs v T ∧ wpAny (model X.prog X.w) X.A (getItem v (.ref sl)) (EP X pins σ Q) X.xe s
theorem SlR.or {r r' : V → Option Int → Option Int → Hp → VK → Prop} (h : SlR X r) (h' : SlR X r') : SlR X (fun x lo hi H Q => r x lo hi H Q ∨ r' x lo hi H Q) := by
  intro pins s σ H x v vl vu lo hi sl Q I rx hs pl pu q
  rcases q with q | q
  · exact h pins s σ H x v vl vu lo hi sl Q I rx hs pl pu q
  · exact h' pins s σ H x v vl vu lo hi sl Q I rx hs pl pu q
def tSl (r : V → Option Int → Option Int → Hp → VK → Prop) (te : TE) (tl th : TO) : TE := fun σ H Q => te σ H fun x H1 => tl σ H1 fun l H2 => th σ H2 fun u H3 => r x l u H3 Q
/-- a[lo:hi], any a -/
theorem pe_slice {r : V → Option Int → Option Int → Hp → VK → Prop} (hr : SlR X r) (he : PE X e te) (hl : PO X lo tl) (hu : PO X hi th) : PE X (.Subscript e (.Slice lo hi none p2) pos) (tSl r te tl th) := by
  intro pins s σ H Q I h
  refine Subscript_ (thn (he pins s σ H _ I h) fun v s1 ⟨x, H1, I1, r1, q1⟩ => ?_)
  refine wpAny_Slice (thn (hl pins s1 σ H1 _ I1 q1) fun vl s2 ⟨l, H2, I2, pl, q2⟩ => thn (hu pins s2 σ H2 _ I2 q2) fun vu s3 ⟨u, H3, I3, pu, q3⟩ => ?_)
  rw [evalPart_none]
  refine wpAny_pure ?_
  have I4 : Inv X pins σ H3 { s3 with heap := s3.heap.push { cls := .type "slice", data := .fields #[vl, vu, .none] } } := I3.kept (t' := s3.toks) fun b ob q => Heap.get?_push_of_some _ q
  obtain ⟨T, id, hT, ht, hg⟩ := hr pins { s3 with heap := s3.heap.push { cls := .type "slice", data := .fields #[vl, vu, .none] } } σ H3 x v vl vu l u s3.heap.objs.size Q I4 r1 (Heap.IsSliceOf.new ..) pl pu q3
  show wpAny (model X.prog X.w) X.A (subscriptTail e (.Slice lo hi none p2) v (.ref s3.heap.objs.size)) (EP X pins σ Q) X.xe { s3 with heap := s3.heap.push { cls := .type "slice", data := .fields #[vl, vu, .none] } }
  exact tail_any (ops := [.ref s3.heap.objs.size, v]) ht hT hg (by with_unfolding_all rfl)

/-- the items of xs[lo:hi] -/
def cutV (xs : List V) (lo hi : Option Int) : List V := (xs.drop (HT.sIx xs.length 0 lo)).take (HT.sIx xs.length xs.length hi - HT.sIx xs.length 0 lo)
theorem cutV_length (xs : List V) (lo hi : Option Int) : (cutV xs lo hi).length ≤ xs.length := by
  unfold cutV
  rw [List.length_take, List.length_drop]
  exact Nat.le_trans (Nat.min_le_right _ _) (Nat.sub_le _ _)
/-- t[lo:hi], not the whole of it (the whole would be t itself) -/
inductive rSlT (K : PySem.W.Frag) (x : V) (lo : Option Int) (hi : Option Int) (H : Hp) (Q : VK) : Prop
  | mk (a : _) (xs : _) (h1 : x = .ref a) (h2 : SqT K H a xs) (h3 : ¬ (HT.sIx xs.length 0 lo = 0 ∧ HT.sIx xs.length xs.length hi = xs.length)) (h4 : ∀ p, H p = none → Q (.ref p) (upd H p (.tup (cutV xs lo hi)))) : rSlT K x lo hi H Q
theorem sl_tup : SlR X (rSlT X.K) := by
  intro pins s σ H x v vl vu lo hi sl Q I rx hs pl pu h
  obtain ⟨a, xs, rfl, hx, hw, q⟩ := h
  cases rx
  obtain ⟨its, r, ht, hz⟩ := I.tuple hx
  have hlen : its.toArray.size = xs.length := by rw [List.size_toArray]; exact r.length.symm
  refine ⟨"tuple", _, PyProof.Rows.slot_tuple_getitem.lookup, ht.typeIs, ?_⟩
  refine HT.getItem_tuple_cut ht hs pl pu (by rw [hlen]; exact hw) ?_ (by rw [hlen]; exact hz)
  rw [hlen]
  refine ⟨.ref s.heap.objs.size, _, I.laid (t' := s.toks) (o := .tup (cutV xs lo hi)) (fun b ob q => Heap.get?_push_of_some _ q) (Nat.le_refl _) ?_, rfl, q _ (I.hok.fresh (Nat.le_refl _))⟩
  exact ⟨Nat.le_trans (cutV_length xs lo hi) hz, _, (r.drop (HT.sIx xs.length 0 lo)).take (HT.sIx xs.length xs.length hi - HT.sIx xs.length 0 lo), IsTup.new _ _⟩

/-! ### t < u, t + u -/
/-- t + u, t not empty: u empty gives t itself -/
inductive rCatT (K : PySem.W.Frag) (x : V) (y : V) (H : Hp) (Q : VK) : Prop
  | mk (a : _) (b : _) (xs : _) (ys : _) (h1 : x = .ref a) (h2 : y = .ref b) (h3 : SqT K H a xs) (h4 : SqT K H b ys) (h5 : xs ≠ []) (h6 : xs.length + ys.length ≤ sizeLine) (h7 : (ys = [] → Q (.ref a) H)) (h8 : (ys ≠ [] → ∀ p, H p = none → Q (.ref p) (upd H p (.tup (xs ++ ys))))) : rCatT K x y H Q
theorem Vals.nil_iff {xs : List V} {us : List Value} (r : Vals xs us) : us = [] ↔ xs = [] := by
  cases r with
  | nil => simp
  | cons _ _ => simp
theorem op_catT : OpR X (binaryOp .Add) (rCatT X.K) := by
  intro pins s σ H x y v u Q I rx ry h
  obtain ⟨a, b, xs, ys, rfl, rfl, ha, hb, hx, hz, q1, q2⟩ := h
  cases rx
  cases ry
  obtain ⟨its, r1, p1, _⟩ := I.tuple ha
  obtain ⟨its2, r2, p2, _⟩ := I.tuple hb
  refine HT.cat_tup p1 p2 (fun z => hx (r1.nil_iff.mp z)) (fun z => ⟨.ref a, H, I, rfl, q1 (r2.nil_iff.mp z)⟩) (fun z => ?_) (by rw [← r1.length, ← r2.length]; exact hz)
  refine ⟨.ref s.heap.objs.size, _, I.laid (t' := s.toks) (o := .tup (xs ++ ys)) (fun b ob q => Heap.get?_push_of_some _ q) (Nat.le_refl _) ?_, rfl, q2 (fun w => z (r2.nil_iff.mpr w)) _ (I.hok.fresh (Nat.le_refl _))⟩
  exact ⟨by rw [List.length_append]; exact hz, _, r1.append r2, IsTup.new _ _⟩
end
end L2

namespace L2
open PySem PySem.Spec PyProof.Rows

/-! ### places -/
/-- the place that an index of any sign means -/
def ixN (n : Nat) (i : Int) : Option Nat := if 0 ≤ i then (if i < n then some i.toNat else none) else if -(n : Int) ≤ i then some (i + n).toNat else none
def atI {α : Type} (xs : List α) (i : Int) : Option α := (ixN xs.length i).bind fun j => xs[j]?
theorem ixN_seq {n : Nat} {i : Int} {j : Nat} (h : ixN n i = some j) : seqIndex? i n = some j ∧ j < n ∧ -(n : Int) ≤ i ∧ i < n := by
  unfold ixN at h
  by_cases h0 : 0 ≤ i
  · rw [if_pos h0] at h
    by_cases h1 : i < n
    · rw [if_pos h1] at h
      have e : i.toNat = j := Option.some.inj h
      exact ⟨by rw [seqIndex_of h0 h1, e], by lia, by lia, h1⟩
    · rw [if_neg h1] at h; cases h
  · rw [if_neg h0] at h
    by_cases h1 : -(n : Int) ≤ i
    · rw [if_pos h1] at h
      have e : (i + n).toNat = j := Option.some.inj h
      exact ⟨by rw [seqIndex_neg (by lia) h1, e], by lia, h1, by lia⟩
    · rw [if_neg h1] at h; cases h
theorem atI_get {α : Type} {xs : List α} {i : Int} {v : α} (h : atI xs i = some v) : ∃ j, seqIndex? i xs.length = some j ∧ xs[j]? = some v ∧ j < xs.length ∧ -(xs.length : Int) ≤ i ∧ i < xs.length := by
  unfold atI at h
  cases e : ixN xs.length i with
  | none => rw [e] at h; cases h
  | some j =>
    rw [e] at h
    obtain ⟨h1, h2, h3, h4⟩ := ixN_seq e
    exact ⟨j, h1, h, h2, h3, h4⟩
theorem atI_nat {α : Type} {xs : List α} {j : Nat} {v : α} (h : xs[j]? = some v) : atI xs (j : Int) = some v := by
  have hj : j < xs.length := (List.getElem?_eq_some_iff.mp h).1
  have e : ixN xs.length (j : Int) = some j := by
    unfold ixN
    rw [if_pos (by lia), if_pos (by lia)]; simp
  unfold atI; rw [e]; exact h
/-! ### what may be subscripted -/
/-- what stands as an index of a plain subscript -/
def PlainIx (b : Expr) : Prop := ∀ o i, subscripted b false o i = operate [o, i] (getItem o i)
/-- a subscript by values -/
def IxR (X : Cx) (r : R2) : Prop :=
  ∀ (value slice : Expr) (pins : List (Addr × Obj)) (s : Shared) (σ : St) (H : Hp) (x y : V) (v u : Value) (Q : VK), Inv X pins σ H s → RelV x v → RelV y u → r x y H Q →
    subscripted slice false v u = operate [v, u] (getItem v u) → wpAny (model X.prog X.w) X.A (subscriptTail value slice v u) (EP X pins σ Q) X.xe s
/-- a call of a builtin's method by values: the receiver, the arguments -/
def MtR (X : Cx) (id : String) (r : V → List V → Hp → VK → Prop) : Prop :=
  ∀ (pins : List (Addr × Obj)) (s : Shared) (σ : St) (H : Hp) (x : V) (xs : List V) (v : Value) (us : List Value) (Q : VK), Inv X pins σ H s → RelV x v → Vals xs us → r x xs H Q →
    wpAny (model X.prog X.w) X.A (call (.builtin id) (v :: us)) (EP X pins σ Q) X.xe s
section
variable {X : Cx} {a b : Expr} {ta tb : TE} {pos : Pos}
/-- a[b] -/
theorem pe_ix {r : R2} (hr : IxR X r) (ha : PE X a ta) (hb : PE X b tb) (hs : PlainIx b) : PE X (.Subscript a b pos) (tOp r ta tb) := by
  intro pins s σ H Q I h
  exact Subscript_ (binT ha hb I h fun v u s2 x y H2 I2 rx ry q => hr a b pins s2 σ H2 x y v u Q I2 rx ry q (hs _ _))

inductive rIxL (K : PySem.W.Frag) (x : V) (y : V) (H : Hp) (Q : VK) : Prop
  | mk (p : _) (xs : _) (i : _) (v : _) (h1 : x = .ref p) (h2 : y = .int i) (h3 : SqL K H p xs) (h4 : atI xs i = some v) (h5 : Q v H) : rIxL K x y H Q
inductive rIxT (K : PySem.W.Frag) (x : V) (y : V) (H : Hp) (Q : VK) : Prop
  | mk (p : _) (xs : _) (i : _) (v : _) (h1 : x = .ref p) (h2 : y = .int i) (h3 : SqT K H p xs) (h4 : atI xs i = some v) (h5 : Q v H) : rIxT K x y H Q
theorem ix_list : IxR X (rIxL X.K) := by
  intro value slice pins s σ H x y v u Q I rx ry h hs
  obtain ⟨p, xs, i, z, rfl, rfl, hq, he, q⟩ := h
  cases rx
  obtain ⟨t, rfl⟩ := ry
  obtain ⟨its, r, pl, hz⟩ := I.list hq
  obtain ⟨j, h1, h2, h3, h4, h5⟩ := atI_get he
  obtain ⟨w, ew, rw'⟩ := r.get h2
  have hl := r.length
  have hn := line63
  have fin : EP X pins σ Q w s := ⟨z, H, I, rw', q⟩
  by_cases h0 : 0 ≤ i
  · have hj : i.toNat = j := by
      rw [seqIndex_of h0 h5] at h1
      exact Option.some.inj h1
    exact item_listR pl.isList h0 (by lia) (by rw [hj]; simpa using ew) fin hs
  · have hj : (i + (its.toArray.size : Int)).toNat = j := by
      rw [seqIndex_neg (by lia) h4] at h1
      rw [List.size_toArray, ← hl]
      exact Option.some.inj h1
    exact subscriptTail_builtinR (x := w) pl.isList.typeIs slot_list_getitem.lookup
      (wpAny_getItem_list_neg (Q := fun r s' => r = w ∧ EP X pins σ Q r s') pl.isList (by lia) (by rw [List.size_toArray] <;> lia) (by lia) (by rw [hj]; simpa using ew) ⟨rfl, fin⟩) hs
theorem ix_tup : IxR X (rIxT X.K) := by
  intro value slice pins s σ H x y v u Q I rx ry h hs
  obtain ⟨p, xs, i, z, rfl, rfl, hq, he, q⟩ := h
  cases rx
  obtain ⟨t, rfl⟩ := ry
  obtain ⟨its, r, pl, hz⟩ := I.tuple hq
  obtain ⟨j, h1, h2, h3, h4, h5⟩ := atI_get he
  obtain ⟨w, ew, rw'⟩ := r.get h2
  have hl := r.length
  have hn := line63
  have fin : EP X pins σ Q w s := ⟨z, H, I, rw', q⟩
  exact subscriptTail_builtinR (x := w) pl.typeIs slot_tuple_getitem.lookup
    (getItem_tuple (j := j) (Q := fun r s' => r = w ∧ EP X pins σ Q r s') pl (by lia) (by lia) (by rw [List.size_toArray, ← hl]; exact h1) (by simpa using ew) ⟨rfl, fin⟩) hs
/-! ### xs[i] = v, any sign -/
/-- the list's object behind a store -/
theorem mapSeq_set (its : List Value) (n j : Nat) (u : Value) : Obj.mapSeq (·.setIfInBounds j u) { cls := .type "list", data := .seq its.toArray n } = { cls := .type "list", data := .seq (its.set j u).toArray n } := by
  simp [Obj.mapSeq]
theorem Inv.lst {pins : List (Addr × Obj)} {σ : St} {H : Hp} {s : Shared} {p : Addr} {xs : List V} (I : Inv X pins σ H s) (h : H p = some (.lst xs)) :
    ∃ (its : List Value) (n : Nat), Vals xs its ∧ s.heap.get? p = some { cls := .type "list", data := .seq its.toArray n } ∧ xs.length ≤ sizeLine := by
  obtain ⟨z, its, n, r, e⟩ := I.hok p _ h
  exact ⟨its, n, r, e, z⟩
/-- the list at p is written by an update of its object -/
theorem Inv.lstUpd {pins : List (Addr × Obj)} {σ : St} {H : Hp} {s : Shared} {p : Addr} {xs ys : List V} {its its' : List Value} {n n' : Nat} {f : Obj → Obj} (I : Inv X pins σ H s) (h : H p = some (.lst xs))
    (ho : s.heap.get? p = some { cls := .type "list", data := .seq its.toArray n }) (hf : f { cls := .type "list", data := .seq its.toArray n } = { cls := .type "list", data := .seq its'.toArray n' }) (r : Vals ys its') (hz : ys.length ≤ sizeLine) (t : Nat) :
    Inv X pins σ (upd H p (.lst ys)) { s with heap := s.heap.update p f, toks := t } := by
  have e : (s.heap.update p f).get? p = some { cls := .type "list", data := .seq its'.toArray n' } := by
    rw [Heap.get?_update_self f ho (by rw [hf] <;> rfl), hf]
  refine I.write (x := p) (e := p) (by rw [h]; trivial) (.inl rfl) (fun b u hb q => (Heap.get?_update_other _ _ (Ne.symm hb)).trans q) ⟨_, e⟩ ?_
  exact ⟨hz, its', n', r, e⟩
inductive rSetL (o : V) (i : V) (v : V) (H : Hp) (Q : (Hp → Prop)) : Prop
  | mk (p : _) (xs : _) (k : _) (j : _) (h1 : o = .ref p) (h2 : i = .int k) (h3 : H p = some (.lst xs)) (h4 : ixN xs.length k = some j) (h5 : Q (upd H p (.lst (xs.set j v)))) : rSetL o i v H Q
theorem set_list : PSet X rSetL := by
  intro pins s σ H o i v ov iv u Q I ro ri rv h
  obtain ⟨p, xs, k, j, rfl, rfl, hp, hj, q⟩ := h
  cases ro
  obtain ⟨t, rfl⟩ := ri
  obtain ⟨its, n, r, ho, hz⟩ := I.lst hp
  obtain ⟨h1, h2, h3, h4⟩ := ixN_seq hj
  have hl := r.length
  have hn := line63
  have I' : Inv X pins σ (upd H p (.lst (xs.set j v))) { s with heap := s.heap.update p (Obj.mapSeq (·.setIfInBounds j u)) } :=
    I.lstUpd hp ho (mapSeq_set its n j u) (r.set rv j) (by rw [List.length_set]; exact hz) s.toks
  by_cases h0 : 0 ≤ k
  · have hk : k.toNat = j := by
      rw [seqIndex_of h0 h4] at h1
      exact Option.some.inj h1
    exact PySem.W.ki_setAt ho h0 (by lia) (by rw [List.size_toArray, ← hl]; exact h4) (by rw [hk]; exact ⟨_, I', q⟩)
  · have hk : (k + (its.toArray.size : Int)).toNat = j := by
      rw [seqIndex_neg (by lia) h3] at h1
      rw [List.size_toArray, ← hl]
      exact Option.some.inj h1
    exact PySem.W.ki_setBack ho (by lia) (by rw [List.size_toArray, ← hl]; exact h3) (by lia) (by rw [hk]; exact ⟨_, I', q⟩)

/-! ### slices -/
theorem slice_bounds (lo hi : Option Int) (n : Nat) : (sliceBounds lo hi none n).1 = ((HT.sIx n 0 lo : Nat) : Int) ∧ (sliceBounds lo hi none n).2.1 = ((HT.sIx n n hi : Nat) : Int) ∧ (sliceBounds lo hi none n).2.2 = 1 := by
  have key : ∀ (i : Int) (d : Nat), max 0 (min (if i < 0 then i + (n : Int) else i) (n : Int)) = ((HT.sIx n d (some i) : Nat) : Int) := by
    intro i d
    rw [← HT.clip_eq]
    by_cases h : i < 0
    · rw [if_pos h, if_pos h, Int.min_eq_left (by lia), Int.max_comm]
    · rw [if_neg h, if_neg h, Int.max_eq_right (Int.le_min.mpr ⟨by lia, by lia⟩)]
  refine ⟨?_, ?_, rfl⟩
  · cases lo with
    | none => simp [sliceBounds, HT.sIx]
    | some i => exact key i 0
  · cases hi with
    | none => simp [sliceBounds, HT.sIx]
    | some i => exact key i n
theorem slicePick_cut (its : List Value) (lo hi : Option Int) : slicePick its.toArray lo hi none = ((its.drop (HT.sIx its.length 0 lo)).take (HT.sIx its.length its.length hi - HT.sIx its.length 0 lo)).toArray := by
  obtain ⟨h1, h2, h3⟩ := slice_bounds lo hi its.toArray.size
  unfold slicePick
  rw [h1, h2, h3]
  simp only [sliceRange_one, pick_run, List.size_toArray] <;> rfl
/-- xs[lo:hi] of a list: a new list -/
inductive rSlL (K : PySem.W.Frag) (x : V) (lo : Option Int) (hi : Option Int) (H : Hp) (Q : VK) : Prop
  | mk (a : _) (xs : _) (h1 : x = .ref a) (h2 : SqL K H a xs) (h3 : ∀ p, H p = none → Q (.ref p) (upd H p (.lst (cutV xs lo hi)))) : rSlL K x lo hi H Q
theorem sl_list : SlR X (rSlL X.K) := by
  intro pins s σ H x v vl vu lo hi sl Q I rx hs pl pu h
  obtain ⟨a, xs, rfl, hx, q⟩ := h
  cases rx
  obtain ⟨its, r, ht, hz⟩ := I.list hx
  have hlen := r.length
  refine ⟨"list", _, slot_list_getitem.lookup, ht.isList.typeIs, ?_⟩
  refine wpAny_getItem_list_slice ht.isList hs pl pu .none (by simp) ?_ (by rw [List.size_toArray] <;> lia)
  rw [slicePick_cut, ← hlen]
  refine ⟨.ref s.heap.objs.size, _, I.laid (t' := s.toks) (o := .lst (cutV xs lo hi)) (fun b ob q => Heap.get?_push_of_some _ q) (Nat.le_refl _) ?_, rfl, q _ (I.hok.fresh (Nat.le_refl _))⟩
  exact ⟨Nat.le_trans (cutV_length xs lo hi) hz, _, 0, (r.drop (HT.sIx xs.length 0 lo)).take (HT.sIx xs.length xs.length hi - HT.sIx xs.length 0 lo), Heap.get?_push_size _ rfl⟩

/-! ### in, not in: flat items -/
def flatV : V → Bool
  | .non => true
  | .bl _ => true
  | .int _ => true
  | .str _ => true
  | _ => false
/-- == of flat values -/
def eqV : V → V → Bool
  | .non, .non => true
  | .bl a, .bl b => a == b
  | .bl a, .int b => (if a then 1 else 0) == b
  | .int a, .bl b => a == (if b then 1 else 0)
  | .int a, .int b => a == b
  | .str a, .str b => a == b
  | _, _ => false
theorem eqAt_V {A : Around} {s : Shared} {y x : V} {u v : Value} (ry : RelV y u) (rx : RelV x v) (fy : flatV y = true) (fx : flatV x = true) : SeqAt.EqAt A s u v (eqV y x) := by
  cases y with
  | non =>
    cases ry
    cases x with
    | non => cases rx; exact SeqAt.EqAt.same _
    | bl b => cases rx; exact SeqAt.EqAt.none_bool b
    | int b => obtain ⟨t, rfl⟩ := rx; exact SeqAt.EqAt.none_int b t
    | str b => obtain ⟨t, rfl⟩ := rx; exact SeqAt.EqAt.none_str b t
    | _ => exact absurd (show false = true from fx) Bool.false_ne_true
  | bl a =>
    cases ry
    cases x with
    | non => cases rx; exact SeqAt.EqAt.bool_none a
    | bl b => cases rx; exact SeqAt.EqAt.bool_bool a b
    | int b => obtain ⟨t, rfl⟩ := rx; exact SeqAt.EqAt.bool_int a b t
    | str b => obtain ⟨t, rfl⟩ := rx; exact SeqAt.EqAt.bool_str a b t
    | _ => exact absurd (show false = true from fx) Bool.false_ne_true
  | int a =>
    obtain ⟨t', rfl⟩ := ry
    cases x with
    | non => cases rx; exact SeqAt.EqAt.int_none a t'
    | bl b => cases rx; exact SeqAt.EqAt.int_bool a t' b
    | int b => obtain ⟨t, rfl⟩ := rx; exact SeqAt.EqAt.int_int a t' b t
    | str b => obtain ⟨t, rfl⟩ := rx; exact SeqAt.EqAt.int_str a t' b t
    | _ => exact absurd (show false = true from fx) Bool.false_ne_true
  | str a =>
    obtain ⟨t', rfl⟩ := ry
    cases x with
    | non => cases rx; exact SeqAt.EqAt.str_none a t'
    | bl b => cases rx; exact SeqAt.EqAt.str_bool a t' b
    | int b => obtain ⟨t, rfl⟩ := rx; exact SeqAt.EqAt.str_int a t' b t
    | str b => obtain ⟨t, rfl⟩ := rx; exact SeqAt.EqAt.str_str a t' b t
    | _ => exact absurd (show false = true from fx) Bool.false_ne_true
  | _ => exact absurd (show false = true from fy) Bool.false_ne_true
/-- the items' answers, read off the values (a value's own answer does not lean on its token) -/
def eqU (x : V) (u : Value) : Bool := match u with
  | .none => eqV .non x
  | .bool b => eqV (.bl b) x
  | .int i _ => eqV (.int i) x
  | .str z _ => eqV (.str z) x
  | _ => false
theorem eqU_of {x y : V} {u : Value} (r : RelV y u) (f : flatV y = true) : eqU x u = eqV y x := by
  cases y with
  | non => cases r; rfl
  | bl b => cases r; rfl
  | int i => obtain ⟨t, rfl⟩ := r; rfl
  | str z => obtain ⟨t, rfl⟩ := r; rfl
  | _ => exact absurd (show false = true from f) Bool.false_ne_true
theorem any_eqU {x : V} : ∀ {xs : List V} {us : List Value}, Vals xs us → xs.all flatV = true → us.any (eqU x) = xs.any fun y => eqV y x
  | _, _, .nil, _ => rfl
  | y :: xs, u :: us, .cons r t, f => by
    rw [List.all_cons, Bool.and_eq_true] at f
    rw [List.any_cons, List.any_cons, eqU_of r f.1, any_eqU t f.2]
theorem mem_eqAt {A : Around} {s : Shared} {x : V} {v : Value} (rx : RelV x v) (fx : flatV x = true) : ∀ {xs : List V} {us : List Value}, Vals xs us → xs.all flatV = true → ∀ u ∈ us, SeqAt.EqAt A s u v (eqU x u)
  | _, _, .nil, _ => fun u hu => by cases hu
  | y :: xs, u :: us, .cons r t, f => fun u' hu => by
    rw [List.all_cons, Bool.and_eq_true] at f
    rcases List.mem_cons.mp hu with rfl | hu
    · rw [eqU_of r f.1]; exact eqAt_V r rx f.1 fx
    · exact mem_eqAt rx fx t f.2 u' hu
def inV (x : V) (xs : List V) : Bool := xs.any fun y => eqV y x
/-- x in a list or tuple of flat items -/
inductive rIn (K : PySem.W.Frag) (neg : Bool) (x : V) (y : V) (H : Hp) (Q : VK) : Prop
  | mk (p : _) (xs : _) (h1 : y = .ref p) (h2 : (SqL K H p xs ∨ SqT K H p xs)) (h3 : flatV x = true) (h4 : xs.all flatV = true) (h5 : Q (.bl (if neg then !inV x xs else inV x xs)) H) : rIn K neg x y H Q
theorem op_notIn_seq : OpR X (compareOp .NotIn) (rIn X.K true) := by
  intro pins s σ H x y v u Q I rx ry h
  obtain ⟨p, xs, rfl, hq, fx, fs, q⟩ := h
  cases ry
  rcases hq with hq | hq
  · obtain ⟨its, r, pl, hz⟩ := I.list hq
    refine SeqAt.notIn_listAt (eqU x) pl.isList (fun w hw => mem_eqAt rx fx r fs w (by simpa using hw)) ⟨.bl _, H, I, rfl, ?_⟩
    rw [show its.toArray.any (eqU x) = its.any (eqU x) by simp, any_eqU r fs]
    exact q
  · obtain ⟨its, r, pl, hz⟩ := I.tuple hq
    refine SeqAt.notIn_tupleAt (eqU x) pl (fun w hw => mem_eqAt rx fx r fs w (by simpa using hw)) ⟨.bl _, H, I, rfl, ?_⟩
    rw [show its.toArray.any (eqU x) = its.any (eqU x) by simp, any_eqU r fs]
    exact q
/-! ### len, list(x), tuple(x) of any list or tuple that is read -/
theorem call_len_seq : CallR X (.builtin "len") (fun xs H Q => ∃ p ys, xs = [.ref p] ∧ (SqL X.K H p ys ∨ SqT X.K H p ys) ∧ Q (.int ys.length) H) := by
  intro pins s σ H xs us Q I r h
  obtain ⟨p, ys, rfl, hq, q⟩ := h
  obtain ⟨u, rfl, rx⟩ := vals1 r
  cases rx
  have hn := line63
  rcases hq with hq | hq
  · obtain ⟨its, r', pl, hz⟩ := I.list hq
    have hlen := r'.length
    exact Calls.call_len_list pl.isList (by simp only [List.size_toArray] <;> lia) ⟨.int ys.length, H, I.tok _, ⟨s.toks + 1, by rw [List.size_toArray, hlen]⟩, q⟩
  · obtain ⟨its, r', pl, hz⟩ := I.tuple hq
    have hlen := r'.length
    exact len_tuple pl (by simp only [List.size_toArray] <;> lia) ⟨.int ys.length, H, I.tok _, ⟨s.toks + 1, by rw [List.size_toArray, hlen]⟩, q⟩
theorem call_list_of : CallR X (.type "list") (fun xs H Q => ∃ p ys, xs = [.ref p] ∧ (SqL X.K H p ys ∨ SqT X.K H p ys) ∧ ∀ l, H l = none → Q (.ref l) (upd H l (.lst ys))) := by
  intro pins s σ H xs us Q I r h
  obtain ⟨p, ys, rfl, hq, q⟩ := h
  obtain ⟨u, rfl, rx⟩ := vals1 r
  cases rx
  have fin : ∀ (its : List Value), Vals ys its → ys.length ≤ sizeLine → ∀ (h' : Heap) (c' : Nat), (∀ b o', s.heap.get? b = some o' → h'.get? b = some o') →
      h'.get? s.heap.objs.size = some { cls := .type "list", dict := none, data := .seq its.toArray c', slots := #[] } → EP X pins σ Q (.ref s.heap.objs.size) { s with heap := h' } := fun its r' hz h' c' kp e =>
    ⟨.ref s.heap.objs.size, _, I.laid (t' := s.toks) kp (Nat.le_refl _) (show ObjOk X.prog X.w _ h' _ (.lst ys) from ⟨hz, its, c', r', e⟩), rfl, q _ (I.hok.fresh (Nat.le_refl _))⟩
  rcases hq with hq | hq
  · obtain ⟨its, r', pl, hz⟩ := I.list hq
    have hlen := r'.length
    obtain ⟨o, ho, hc, n, hd⟩ := pl.isList
    exact call_list_seq p (.inl rfl) ho hc hd (fun h' c' kp e => fin its r' hz h' c' kp e) (by simp only [List.size_toArray] <;> lia)
  · obtain ⟨its, r', pl, hz⟩ := I.tuple hq
    have hlen := r'.length
    obtain ⟨o, ho, hc, n, hd⟩ := pl
    exact call_list_seq p (.inr rfl) ho hc hd (fun h' c' kp e => fin its r' hz h' c' kp e) (by simp only [List.size_toArray] <;> lia)
theorem call_tuple_of : CallR X (.type "tuple") (fun xs H Q => ∃ p ys, xs = [.ref p] ∧ ((SqL X.K H p ys ∧ ∀ l, H l = none → Q (.ref l) (upd H l (.tup ys))) ∨ (SqT X.K H p ys ∧ Q (.ref p) H))) := by
  intro pins s σ H xs us Q I r h
  obtain ⟨p, ys, rfl, h⟩ := h
  obtain ⟨u, rfl, rx⟩ := vals1 r
  cases rx
  rcases h with ⟨hq, q⟩ | ⟨hq, q⟩
  · obtain ⟨its, r', pl, hz⟩ := I.list hq
    have hlen := r'.length
    refine call_tuple_list pl.isList (fun h' kp => ?_) (by simp only [List.size_toArray] <;> lia)
    have I1 : Inv X pins σ H { s with heap := h' } := I.kept (t' := s.toks) kp
    have I2 : Inv X pins σ (upd H h'.objs.size (.tup ys)) { s with heap := h'.push { cls := .type "tuple", data := .seq its.toArray } } :=
      I1.laid (t' := s.toks) (fun b o e => Heap.get?_push_of_some _ e) (Nat.le_refl _) (show ObjOk X.prog X.w _ _ _ (.tup ys) from ⟨hz, its, r', IsTup.new _ _⟩)
    exact ⟨.ref h'.objs.size, _, I2, rfl, q _ (I1.hok.fresh (Nat.le_refl _))⟩
  · obtain ⟨its, r', pl, hz⟩ := I.tuple hq
    exact call_tuple_same pl ⟨.ref p, H, I, rfl, q⟩

/-! ### the call of a builtin's method: o.m(..) -/
/-- the value is of that builtin type -/
def tyV (K : PySem.W.Frag) (T : String) (x : V) (H : Hp) : Prop := match x with
  | .str _ => T = "str"
  | .int _ => T = "int"
  | .ref p => (T = "list" ∧ ∃ xs, SqL K H p xs) ∨ (T = "tuple" ∧ ∃ o, K.lookup p = some o ∧ o.cls = .type "tuple" ∧ o.dict = none) ∨
      (T = "dict" ∧ ((∃ kvs, H p = some (.dK kvs)) ∨ ∃ kvs, H p = some (.dT kvs))) ∨ (T = "set" ∧ ∃ S n, H p = some (.set S n))
  | _ => False
theorem tyV_is {pins : List (Addr × Obj)} {σ : St} {H : Hp} {s : Shared} {T : String} {x : V} {v : Value} (I : Inv X pins σ H s) (r : RelV x v) (ty : tyV X.K T x H) :
    s.TypeIs v T ∧ ∀ a, v = .ref a → ∃ ob, s.heap.get? a = some ob ∧ ob.dict = none := by
  cases x with
  | str z =>
    obtain ⟨t, rfl⟩ := r
    cases (show T = "str" from ty)
    exact ⟨typeIs_str s z t, fun _ e => nomatch e⟩
  | int i =>
    obtain ⟨t, rfl⟩ := r
    cases (show T = "int" from ty)
    exact ⟨typeIs_int s i t, fun _ e => nomatch e⟩
  | ref p =>
    cases r
    rcases ty with ⟨rfl, xs, hq⟩ | ⟨rfl, o, hk, hc, hd⟩ | ⟨rfl, hk⟩ | ⟨rfl, S, n, hk⟩
    · obtain ⟨its, _, pl, _⟩ := I.list hq
      refine ⟨pl.isList.typeIs, fun a e => ?_⟩
      cases e
      obtain ⟨o, n, e, c, hd, _⟩ := pl
      exact ⟨o, e, hd⟩
    · refine ⟨⟨o, I.kIn p o hk, hc⟩, fun a e => ?_⟩
      cases e
      exact ⟨o, I.kIn _ o hk, hd⟩
    · have z : ∃ o, s.heap.get? p = some o ∧ o.ExactDict := by
        rcases hk with ⟨kvs, hk⟩ | ⟨kvs, hk⟩
        · obtain ⟨_, _, _, _, o, _, _, e, ex, _⟩ := I.hok p _ hk
          exact ⟨o, e, ex⟩
        · obtain ⟨_, _, _, _, o, _, _, e, ex, _⟩ := I.hok p _ hk
          exact ⟨o, e, ex⟩
      obtain ⟨o, e, ex⟩ := z
      refine ⟨⟨o, e, ex.1⟩, fun a e2 => ?_⟩
      cases e2
      exact ⟨o, e, ex.2.1⟩
    · obtain ⟨o, _, _, _, e, ex, _⟩ := I.hok p _ hk
      refine ⟨⟨o, e, ex.1⟩, fun a e2 => ?_⟩
      cases e2
      exact ⟨o, e, ex.2.1⟩
  | _ => exact False.elim ty
def tBM (K : PySem.W.Frag) (T : String) (r : V → List V → Hp → VK → Prop) (to : TE) (t : TA) : TE := fun σ H Q => to σ H fun x H1 => tyV K T x H1 ∧ t σ H1 fun xs H2 => r x xs H2 Q
variable {o e : Expr} {es : List Expr} {to : TE} {t : TA} {name : Str} {apos cpos : Pos} {T id : String} {r : V → List V → Hp → VK → Prop}
theorem pe_bm (pa : PlainAttrs T) (slot : Slot T name id) (hty : typeOf (.builtin id) = pure (.type "method_descriptor")) (hm : MtR X id r) (ho : PE X o to) (ha : PA X (e :: es) t)
    (hbase : attributeBase o name X.env (eval o X.env) = eval o X.env := by rfl)
    (hfew : ((backTo cpos (starEach (e :: es) X.env)).all (fun x => !x.1) && (backToKw cpos (keywordEach [] X.env)).all (fun x => x.1.isSome)
      && decide ((e :: es).length + ([] : List Keyword).length + (if ([] : List Keyword).isEmpty then 0 else 1) < 30)) = true := by rfl)
    (hline : (apos.endLine == cpos.line) = true := by rfl) (hs : starEach (e :: es) X.env = (false, eval e X.env) :: starEach es X.env := by rfl) (hplain : (backTo cpos (starEach es X.env)).any (·.1) = false := by rfl) {K : PySem.W.Frag} (eK : X.K = K := by rfl) :
    PE X (.Call (.Attribute o name apos) (e :: es) [] cpos) (tBM K T r to t) := by
  subst eK
  intro pins s σ H Q I h
  refine wpAny_Call_method_late hbase hfew hline rfl (thn (ho pins s σ H _ I h) fun v s1 ⟨x, H1, I1, r1, ty, q1⟩ => ?_)
  obtain ⟨h1, h2⟩ := tyV_is I1 r1 ty
  refine ⟨T, id, pa, slot, hty, h1, h2, ?_⟩
  have hA := ha cpos pins s1 σ H1 _ I1 q1
  rw [hs] at hA ⊢
  refine Calls.callWith_builtin (by show (false || (backTo cpos (starEach es X.env)).any (·.1)) = false; rw [hplain] <;> rfl) (Calls.evalArgs_plain ?_)
  exact thn hA fun us s2 ⟨vs, H2, I2, r2, q2⟩ => hm pins s2 σ H2 x vs v us Q I2 r1 r2 q2
/- xs.append(e), list.index on a module's tuple .. are MtR facts of 06m -/
end
end L2

namespace L2
open PySem PySem.Spec PyProof.Rows

def MtM (X : Cx) (id : String) (r : V → List V → Hp → VK → Prop) : Prop :=
  ∀ (pins : List (Addr × Obj)) (s : Shared) (σ : St) (H : Hp) (x : V) (xs : List V) (v : Value) (us : List Value) (Q : VK), Inv X pins σ H s → RelV x v → Vals xs us → r x xs H Q →
    wpAny (model X.prog X.w) X.A (call (.builtin id) (v :: us)) (EP X pins σ Q) X.xe s

/-! ### lists of values -/
theorem Vals.one {x : V} {us : List Value} (h : Vals [x] us) : ∃ u, us = [u] ∧ RelV x u := by
  cases h with
  | cons r t => cases t; exact ⟨_, rfl, r⟩
section
variable {X : Cx} {pins : List (Addr × Obj)} {σ : St} {H : Hp} {s : Shared} {l b : Addr} {xs ys zs : List V}

/-! ### the two steps: a tracked list is rewritten, a new list is laid -/
theorem Inv.lset {its its' : List Value} {n : Nat} {f : Array Value → Array Value} {t' : Nat} (I : Inv X pins σ H s) (hH : H l = some (.lst xs))
    (e : s.heap.get? l = some { cls := .type "list", data := .seq its.toArray n }) (hf : f its.toArray = its'.toArray) (hv : Vals ys its') (hz : ys.length ≤ sizeLine) :
    Inv X pins σ (upd H l (.lst ys)) { s with heap := s.heap.update l (Obj.mapSeq f), toks := t' } := by
  have q := PySem.IsL.update e f
  rw [hf] at q
  refine I.write (x := l) (e := l) (by rw [hH]; exact trivial) (.inl rfl) (fun b' u hb hu => (Heap.get?_update_other s.heap (Obj.mapSeq f) (Ne.symm hb)).trans hu) ⟨_, q⟩ ?_
  exact ⟨hz, its', _, hv, q⟩
theorem Inv.lnew {its : List Value} {t' : Nat} (I : Inv X pins σ H s) (hv : Vals ys its) (hz : ys.length ≤ sizeLine) :
    Inv X pins σ (upd H s.heap.objs.size (.lst ys)) { s with heap := s.heap.push { cls := .type "list", data := .seq its.toArray }, toks := t' } :=
  I.laid (fun _ _ q => Heap.get?_push_of_some _ q) (Nat.le_refl _) ⟨hz, its, 0, hv, Heap.get?_push_size _ rfl⟩
theorem Inv.fresh (I : Inv X pins σ H s) : H s.heap.objs.size = none := I.hok.fresh (Nat.le_refl _)
theorem Inv.lstM (I : Inv X pins σ H s) (hH : H l = some (.lst xs)) : xs.length ≤ sizeLine ∧ ∃ (its : List Value) (n : Nat), Vals xs its ∧ xs.length = its.length ∧ s.heap.get? l = some { cls := .type "list", data := .seq its.toArray n } := by
  obtain ⟨z, its, n, r, e⟩ := I.hok l _ hH
  exact ⟨z, its, n, r, r.length, e⟩

end

section
variable {X : Cx}

/-! ### methods -/
inductive rAppend (x : V) (vs : List V) (H : Hp) (Q : VK) : Prop
  | mk (l : _) (xs : _) (y : _) (h1 : x = .ref l) (h2 : vs = [y]) (h3 : H l = some (.lst xs)) (h4 : xs.length < sizeLine) (h5 : Q .non (upd H l (.lst (xs ++ [y])))) : rAppend x vs H Q
theorem mt_append : MtM X "list.append" rAppend := by
  intro pins s σ H x vs v us Q I rx rv h
  obtain ⟨l, xs, y, rfl, rfl, hH, hz, q⟩ := h
  cases rx
  obtain ⟨u, rfl, ru⟩ := rv.one
  obtain ⟨z, its, n, r, hl, e⟩ := I.lstM hH
  refine call_meets F.slot_list_append ⟨_, e, rfl⟩ F.entry_list_append (F.args_list_append_2 _ _) (PySem.list_append l its.toArray n u (by rw [List.size_toArray]; lia)) ⟨e, ?_⟩
  refine ⟨.non, _, I.lset (its' := its ++ [u]) hH e (by simp) (r.append (.cons ru .nil)) ?_, rfl, q⟩
  rw [List.length_append, List.length_singleton]
  lia

/-! ### list + list, list += list, list * int -/
inductive rCat (x : V) (y : V) (H : Hp) (Q : VK) : Prop
  | mk (l : _) (b : _) (xs : _) (zs : _) (h1 : x = .ref l) (h2 : y = .ref b) (h3 : H l = some (.lst xs)) (h4 : H b = some (.lst zs)) (h5 : xs.length + zs.length ≤ sizeLine) (h6 : ∀ p, H p = none → Q (.ref p) (upd H p (.lst (xs ++ zs)))) : rCat x y H Q
theorem op_cat : OpR X (binaryOp .Add) rCat := by
  intro pins s σ H x y v u Q I rx ry h
  obtain ⟨l, b, xs, zs, rfl, rfl, hH, hB, hz, q⟩ := h
  cases rx
  cases ry
  obtain ⟨z, its, n, r, hl, e⟩ := I.lstM hH
  obtain ⟨z2, its2, n2, r2, hl2, e2⟩ := I.lstM hB
  refine PySem.P.add_list e e2 ?_ (by rw [List.size_toArray, List.size_toArray]; lia)
  have ea : its.toArray ++ its2.toArray = (its ++ its2).toArray := by simp
  rw [ea]
  exact ⟨.ref _, _, I.lnew (t' := s.toks) (r.append r2) (by rw [List.length_append]; lia), rfl, q _ I.fresh⟩
/-! ### del xs[i] -/
end

/-! ### xs[a:b] = ys -/
section
variable {prog : Program} {w : World} {A : Around} {E : Value → Shared → Prop} {s : Shared}
set_option maxRecDepth 100000 in
end

section
variable {X : Cx}
end
end L2

namespace Att
open PySem PySem.W PySem.Calls PyProof.Rows

/-! ### the script -/
theorem ints_of_wellAll {P : Params} {h : Heap} : ∀ (ns : List Int) (vs : List Value), WellAll P h vs (ns.map WData.int) → IntsAre vs ns := by
  intro ns
  induction ns with
  | nil =>
    intro vs w
    rw [List.map_nil] at w
    cases w
    exact .nil
  | cons n ns ih =>
    intro vs w
    rw [List.map_cons] at w
    cases w with
    | cons a b =>
      cases a
      exact .cons _ _ (ih _ b)

theorem script_of {l : OpenLaw} {n : Nat} (hn : l.most = some n) {P : Params} {h : Heap} {args : List WData} {vals : List Value}
    (hpre : l.row.toRowW.claim.pre args = true) (hwl : WellAll P h vals args) :
    ∃ a vs ns, vals = [Value.ref a] ∧ args = [WData.list (ns.map WData.int)] ∧ h.get? a = some { cls := .type "list", data := .seq vs.toArray } ∧ IntsAre vs ns ∧ ns.length ≤ n := by
  have hsh : WShape.hasAll [] args [.list .int] = true := (pre_splitW hpre).1
  have hc : l.pre.holds [] { args := args } = true := (pre_splitW hpre).2
  obtain ⟨d, r, rfl, h1, h2⟩ := hasAllW_cons hsh
  obtain rfl := hasAllW_nil h2
  obtain ⟨xs, rfl, h3⟩ := hasW_list h1
  obtain ⟨ns, rfl⟩ := items_int h3
  have hlen : ns.length ≤ n := by
    unfold OpenLaw.pre at hc
    have h4 : (WTm.not (.lt (.lit (.int (n : Int))) (.len (.arg 0)))).holds [] { args := [.list (ns.map .int)] } = true := by
      have h4 := (holds_andW hc).1
      rw [hn] at h4
      exact h4
    have h5 := condW_of h4 (w_not (w_lt w_lit (w_len_list (w_arg rfl))))
    rw [List.length_map] at h5
    refine Nat.le_of_not_lt fun q => ?_
    have q' : (n : Int) < ((ns.length : Nat) : Int) := by lia
    first
      | (rw [decide_eq_true q'] at h5; exact absurd h5 (by decide))
      | (simp at h5; lia)
  cases hwl with
  | cons w1 w2 =>
    cases w2
    cases w1 with
    | list ho hall => exact ⟨_, _, ns, rfl, rfl, ho, ints_of_wellAll ns _ hall, hlen⟩

theorem post_true (l : OpenLaw) (args : List WData) : l.row.toRowW.claim.post args (.bool true) args = true :=
  postW_of (r := l.row.toRowW) (X := (true == true))
    (show WShape.has [] (.bool true) .bool = true by first | rfl | decide | simp [WShape.has, WShape.arms, WShape.armsAll])
    (show (WTm.eq .res (.lit (.bool true))).value [] { args := args, res := some (.bool true), after := args } = some (.bool (true == true)) from w_eq_bool (w_res rfl) w_lit) rfl

/-! ### the attachment: holds_open's last premise (the goal 'hc' behind k_head) from a wpAny of the law's body -/
/-- the same from a codeAny of the CALL (for a layer whose function contracts speak of calls) -/
theorem attach_call {l : OpenLaw} {n : Nat} {q : Program} {loose : List Str} {XP : (Str → Option Value) → Heap → Prop} {YP : World → Heap → Prop} {d : DefRec}
    (hn : l.most = some n) (hdf : d.params.defaults = [])
    (call : ∀ (w : World) (s₀ s₁ : Shared) (mg mb : Str → Option Value) (fa : Addr) (o : Obj) (pm cd doc : Value) (a : Addr) (vs : List Value) (ns : List Int),
      Ground q loose [] XP w s₀ mg mb s₁.heap → YP w s₁.heap →
      s₁.heap.get? fa = some o → o.data = .func (docDef d.name d.params d.body d.scope pm cd doc) → s₁.heap.CodeRec cd d.name → mg d.name = some (.ref fa) →
      s₁.heap.get? a = some { cls := .type "list", data := .seq vs.toArray } → IntsAre vs ns → ns.length ≤ n → s₁.gens = #[] →
      codeAny (model l.prog w) callerA (.call (.ref fa) ⟨[.ref a], []⟩) (fun r s' => r = .ok (.ret (.bool true)) ∧ OldK s₁.heap s'.heap ∧ s'.os = s₁.os ∧ AllBare s'.gens) s₁) :
    WalkO q loose XP YP l.row.toRowW d [] (fun f vs => PySem.call f vs) := by
  intro w s₀ s₁ mg mb G Y fa o pm cd doc dV kV ho hd hcd hD hmg hg args vals as hpre hlay hrd hwl hlo
  obtain rfl : dV = .none := Dflts.none hD hdf
  obtain rfl : kV = .none := Dflts.noKw hD
  obtain ⟨a, vs, ns, rfl, rfl, hobj, hints, hlen⟩ := script_of hn hpre hwl
  refine enter_call (codeAny_mono (call w s₀ s₁ mg mb fa o pm cd doc a vs ns G Y ho (fd_plain hd) hcd hmg hobj hints hlen hg) fun r s' hq => ?_)
  obtain ⟨rfl, h2, h3, h4⟩ := hq
  exact ⟨.inl ⟨.bool true, .bool true, [], rfl, fun _ => rfl, .bool true, post_true l _, fun _ => ⟨List.Pairwise.nil, fun _ hm => (nomatch hm)⟩⟩, h2, h3, h4⟩

/-! ### rules over ANY heap (no ledger) from facts about the written part K: the library's own take a ledger (News) for what they write -/
section
variable {prog : Program} {w : World} {A : Around} {E : Value → Shared → Prop} {s : Shared} {K : Frag}

/-! the whole heap as the ledger: makes every rule that writes through a ledger a rule over any heap -/
def ledger (h : Heap) (L d : Addr) : List (Addr × Obj) := (List.range h.objs.size).filterMap fun a => if a = L ∨ a = d then none else (h.get? a).map fun o => (a, o)
end
end Att

namespace L2
open PySem PySem.Spec PyProof.Rows

theorem vals_ints {vs : List Value} {ns : List Int} (h : IntsAre vs ns) : Vals (ns.map V.int) vs := by
  induction h with
  | nil => exact .nil
  | cons n t h ih => exact .cons ⟨t, rfl⟩ ih

/-- nothing is tracked but the script, known to the object (or it is an object of the module) -/
def Only (H : Hp) : Prop := ∀ b, H b = none ∨ ∃ o xs, H b = some (.frz o (.lst xs))

/-- THE HEAD: the law's promise, at the heap behind the top. F, the promise of the law's def, may use that base is part of the heap (so K.In base, base.Ns mainGlobals mg stand in Mod) -/
theorem law_call {P : Program} {w : World} {K : PySem.W.Frag} {mg mb : Str → Option Value} {CX : CXT} {k : Nat} {fa a : Addr} {fd : FuncData} {x : Str} {sp : Sp} {s₁ : Shared} {vs : List Value} {ns : List Int}
    (KX : K.In s₁.heap) (hns : s₁.heap.Ns mainGlobals mg) (hb : s₁.heap.Ns builtinsNs mb) (hbb : ∀ x : Str, x ≠ "__name__" → mb x = bootBuiltins x) (hlim : s₁.heap.NoLimit) (hsee : s₁.heap.NoSeer) (hg : s₁.gens = #[])
    (ha : s₁.heap.get? a = some { cls := .type "list", data := .seq vs.toArray }) (hi : IntsAre vs ns) (hl : ns.length ≤ sizeLine) (hr : Room k callerA)
    (F : ∀ base : Heap, K.In base → base.Ns mainGlobals mg → FnOk P w K mg base CX k fa fd [x] sp) (hbind : ∀ (s : Shared) (u : Value), BindsTo s fd ⟨[u], []⟩ [(x, u)])
    (hsp : ∀ H : Hp, Only H → SqL K H a (ns.map V.int) → sp [.ref a] H (fun v _ => v = .bl true) fun _ _ _ => False)
    (hCX : ∀ H e s', CX [] H s₁ (fun _ _ _ => False) e s' → False) :
    codeAny (model P w) callerA (.call (.ref fa) ⟨[.ref a], []⟩) (fun r s' => r = .ok (.ret (.bool true)) ∧ OldK s₁.heap s'.heap ∧ s'.os = s₁.os ∧ AllBare s'.gens) s₁ := by
  have rv := vals_ints hi
  have lenV := hi.length
  -- from an abstract heap in which nothing but the script may be tracked
  have core : ∀ H : Hp, Only H → SqL K H a (ns.map V.int) → HOk P w H s₁.heap → (∀ b, H b ≠ none → b = a) → (H a ≠ none → K.lookup a = none) →
      codeAny (model P w) callerA (.call (.ref fa) ⟨[.ref a], []⟩) (fun r s' => r = .ok (.ret (.bool true)) ∧ OldK s₁.heap s'.heap ∧ s'.os = s₁.os ∧ AllBare s'.gens) s₁ := by
    intro H hO hS hok hA hK
    have base_of : ∀ {b : Addr} {o : Obj}, s₁.heap.get? b = some o → H b = none → (hidT s₁.heap H).get? b = some o := fun e n => hidT_get e n
    have noA : ∀ {b : Addr} {o : Obj} {es : Array DictEntry} {ep : Nat}, s₁.heap.get? b = some o → o.data = .dict es ep → H b = none := fun {b o es ep} e d => by
      cases q : H b with
      | none => rfl
      | some u =>
        have e' : b = a := hA b (by rw [q]; simp)
        subst e'
        rw [ha] at e; cases e
        have d' : Data.seq vs.toArray _ = Data.dict es ep := d
        cases d'
    have nsK : ∀ {b : Addr} {m : Str → Option Value}, s₁.heap.Ns b m → (hidT s₁.heap H).Ns b m := fun {b m} ⟨o, es, ep, e, d, r⟩ => ⟨o, es, ep, base_of e (noA e d), d, r⟩
    have hKb : K.In (hidT s₁.heap H) := fun b o e => base_of (KX b o e) (by
      cases q : H b with
      | none => rfl
      | some u =>
        have e' : b = a := hA b (by rw [q]; simp)
        subst e'
        rw [hK (by rw [q]; simp)] at e; cases e)
    have seerK : (hidT s₁.heap H).NoSeer := ⟨let ⟨mc, x, y⟩ := hsee.statics; ⟨mc, nsK x, y⟩, let ⟨mm, x, y⟩ := hsee.mods; ⟨mm, nsK x, y⟩, let ⟨mi, x, y⟩ := hsee.imp; ⟨mi, nsK x, y⟩, by
      obtain ⟨mg', bm, ob, x, y, z, u, v⟩ := hsee.main
      refine ⟨mg', bm, ob, nsK x, y, base_of z ?_, u, v⟩
      cases q : H bm with
      | none => rfl
      | some o =>
        have e' : bm = a := hA bm (by rw [q]; simp)
        subst e'
        rw [ha] at z
        cases z
        have u' : Value.type "list" = Value.type "module" := u
        exact absurd u' (by decide)⟩
    have hM : Mod K mg (hidT s₁.heap H) := ⟨hKb, nsK hns, ⟨mb, nsK hb, hbb⟩, let ⟨mc, h1, h2⟩ := hlim; ⟨mc, nsK h1, h2⟩, seerK⟩
    have e0 : Env0 P w K mg (hidT s₁.heap H) callerA [] s₁ H := ⟨rfl, hM, fun b o e => of_hidT e, Nat.le_of_eq (hidT_size _ _), trivial, fun b hb => absurd (show b ∈ ([] : List Addr) from hb) (by simp), hok, .of_eq hg⟩
    refine codeAny_mono ((F _ hKb (nsK hns)).run callerA [] s₁ H ⟨[.ref a], []⟩ [.ref a] [.ref a] _ _ hr e0 (hbind s₁ (.ref a)) (.cons rfl .nil) (hsp H hO hS)) fun r s' h => ?_
    cases r with
    | error e => exact (hCX H e s' h).elim
    | ok fl =>
      cases fl with
      | next => exact False.elim h
      | brk => exact False.elim h
      | cont => exact False.elim h
      | ret u =>
        obtain ⟨v, H', os, bare, un, hok', r', q⟩ := h
        have q' : v = .bl true := q
        subst q'
        obtain rfl : u = Value.bool true := r'
        refine ⟨rfl, OldK.of_keep fun b o e => ?_, os, bare⟩
        cases q : H b with
        | none => exact un.keep b o e q (by intro z; exact absurd (show b ∈ ([] : List Addr) from z) (by simp)) (by simp)
        | some u =>
          rcases hO b with z | ⟨ob, xs, z⟩
          · rw [q] at z; cases z
          · have z2 := un.frzs b ob _ z
            obtain ⟨e1, _⟩ := hok b _ z
            obtain ⟨e2, _⟩ := hok' b _ z2
            rw [e] at e1; cases e1
            exact e2
  cases hk : K.lookup a with
  | some o =>
    -- the script is one of the module's own objects
    have e := KX a o hk
    rw [ha] at e
    cases e
    refine core (fun _ => none) (fun _ => .inl rfl) (.inr ⟨_, vs.toArray, _, hk, rfl, rfl, rfl, by rw [List.size_toArray, lenV]; exact hl, by simpa using rv⟩) (fun b u z => by have z' : (none : Option HO) = some u := z; cases z') (fun b z => absurd rfl z) fun z => absurd rfl z
  | none =>
    refine core (fun b => if b = a then some (.frz { cls := .type "list", data := .seq vs.toArray } (.lst (ns.map V.int))) else none) (fun b => ?_) (.inl (.inr ⟨{ cls := .type "list", data := .seq vs.toArray }, if_pos rfl⟩)) (fun b u z => ?_) (fun b z => ?_) fun _ => hk
    · by_cases hb : b = a
      · exact .inr ⟨_, _, if_pos hb⟩
      · exact .inl (if_neg hb)
    · by_cases hb : b = a
      · have z' := (if_pos hb).symm.trans z
        cases z'
        subst hb
        exact ⟨ha, by rw [List.length_map]; exact hl, vs, _, rv, ha⟩
      · have z' := (if_neg hb).symm.trans z
        cases z'
    · by_cases hb : b = a
      · exact hb
      · exact absurd (if_neg hb) z
end L2

namespace L2
open PySem PySem.Spec PyProof.Rows

/-- the goal that k_head leaves (case hc), from the law's promise. F gives the function object fd (K's own) once, then the promise over every base -/
theorem walk_of {l : PySem.W.OpenLaw} {n k : Nat} {q : Program} {loose : List Str} {XP : (Str → Option Value) → Heap → Prop} {YP : World → Heap → Prop} {d : DefRec} {K : Params → PySem.W.Frag} {CX : World → CXT} {sp : World → Sp} {x : Str}
    (hI : importsNone q = true) (hn : l.most = some n) (hn2 : n ≤ sizeLine) (hdf : d.params.defaults = []) (hr : Room k callerA)
    (hY : ∀ (w : World) (h : Heap), YP w h → (K w.params).In h)
    (F : ∀ (w : World) (mg : Str → Option Value) (fa : Addr) (h : Heap), (K w.params).In h → h.Ns mainGlobals mg → mg d.name = some (.ref fa) →
      ∃ fd : FuncData, (∀ (s : Shared) (u : Value), BindsTo s fd ⟨[u], []⟩ [(x, u)]) ∧
        ∀ base : Heap, (K w.params).In base → base.Ns mainGlobals mg → FnOk l.prog w (K w.params) mg base (CX w) k fa fd [x] (sp w))
    (hsp : ∀ (w : World) (H : Hp) (a : Addr) (ns : List Int), ns.length ≤ n → Only H → SqL (K w.params) H a (ns.map V.int) → sp w [.ref a] H (fun v _ => v = .bl true) fun _ _ _ => False)
    (hCX : ∀ (w : World) (H : Hp) (s : Shared) (e : Value) (s' : Shared), CX w [] H s (fun _ _ _ => False) e s' → False) :
    PySem.W.WalkO q loose XP YP l.row.toRowW d [] (fun f vs => PySem.call f vs) := by
  refine Att.attach_call hn hdf fun w s₀ s₁ mg mb fa o pm cd doc a vs ns G Y ho hd hcd hmg hobj hints hlen hg => ?_
  have KX := hY w _ Y
  obtain ⟨fd, hb, hF⟩ := F w mg fa _ KX G.T.g hmg
  exact law_call KX G.T.g G.T.b G.T.builtins G.T.nolimit (G.T.seer hI) hg hobj hints (Nat.le_trans hlen hn2) hr hF hb (fun H hO hS => hsp w H a ns hlen hO hS) fun H e s' => hCX w H s₁ e s'
end L2

/-! SHORT WORDS over the layer: a def of the text, its body, what a loop and a test want. -/
namespace L2
open PySem PySem.Spec PyProof.Rows

/-! ### the text by places -/
def defArgs (s : Stmt) : Arguments := match s with
  | .FunctionDef _ a _ _ _ _ _ _ _ _ => a
  | _ => { posonlyargs := [], args := [], vararg := none, kwonlyargs := [], kw_defaults := [], kwarg := none, defaults := [] }
def defBody (s : Stmt) : List Stmt := match s with
  | .FunctionDef _ _ b _ _ _ _ _ _ _ => b
  | _ => []
def defScope (s : Stmt) : Scope := match s with
  | .FunctionDef _ _ _ _ _ _ sc _ _ _ => sc
  | _ => { kind := .function, names := [], isGenerator := false, isCoroutine := false }

/-! ### no exception leaves a def -/
abbrev CX0 : CXT := fun _ _ _ _ _ _ => False
abbrev E0 : XK := fun _ _ _ => False
theorem pass0 {X : Cx} : Passes CX0 X E0 := fun _ _ _ _ _ _ _ h => h.elim

/-! ### a def (or method) of the text as it stands behind the top -/
structure Fun (K : PySem.W.Frag) (x qual : Str) (st : Stmt) (f : Addr) (fd : FuncData) : Prop where
  ex : ∃ (oc : Value) (od : Option Addr) (kV doc pm : Value) (an : Option Addr) (cdv ct : Value) (osl : Array (Option Value)),
    fd = PySem.W.fnOf x qual (defArgs st) (defBody st) (defScope st) .none kV doc pm an cdv ct ∧ K.lookup f = some ⟨oc, od, .func fd, osl⟩ ∧ PySem.W.codeIn K cdv qual = true
  kp : PySem.W.keepIn K (.ref f) = true
section
variable {P : Program} {w : World} {K : PySem.W.Frag} {mg : Str → Option Value} {base : Heap}
/-- THE RULE for a def: its body as a term of rules, and the reading of that term -/
theorem Fun.ok {x qual : Str} {st : Stmt} {f : Addr} {fd : FuncData} {N ps : List Str} {k : Nat} {sp : Sp} (F : Fun K x qual st f fd) (S : FnScope N ps (defScope st)) (len : ∀ vs H Q E, sp vs H Q E → vs.length = ps.length)
    (hbody : ∀ (cdv : Value) (A : Around) (outer : List Env) (s : Shared) (H : Hp) (vs : List V) (Q : VK) (E : XK), Room k (A.deeper (envOfC qual (defScope st) s.heap.objs.size f cdv)) → sp vs H Q E →
      ∃ t, PSs (cxOf CX0 P w K mg base N qual (defScope st) f cdv A outer s H E).nox (defBody st) t ∧ t { nx := fun _ H' => Q .non H', rt := Q } (start N vs) H) : FnOk P w K mg base CX0 (k + 1) f fd ps sp := by
  obtain ⟨oc, od, kV, doc, pm, an, cdv, ct, osl, rfl, lk, hcd⟩ := F.ex
  refine fn_of lk hcd S len fun A outer s H vs Q E hr hsp => ?_
  obtain ⟨t, h, q⟩ := hbody cdv A outer s H vs Q E hr hsp
  exact ⟨t, h.nox, q⟩
/-- how its arguments bind (no defaults): h is «fun _ _ _ _ _ _ us hl => match us, hl with | [_, _], _ => rfl», one _ a parameter -/
theorem Fun.binds {x qual : Str} {st : Stmt} {f : Addr} {fd : FuncData} {ps : List Str} (F : Fun K x qual st f fd)
    (h : ∀ (kV doc pm : Value) (an : Option Addr) (cdv ct : Value) (us : List Value), us.length = ps.length → bindArgs (PySem.W.fnOf x qual (defArgs st) (defBody st) (defScope st) .none kV doc pm an cdv ct) ⟨us, []⟩ = pure (ps.zip us)) : Binds K fd ps [] := by
  obtain ⟨oc, od, kV, doc, pm, an, cdv, ct, osl, rfl, lk, hcd⟩ := F.ex
  exact .all (h kV doc pm an cdv ct)
theorem fun_mk {x qual : Str} {st : Stmt} {f : Addr} {oc : Value} {od an : Option Addr} {osl : Array (Option Value)} {kV doc pm cdv ct : Value} (l : K.lookup f = some ⟨oc, od, .func (PySem.W.fnOf x qual (defArgs st) (defBody st) (defScope st) .none kV doc pm an cdv ct), osl⟩)
    (c : PySem.W.codeIn K cdv qual = true) (k : PySem.W.keepIn K (.ref f) = true) : Fun K x qual st f (PySem.W.fnOf x qual (defArgs st) (defBody st) (defScope st) .none kV doc pm an cdv ct) := ⟨⟨oc, od, kV, doc, pm, an, cdv, ct, osl, rfl, l, c⟩, k⟩
end
theorem small1000 {n : Nat} (h : n ≤ 1000) : n < sizeLine := Nat.lt_of_le_of_lt h (by decide)

/-! ### expressions in short: the name that stands in the i-th slot -/
section
variable {X : Cx}
theorem pv (i : Nat) {x : Str} {pos : Pos} (hN : X.N[i]? = some x := by rfl) (hv : Vis X.env.scope x := by first | exact Or.inl rfl | exact Or.inr (Or.inl rfl) | exact Or.inr (Or.inr rfl)) (hd : (x == ("__debug__" : Str)) = false := by decide)
    (hcd : (x == ("__classdict__" : Str)) = false := by decide) : PE X (.Name x pos) (tVar i) := pe_var hN hv hd hcd
end

/-! ### tests -/
theorem iteF {A B : Prop} (h : B) : if false = true then A else B := by
  rw [if_neg Bool.false_ne_true]
  exact h
theorem iteT {A B : Prop} (h : A) : if true = true then A else B := by
  rw [if_pos rfl]
  exact h
theorem ite2 {c A B : Prop} [Decidable c] (h1 : c → A) (h2 : ¬ c → B) : if c then A else B := by
  by_cases h : c
  · rw [if_pos h]
    exact h1 h
  · rw [if_neg h]
    exact h2 h
/-! ### heaps -/
/-- all that was tracked is as it was -/
def Same (H H' : Hp) : Prop := ∀ b o, H b = some o → H' b = some o
theorem Same.refl (H : Hp) : Same H H := fun _ _ h => h
theorem Same.trans {H H1 H2 : Hp} (a : Same H H1) (b : Same H1 H2) : Same H H2 := fun c o h => b c o (a c o h)
theorem Same.seq {K : PySem.W.Frag} {H H' : Hp} {a : Addr} {xs : List V} (e : Same H H') (h : SqL K H a xs) : SqL K H' a xs := by
  rcases h with (h | ⟨o, h⟩) | h
  · exact .inl (.inl (e _ _ h))
  · exact .inl (.inr ⟨o, e _ _ h⟩)
  · exact .inr h

end L2

namespace L2
open PySem PySem.Spec PyProof.Rows
/-! ### lists of pairs as tables -/
section
variable {κ : Type} [DecidableEq κ]
end


/-! ### a tracked dict, its keys ints and texts or tuples of these -/
theorem kV_is {P : Program} {w : World} {k : Key} {u : Value} (r : RelV (kV k) u) : (mixKind P w).is k u = true := by
  cases k with
  | inl i => obtain ⟨t, e⟩ := (show ∃ t, u = Value.int i t from r); subst e; exact mixKind_int P w i t
  | inr x => obtain ⟨t, e⟩ := (show ∃ t, u = Value.str x t from r); subst e; exact mixKind_str P w x t
theorem items_are {P : Program} {w : World} : ∀ {ks : List Key} {us : List Value}, Vals (ks.map kV) us → ItemsAre (mixKind P w) ks us
  | [], _, r => by rw [List.map_nil] at r; cases r; exact .nil
  | k :: ks, _, r => by
    rw [List.map_cons] at r
    cases r with
    | cons h t => exact .cons (kV_is h) (items_are t)

section
variable {P : Program} {w : World} {H : Hp} {h : Heap} {a : Addr}
end

section
variable {X : Cx} {pins : List (Addr × Obj)} {σ : St} {H : Hp} {s : Shared} {a : Addr} {y v : V} {u r : Value} {o : Option V} {A : Around} {E : Value → Shared → Prop}

end

section
variable {X : Cx} {pins : List (Addr × Obj)} {σ : St} {H : Hp} {s : Shared} {a : Addr} {kvs : List (Key × V)} {k : Key} {u : Value} {A : Around} {E : Value → Shared → Prop}
end


/-! ### readings and rules -/
section
variable {X : Cx} {o i e value : Expr} {pos pos' tpos : Pos} {td ty tv : TE}
end


/-! ### displays -/
section
variable {X : Cx} {pos : Pos}
end

/-! ### methods -/
/-- a method call o.m(e) of a built-in, with one argument: what must be seen of the text -/
structure M1 (X : Cx) (o : Expr) (m : Str) (apos : Pos) (e : Expr) (cpos : Pos) : Prop where
  base : attributeBase o m X.env (eval o X.env) = eval o X.env
  few : ((backTo cpos (starEach [e] X.env)).all (fun x => !x.1) && (backToKw cpos (keywordEach [] X.env)).all (fun x => x.1.isSome)
    && decide (([e] : List Expr).length + ([] : List Keyword).length + (if ([] : List Keyword).isEmpty then 0 else 1) < 30)) = true
  line : (apos.endLine == cpos.line) = true
  trees : backTo cpos (starEach [e] X.env) = [(false, eval e X.env)]
structure M2 (X : Cx) (o : Expr) (m : Str) (apos : Pos) (e f : Expr) (cpos : Pos) : Prop where
  base : attributeBase o m X.env (eval o X.env) = eval o X.env
  few : ((backTo cpos (starEach [e, f] X.env)).all (fun x => !x.1) && (backToKw cpos (keywordEach [] X.env)).all (fun x => x.1.isSome)
    && decide (([e, f] : List Expr).length + ([] : List Keyword).length + (if ([] : List Keyword).isEmpty then 0 else 1) < 30)) = true
  line : (apos.endLine == cpos.line) = true
  trees : backTo cpos (starEach [e, f] X.env) = [(false, eval e X.env), (false, eval f X.env)]

section
variable {X : Cx} {pins : List (Addr × Obj)} {σ : St} {H : Hp} {s : Shared} {a : Addr} {y d : V} {u r : Value} {o : Option V} {A : Around} {E : Value → Shared → Prop}
end

section
variable {X : Cx} {o e f : Expr} {apos cpos : Pos} {td ty tx : TE}
end

/-! ### dict(d): a copy -/
section
variable {X : Cx} {pins : List (Addr × Obj)} {σ : St} {H : Hp} {s : Shared} {a : Addr} {kvs : List (Key × V)} {A : Around} {E : Value → Shared → Prop}
end


section
variable {X : Cx} {pins : List (Addr × Obj)} {σ : St} {H : Hp} {s : Shared} {a : Addr} {y : V} {u : Value} {A : Around} {E : Value → Shared → Prop}
end
end L2


/-! numbers: the mathematics -/
namespace Nm
/-- the measure that both defs divide by -/
def msr (a b : Int) : Int := if b < 0 then -(Int.gcd a b : Int) else (Int.gcd a b : Int)
theorem gcd_pos {a b : Int} (hb : b ≠ 0) : 0 < Int.gcd a b := Nat.pos_of_ne_zero fun h => hb (Int.gcd_eq_zero_iff.mp h).2
theorem msr_ne {a b : Int} (hb : b ≠ 0) : msr a b ≠ 0 := by
  have := gcd_pos (a := a) hb
  unfold msr; split <;> lia
theorem fdiv_neg_dvd {a g : Int} (h : g ∣ a) : a.fdiv (-g) = -(a / g) := by
  obtain ⟨k, rfl⟩ := h
  by_cases hg : g = 0
  · subst hg; simp
  · rw [Int.mul_ediv_cancel_left _ hg, show g * k = -g * -k by rw [Int.neg_mul_neg], Int.mul_fdiv_cancel_left _ (by lia)]
theorem fdiv_dvd {a g : Int} (h : g ∣ a) : a.fdiv g = a / g := by
  obtain ⟨k, rfl⟩ := h
  by_cases hg : g = 0
  · subst hg; simp
  · rw [Int.mul_ediv_cancel_left _ hg, Int.mul_fdiv_cancel_left _ hg]
theorem top_msr {a b : Int} (hb : b ≠ 0) : a.fdiv (msr a b) = (Rat.divInt a b).num := by
  rw [Rat.num_divInt, Int.gcd_comm b a]
  have d : (Int.gcd a b : Int) ∣ a := Int.gcd_dvd_left ..
  unfold msr
  split
  · rename_i h
    rw [fdiv_neg_dvd d, Int.sign_eq_neg_one_of_neg h, Int.neg_mul, Int.one_mul, Int.neg_ediv_of_dvd d]
  · rw [fdiv_dvd d, Int.sign_eq_one_of_pos (by lia), Int.one_mul]
theorem bottom_msr {a b : Int} (hb : b ≠ 0) : b.fdiv (msr a b) = (Rat.divInt a b).den := by
  rw [Rat.den_divInt, if_neg hb, Int.gcd_comm b a]
  have d : (Int.gcd a b : Int) ∣ b := Int.gcd_dvd_right ..
  rw [Int.natCast_ediv]
  unfold msr
  split
  · rename_i h
    rw [fdiv_neg_dvd d, ← Int.neg_ediv_of_dvd d, Int.ofNat_natAbs_of_nonpos (by lia)]
  · rw [fdiv_dvd d, Int.natAbs_of_nonneg (by lia)]
/-- one turn of the search for the common measure -/
theorem gcd_turn (x y : Int) : Int.gcd y (x % y) = Int.gcd x y := by
  have e : x % y + y * (x / y) = x := Int.emod_add_mul_ediv x y
  have h : Int.gcd (x % y + y * (x / y)) y = Int.gcd (x % y) y := Int.gcd_add_mul_left_left ..
  rw [e] at h
  rw [h, Int.gcd_comm]
theorem abs_if (i : Int) : (if i < 0 then -i else i) = (i.natAbs : Int) := by split <;> lia
theorem num_mul (q : Rat) : ((q.num : Int) : Rat) = q * ((q.den : Int) : Rat) := by
  have hd : ((q.den : Nat) : Int) ≠ 0 := by have := q.den_pos; lia
  have h1 : q = (q.num : Rat) / ((q.den : Int) : Rat) := by
    have := Rat.num_divInt_den q
    rw [Rat.divInt_eq_div] at this
    exact this.symm
  have h0 : (((q.den : Int)) : Rat) ≠ 0 := fun z => hd (by exact_mod_cast z)
  conv => rhs; lhs; rw [h1]
  rw [Rat.div_mul_cancel h0]
theorem den_ne (q : Rat) : ((q.den : Nat) : Int) ≠ 0 := by have := q.den_pos; lia
theorem cast_ne {a : Int} (h : a ≠ 0) : (a : Rat) ≠ 0 := fun z => h (by exact_mod_cast z)
theorem div_eq {t b : Int} {q : Rat} (hb : b ≠ 0) (h : (t : Rat) = q * (b : Rat)) : Rat.divInt t b = q := by
  rw [Rat.divInt_eq_div, h, Rat.mul_div_cancel (cast_ne hb)]
theorem plus_eq (p q : Rat) : Rat.divInt (p.num * q.den + q.num * p.den) (p.den * q.den) = p + q :=
  div_eq (Int.mul_ne_zero (den_ne p) (den_ne q)) (by rw [Rat.intCast_add, Rat.intCast_mul, Rat.intCast_mul, Rat.intCast_mul, num_mul p, num_mul q]; grind)
end Nm

/-! curves: the mathematics -/
namespace Cv
/-- the height at x -/
def ev : List Rat → Rat → Rat
  | [], _ => 0
  | q :: r, x => q + x * ev r x
/-- by powers -/
def pw : List Rat → Rat → Rat → Rat
  | [], _, _ => 0
  | q :: r, x, p => q * p + pw r x (p * x)
/-! ### a curve that is nought at more places than it has numbers -/
end Cv

/-! own layer, part 1: a list comprehension -/
namespace L2
open PySem PySem.Spec PyProof.Rows

/-! ### the cells that a comprehension closes over -/
theorem closure_ok {env : Env} : ∀ (names : List (Str × NameKind)) (acc : List (Str × Addr)), (∀ x ∈ names, x.2 = .free → ∃ c, env.cells.lookup x.1 = some c) →
    ∃ cl : List (Str × Addr), (forIn (m := Sem) names acc fun x r => do
        if x.2 == .free then pure (ForInStep.yield ((x.1, ← cellOf env x.1) :: r)) else pure (ForInStep.yield r)) = pure cl ∧
      (∀ p ∈ cl, p ∈ acc ∨ env.cells.lookup p.1 = some p.2) ∧ (∀ p ∈ acc, p ∈ cl) ∧ ∀ x ∈ names, x.2 = .free → ∃ c, (x.1, c) ∈ cl
  | [], acc, _ => ⟨acc, rfl, fun _ h => .inl h, fun _ h => h, fun _ h => nomatch h⟩
  | x :: r, acc, h => by
    by_cases hk : x.2 = .free
    · obtain ⟨c, hc⟩ := h x List.mem_cons_self hk
      obtain ⟨cl, e, h1, h2, h3⟩ := closure_ok r ((x.1, c) :: acc) fun y hy => h y (List.mem_cons_of_mem _ hy)
      refine ⟨cl, ?_, fun p hp => ?_, fun p hp => h2 p (List.mem_cons_of_mem _ hp), fun y hy hf => ?_⟩
      · rw [List.forIn_cons]
        have z : (x.2 == NameKind.free) = true := by rw [hk]; rfl
        have cell : cellOf env x.1 = pure c := by unfold cellOf; rw [hc]
        simp only [z, if_true, cell]
        exact e
      · rcases h1 p hp with q | q
        · rcases List.mem_cons.mp q with rfl | q
          · exact .inr hc
          · exact .inl q
        · exact .inr q
      · rcases List.mem_cons.mp hy with rfl | hy
        · exact ⟨c, h2 _ List.mem_cons_self⟩
        · exact h3 y hy hf
    · obtain ⟨cl, e, h1, h2, h3⟩ := closure_ok r acc fun y hy => h y (List.mem_cons_of_mem _ hy)
      refine ⟨cl, ?_, h1, h2, fun y hy hf => ?_⟩
      · rw [List.forIn_cons]
        have z : (x.2 == NameKind.free) = false := by
          cases e : x.2 <;> first | rfl | exact absurd e hk
        simp only [z, Bool.false_eq_true, if_false]
        exact e
      · rcases List.mem_cons.mp hy with rfl | hy
        · exact absurd hf hk
        · exact h3 y hy hf
theorem lookup_of_mem {x : Str} {c : Addr} : ∀ {cl : List (Str × Addr)}, (x, c) ∈ cl → ∃ c', cl.lookup x = some c'
  | [], h => nomatch h
  | (y, d) :: r, h => by
    by_cases e : x = y
    · subst e; exact ⟨d, by simp⟩
    · rcases List.mem_cons.mp h with q | q
      · cases q; exact absurd rfl e
      · obtain ⟨c', q'⟩ := lookup_of_mem q
        refine ⟨c', ?_⟩
        have : (x == y) = false := by simpa using e
        rw [List.lookup_cons, this]
        exact q'
theorem closureFor_ok {scope : Scope} {env : Env} (h : ∀ x ∈ scope.names, x.2 = .free → ∃ c, env.cells.lookup x.1 = some c) :
    ∃ cl : List (Str × Addr), closureFor scope env = pure cl ∧ (∀ x c, cl.lookup x = some c → env.cells.lookup x = some c) ∧ ∀ x ∈ scope.names, x.2 = .free → ∃ c, cl.lookup x.1 = some c := by
  obtain ⟨cl, e, h1, _, h3⟩ := closure_ok scope.names [] h
  refine ⟨cl, ?_, fun x c q => ?_, fun x hx hf => ?_⟩
  · unfold closureFor
    simp only [bind_pure]
    exact e
  · rcases h1 _ (PySem.mem_of_lookup q) with z | z
    · exact nomatch z
    · exact z
  · obtain ⟨c, hc⟩ := h3 x hx hf
    exact lookup_of_mem hc

/-- what stands in the block's table: a name that was free -/
theorem lookup_relabel_free {env : Env} : ∀ {names : List (Str × NameKind)} {x : Str}, names.lookup x = some .free →
    (names.map fun (n, k) => if (k == NameKind.free && env.scope.kind == .function && env.kindOf n == some .cell) then (n, NameKind.cell) else (n, k)).lookup x = some .cell ∨
    (names.map fun (n, k) => if (k == NameKind.free && env.scope.kind == .function && env.kindOf n == some .cell) then (n, NameKind.cell) else (n, k)).lookup x = some .free
  | [], _, h => by simp at h
  | (n, k) :: r, x, h => by
    have ih := @lookup_relabel_free env r x
    show List.lookup x ((if (k == NameKind.free && env.scope.kind == .function && env.kindOf n == some .cell) = true then (n, NameKind.cell) else (n, k)) :: _) = _ ∨ List.lookup x ((if (k == NameKind.free && env.scope.kind == .function && env.kindOf n == some .cell) = true then (n, NameKind.cell) else (n, k)) :: _) = _
    cases hx : x == n with
    | true =>
      simp only [List.lookup_cons, hx] at h
      cases h
      by_cases hc : (NameKind.free == NameKind.free && env.scope.kind == .function && env.kindOf n == some .cell) = true
      · rw [if_pos hc]; simp [List.lookup_cons, hx]
      · rw [if_neg hc]; simp [List.lookup_cons, hx]
    | false =>
      simp only [List.lookup_cons, hx] at h
      by_cases hc : (k == NameKind.free && env.scope.kind == .function && env.kindOf n == some .cell) = true
      · rw [if_pos hc]; simp only [List.lookup_cons, hx]; exact ih h
      · rw [if_neg hc]; simp only [List.lookup_cons, hx]; exact ih h
/-- a name of the block that has a cell was free -/
theorem relabel_free {env : Env} {x : Str} : ∀ {names : List (Str × NameKind)}, (∀ y ∈ names, y.2 ≠ .cell) →
    ((names.map fun (n, k) => if (k == NameKind.free && env.scope.kind == .function && env.kindOf n == some .cell) then (n, NameKind.cell) else (n, k)).lookup x = some .cell ∨
     (names.map fun (n, k) => if (k == NameKind.free && env.scope.kind == .function && env.kindOf n == some .cell) then (n, NameKind.cell) else (n, k)).lookup x = some .free) → (x, NameKind.free) ∈ names
  | [], _, h => by simp at h
  | (n, k) :: r, hc, h => by
    have ih := @relabel_free env x r fun y hy => hc y (List.mem_cons_of_mem _ hy)
    have hk : k ≠ .cell := hc (n, k) List.mem_cons_self
    change List.lookup x ((if (k == NameKind.free && env.scope.kind == .function && env.kindOf n == some .cell) = true then (n, NameKind.cell) else (n, k)) :: _) = _ ∨ List.lookup x ((if (k == NameKind.free && env.scope.kind == .function && env.kindOf n == some .cell) = true then (n, NameKind.cell) else (n, k)) :: _) = _ at h
    cases hx : x == n with
    | true =>
      have e : x = n := by simpa using hx
      subst e
      by_cases hq : (k == NameKind.free && env.scope.kind == .function && env.kindOf x == some .cell) = true
      · have : k = .free := by
          cases k <;> first | rfl | (simp at hq)
        subst this; exact List.mem_cons_self
      · rw [if_neg hq] at h
        simp only [List.lookup_cons, hx] at h
        rcases h with h | h
        · cases h; exact absurd rfl hk
        · cases h; exact List.mem_cons_self
    | false =>
      refine List.mem_cons_of_mem _ (ih ?_)
      by_cases hq : (k == NameKind.free && env.scope.kind == .function && env.kindOf n == some .cell) = true
      · rw [if_pos hq] at h; simpa only [List.lookup_cons, hx] using h
      · rw [if_neg hq] at h; simpa only [List.lookup_cons, hx] using h

/-! ### the block -/
/-- the context of a comprehension's block: its names are the target's, then those that it closes over -/
def cxComp (X : Cx) (N : List Str) (scope : Scope) (cl : List (Str × Addr)) (C : Addr) (s : Shared) (H : Hp) (fp : List Addr) : Cx :=
  { prog := X.prog, w := X.w, K := X.K, mg := X.mg, base := X.base, A := X.A, N := N, s₀ := s, H₀ := H, env := compEnvC scope cl C X.env, outer := X.stack, stack := X.stack, ex := fp,
    fn := fun _ => false, calm := X.calm, pn := [], xe := fun _ _ => False }
/-- the block's slots: nt for the target, then the outer ones at js -/
def cS (nt : Nat) (js : List Nat) (σ : St) : St := List.replicate nt none ++ js.map fun i => σ.getD i none
abbrev lstO (ys : List Value) : Obj := { cls := .type "list", data := .seq ys.toArray ys.length }

theorem compLoop_any {prog : Program} {w : World} {A : Around} {R : Result → Shared → Prop} {s : Shared} {elt target iter : Expr} {ifs : List Expr} {scope : Scope} {pos : Pos} {it acc : Value} {env : Env} (I : Nat → Shared → Prop)
    (turn : ∀ n s, I n s → wpAny (model prog w) A (pyNext it) (fun r s₁ => match r with
      | none => R (.ok .next) s₁
      | some v => wpAny (model prog w) A (letOwnedTupleGo target it v) (fun _ s₁' => wpAny (model prog w) A (assign target env v) (fun _ s₂ =>
          wpAny (model prog w) A (forIn ifs true fun c r => if r = true then do let ok ← isTrue c env (eval c env); pure (ForInStep.yield ok) else pure (ForInStep.yield r)) (fun ok s₃ =>
            if ok = true then wpAny (model prog w) A (eval elt env) (fun x s₄ =>
              wpAny (model prog w) A (call (.builtin "list.append") [acc, x]) (fun _ s₅ => ∃ m, m < n ∧ I m s₅) (fun _ _ => False) s₄) (fun _ _ => False) s₃
            else ∃ m, m < n ∧ I m s₃) (fun _ _ => False) s₂) (fun _ _ => False) s₁') (fun _ _ => False) s₁) (fun _ _ => False) s)
    (n : Nat) (h : I n s) :
    codeAny (model prog w) A (.compLoop (.ListComp elt [⟨target, iter, ifs, 0⟩] scope pos) 0 it acc env) R s := by
  refine codeAny_loop rfl I (fun n s hI => ?_) n h
  show wpAny _ A ((compTurn (.ListComp elt [⟨target, iter, ifs, 0⟩] scope pos) 0 it acc env).onRaise (fun x => do noteFrame x env; theTreesLotGoes x)) _ _ s
  refine wpAny_noted ?_
  rw [compTurn_list]
  refine wpAny_bind (wpAny_standAt (wpAny_bind (wpAny_mono (turn n s hI) (fun r s₁ h₁ => ?_) fun _ _ h' => h'.elim)))
  cases r with
  | none => exact wpAny_pure h₁
  | some v =>
    refine wpAny_bind (wpAny_mono h₁ (fun _ s₁' h₁' => ?_) fun _ _ h' => h'.elim)
    refine wpAny_bind (wpAny_mono h₁' (fun _ s₂ h₂ => wpAny_bind (wpAny_mono h₂ (fun ok s₃ h₃ => ?_) fun _ _ h' => h'.elim)) fun _ _ h' => h'.elim)
    cases ok with
    | false => exact wpAny_pure ⟨rfl, h₃⟩
    | true =>
      exact wpAny_bind (wpAny_bind (wpAny_mono h₃ (fun x s₄ h₄ => wpAny_bind (wpAny_mono h₄ (fun _ s₅ h₅ => wpAny_pure (wpAny_pure ⟨rfl, h₅⟩)) fun _ _ h' => h'.elim)) fun _ _ h' => h'.elim))

/-- the tests of a clause -/
def PTs (X : Cx) (ifs : List Expr) (t : TT) : Prop :=
  ∀ (pins : List (Addr × Obj)) (s : Shared) (σ : St) (H : Hp) (Q : Bool → Hp → Prop), Inv X pins σ H s → t σ H Q →
    wpAny (model X.prog X.w) X.A (forIn ifs true fun c r => if r = true then do let ok ← isTrue c X.env (eval c X.env); pure (ForInStep.yield ok) else pure (ForInStep.yield r)) (TP X pins σ Q) X.xe s
def tYes : TT := fun _ H Q => Q true H
theorem pts_nil {X : Cx} : PTs X [] tYes := fun _ _ _ H _ I h => wpAny_tests_nil ⟨H, I, h⟩
theorem pts_one {X : Cx} {c : Expr} {t : TT} (h : PT X c t) : PTs X [c] t := fun pins s σ H Q I q => wpAny_tests_one (h pins s σ H Q I q)

/-- what a comprehension's n turns are to keep -/
structure LcW (J : It) (n nt : Nat) (js : List Nat) (σ : St) (g : TG) (tc : TT) (te : TE) (Fin : List V → Hp → Prop) (W : Nat → List V → Hp → Prop) : Prop where
  go : ∀ i zs H, i < n → W i zs H → J.go i H ∧ zs.length < sizeLine
  step : ∀ i zs H x H', i < n → W i zs H → J.yld i H x H' → g x (cS nt js σ) H' fun σ2 H2 => tc σ2 H2 fun b H3 => if b = true then te σ2 H3 fun y H4 => W (i + 1) (zs ++ [y]) H4 else W (i + 1) zs H3
  stop : ∀ zs H, W n zs H → J.stop n H ∧ zs.length ≤ sizeLine ∧ Fin zs H
@[irreducible] def tLC (wi : TI) (nt : Nat) (js : List Nat) (g : TG) (tc : TT) (te : TE) : TE := fun σ H Q => wi σ H fun J H1 =>
  ∃ (n : Nat) (W : Nat → List V → Hp → Prop), W 0 [] H1 ∧ LcW J n nt js σ g tc te (fun zs H' => ∀ p, H' p = none → Q (.ref p) (upd H' p (.lst zs))) W

theorem lc_of {wi : TI} {nt : Nat} {js : List Nat} {g : TG} {tc : TT} {te : TE} {σ : St} {H : Hp} {Q : VK}
    (h : wi σ H fun J H1 => ∃ (n : Nat) (W : Nat → List V → Hp → Prop), W 0 [] H1 ∧ LcW J n nt js σ g tc te (fun zs H' => ∀ p, H' p = none → Q (.ref p) (upd H' p (.lst zs))) W) : tLC wi nt js g tc te σ H Q := by
  unfold tLC; exact h
theorem lc_to {wi : TI} {nt : Nat} {js : List Nat} {g : TG} {tc : TT} {te : TE} {σ : St} {H : Hp} {Q : VK} (h : tLC wi nt js g tc te σ H Q) :
    wi σ H fun J H1 => ∃ (n : Nat) (W : Nat → List V → Hp → Prop), W 0 [] H1 ∧ LcW J n nt js σ g tc te (fun zs H' => ∀ p, H' p = none → Q (.ref p) (upd H' p (.lst zs))) W := by
  unfold tLC at h; exact h

/-- what the block's names need -/
structure CompOk (X : Cx) (N : List Str) (nt : Nat) (js : List Nat) (scope : Scope) : Prop where
  kind : scope.kind = .function
  nocell : ∀ y ∈ scope.names, y.2 ≠ .cell
  names : ∀ y ∈ scope.names, y.2 = .local → scope.names.lookup y.1 = some .local
  free : ∀ y ∈ scope.names, y.2 = .free → X.env.kindOf y.1 = some .cell ∨ X.env.kindOf y.1 = some .free
  len : N.length = nt + js.length
  outer : ∀ j i, js[j]? = some i → ∃ x, N[nt + j]? = some x ∧ X.N[i]? = some x ∧ scope.names.lookup x = some .free

/-- .. by looking -/
def compOkB (NX : List Str) (sc : Scope) (N : List Str) (nt : Nat) (js : List Nat) (scope : Scope) : Bool :=
  decide (scope.kind = .function) && scope.names.all (fun y => decide (y.2 ≠ .cell)) && scope.names.all (fun y => decide (y.2 ≠ .local) || decide (scope.names.lookup y.1 = some .local)) &&
  scope.names.all (fun y => decide (y.2 ≠ .free) || (decide (sc.names.lookup y.1 = some .cell) || decide (sc.names.lookup y.1 = some .free))) && decide (N.length = nt + js.length) &&
  (List.range js.length).all fun j => match js[j]?, N[nt + j]? with
    | some i, some x => decide (NX[i]? = some x) && decide (scope.names.lookup x = some .free)
    | _, _ => false
theorem CompOk.look {X : Cx} {NX N : List Str} {sc scope : Scope} {nt : Nat} {js : List Nat} (hN : X.N = NX) (hs : X.env.scope = sc) (h : compOkB NX sc N nt js scope = true) : CompOk X N nt js scope := by
  unfold compOkB at h
  simp only [Bool.and_eq_true, List.all_eq_true, Bool.or_eq_true, decide_eq_true_eq] at h
  obtain ⟨⟨⟨⟨⟨h1, h2⟩, h3⟩, h4⟩, h5⟩, h6⟩ := h
  refine ⟨h1, h2, fun y hy hl => (h3 y hy).resolve_left fun z => z hl, fun y hy hf => ?_, h5, fun j i e => ?_⟩
  · have q := (h4 y hy).resolve_left fun z => z hf
    rw [← hs] at q
    exact q
  · have hj : j < js.length := (List.getElem?_eq_some_iff.mp e).1
    have q := h6 j (List.mem_range.mpr hj)
    rw [e] at q
    cases en : N[nt + j]? with
    | none => rw [en] at q; cases q
    | some x =>
      rw [en] at q
      simp only [Bool.and_eq_true, decide_eq_true_eq] at q
      exact ⟨x, rfl, by rw [hN]; exact q.1, q.2⟩

section
variable {X : Cx} {N : List Str} {nt : Nat} {js : List Nat} {scope : Scope} {cl : List (Str × Addr)}
theorem HOk.track {P : Program} {w : World} {H : Hp} {h : Heap} {a : Addr} {o : HO} (x : HOk P w H h) (hn : H a = none) (new : ObjOk P w (upd H a o) h a o) : HOk P w (upd H a o) h := fun b u e => by
  by_cases hb : b = a
  · subst hb; rw [upd_same] at e; cases e; exact new
  · rw [upd_ne hb] at e
    exact (x b u e).stay (fun c v _ q => q) (fun c q => by rw [upd_ne (ne_of_none q hn)]; exact q) fun c xs q => by rw [upd_ne (ne_of_none q hn)]; exact q

/-- the block's entry -/
theorem inv_comp {pins : List (Addr × Obj)} {σ : St} {H : Hp} {s : Shared} {C D : Addr} {h' : Heap} {tk : Nat} {fp : List Addr} {m : Str → Option Value} (I : Inv X pins σ H s) (ok : CompOk X N nt js scope)
    (hcl : ∀ x c, cl.lookup x = some c → X.env.cells.lookup x = some c) (hcl2 : ∀ x ∈ scope.names, x.2 = .free → ∃ c, cl.lookup x.1 = some c)
    (hf : ∀ b ∈ fp, FpOk X pins H b) (ho : ∀ b ∈ fp, ∃ o, s.heap.get? b = some o ∧ ∀ v, o.data ≠ .cell v)
    (hD : s.heap.objs.size ≤ D) (hC : s.heap.objs.size ≤ C) (hDC : D ≠ C) (k : ∀ b o, s.heap.get? b = some o → h'.get? b = some o) (hn : h'.Ns C m) (hd : h'.get? D = some (lstO [])) :
    Inv (cxComp X N scope cl C s H fp) [(D, lstO [])] (cS nt js σ) H { s with heap := h', toks := tk } := by
  have lt : ∀ b ∈ fp, b < s.heap.objs.size := fun b hb => by obtain ⟨o, e, _⟩ := ho b hb; exact Heap.lt_size e
  have frlt : ∀ b ∈ frs X.stack, b < s.heap.objs.size := fun b hb => by
    obtain ⟨_, o, e, _⟩ := I.stack.mem hb
    exact Heap.lt_size e
  refine ⟨⟨I.ok.mod, ok.kind, I.ok.glob, I.ok.blt, hC, fun x y c h1 h2 => I.ok.inj x y c (hcl x c h1) (hcl y c h2), fun x hx => ?_, fun x c hx => absurd hx Bool.false_ne_true, I.ok.hd, I.ok.frames, .inl rfl, fun b hb => ⟨?_, fun x c e => (hf b hb).2.2.2.2.1 x c (hcl x c e)⟩, I.bs,
      Nat.le_trans I.ok.bsz I.sz, fun b o e hb => ?_, fun b hb hs => ?_, I.stack, I.stkFree⟩, rfl, I.bare, Un.kept k, ⟨m, hn, fun j x v h1 h2 h3 => ?_⟩, fun x c e => ?_, I.hok.fresh hC, fun x c e => I.freeC x c (hcl x c e), fun p hp => ?_, I.hok.kept k, ?_⟩
  · obtain ⟨c, hc⟩ := hcl2 (x, .free) (relabel_free ok.nocell hx) rfl
    exact ⟨c, hc⟩
  · exact Nat.ne_of_lt (Nat.lt_of_lt_of_le (lt b hb) hC)
  · rcases (hf b hb).2.2.2.1 with z | z
    · exact I.ok.noex b o e z
    · exact absurd (Nat.lt_of_lt_of_le (Heap.lt_size e) (Nat.le_trans I.ok.bsz z)) (Nat.lt_irrefl _)
  · rcases List.mem_cons.mp (I.stkSub b hs) with z | z
    · exact (hf b hb).2.1 z
    · exact (hf b hb).2.2.1 z
  · change N[j]? = some x at h1
    unfold cS at h2
    by_cases hj : j < nt
    · rw [List.getElem?_append_left (by simpa using hj), List.getElem?_replicate] at h2
      rw [if_pos hj] at h2; cases h2
    · rw [List.getElem?_append_right (by simpa using Nat.not_lt.mp hj), List.length_replicate, List.getElem?_map] at h2
      cases ei : js[j - nt]? with
      | none => rw [ei] at h2; cases h2
      | some i =>
        rw [ei] at h2
        obtain ⟨y, e1, e2, e3⟩ := ok.outer _ i ei
        rw [show nt + (j - nt) = j by lia, h1] at e1
        cases e1
        have hv : σ[i]? = some (some v) := by
          simp only [Option.map_some, Option.some.injEq] at h2
          rw [List.getD_eq_getElem?_getD] at h2
          cases eσ : σ[i]? with
          | none => rw [eσ] at h2; cases h2
          | some z => rw [eσ] at h2; simp at h2; rw [h2]
        obtain ⟨m₀, _, hl⟩ := I.loc
        have kf := ok.free (x, .free) (PySem.mem_of_lookup e3) rfl
        obtain ⟨u, r, l⟩ := hl i x v e2 hv (kf.elim (fun z => .inr (.inl z)) fun z => .inr (.inr z))
        refine ⟨u, r, .inr ⟨lookup_relabel_free e3, ?_⟩⟩
        rcases l with ⟨kl, _⟩ | ⟨_, c, ec, ⟨oc, hoc, hod⟩⟩
        · rcases kf with z | z <;> (rw [z] at kl; cases kl)
        · obtain ⟨c', hc'⟩ := hcl2 (x, .free) (PySem.mem_of_lookup e3) rfl
          have e' := hcl x c' hc'
          rw [ec] at e'
          cases e'
          exact ⟨c, hc', oc, k _ _ hoc, hod⟩
  · obtain ⟨v, oc, hoc, hod⟩ := I.cell x c (hcl x c e)
    exact ⟨v, oc, k _ _ hoc, hod⟩
  · have e : p = (D, lstO []) := by
      have hp' : p ∈ [(D, lstO [])] := hp
      simpa using hp'
    subst e
    refine ⟨hd, I.hok.fresh hD, hDC, fun hb => absurd (Nat.lt_of_lt_of_le (frlt D hb) hD) (Nat.lt_irrefl _), fun v z => by cases z⟩
  · show (cS nt js σ).length = N.length
    unfold cS
    rw [List.length_append, List.length_replicate, List.length_map, ok.len]
end
end L2

/-! own layer, part 2: a list comprehension runs -/
namespace L2
open PySem PySem.Spec PyProof.Rows

/-- the target's store leaves the other slots -/
def Stays (g : TG) (nt : Nat) : Prop := ∀ x σ H Q, g x σ H Q → g x σ H fun σ2 H2 => (σ2.length = σ.length ∧ σ2.drop nt = σ.drop nt) ∧ Q σ2 H2
theorem stays_name {i nt : Nat} (h : i < nt) : Stays (gName i) nt := fun x σ H Q q => ⟨⟨List.length_set, by
  apply List.ext_getElem?
  intro k
  rw [List.getElem?_drop, List.getElem?_drop, List.getElem?_set_ne (by lia)]⟩, q⟩

section
variable {X : Cx} {N : List Str} {nt : Nat} {js : List Nat} {scope : Scope} {elt iter tg : Expr} {ifs : List Expr} {pos : Pos} {g : TG} {tc : TT} {te : TE} {wi : TI}

theorem cS_weak {σ σ2 : St} (hl : σ2.length = (cS nt js σ).length) (hd : σ2.drop nt = (cS nt js σ).drop nt) : ∀ (i : Nat) v, (cS nt js σ)[i]? = some (some v) → σ2[i]? = some (some v) := fun i v e => by
  by_cases hi : i < nt
  · unfold cS at e
    rw [List.getElem?_append_left (by simpa using hi), List.getElem?_replicate, if_pos hi] at e
    cases e
  · have q : ((cS nt js σ).drop nt)[i - nt]? = some (some v) := by rw [List.getElem?_drop, show nt + (i - nt) = i by lia]; exact e
    rw [← hd, List.getElem?_drop, show nt + (i - nt) = i by lia] at q
    exact q

set_option maxHeartbeats 4000000 in
theorem comp_run {pins : List (Addr × Obj)} {σ : St} {H : Hp} {s₂ : Shared} {cl : List (Str × Addr)} {J : It} {fp : List Addr} {it : Addr} {tn : Nat → Heap → Prop} {E : Value → Shared → Prop} {Fin : List V → Hp → Prop} {W : Nat → List V → Hp → Prop} {nn : Nat}
    {RR : Value → Addr → Result → Shared → Prop} (hcalm : X.calm = true) (ok : CompOk X N nt js scope)
    (hcl : ∀ x c, cl.lookup x = some c → X.env.cells.lookup x = some c) (hcl2 : ∀ x ∈ scope.names, x.2 = .free → ∃ c, cl.lookup x.1 = some c)
    (hg : ∀ cl C s H fp, PG (cxComp X N scope cl C s H fp) tg g) (hk : Stays g nt) (hc : ∀ cl C s H fp, PTs (cxComp X N scope cl C s H fp) ifs tc) (he : ∀ cl C s H fp, PE (cxComp X N scope cl C s H fp) elt te)
    (I : Inv X pins σ H s₂) (T : Turn X.prog X.w X.K tg J fp it tn) (st : tn 0 s₂.heap) (hf : ∀ b ∈ fp, FpOk X pins H b) (w0 : W 0 [] H) (lw : LcW J nn nt js σ g tc te Fin W)
    (hRR : ∀ D C s' H' zs m, Inv X pins σ (upd H' D (.lst zs)) s' → s'.heap.Ns C m → H' D = none → (upd H' D (.lst zs)) C = none → C ≠ X.env.locals → X.s₀.heap.objs.size ≤ C → (∀ x c, X.env.cells.lookup x = some c → c ≠ C) →
      (∀ p ∈ X.pn ++ pins, p.1 ≠ C) → Fin zs H' → RR (.ref D) C (.ok .next) s') :
    wpAny (model X.prog X.w) X.A (newList []) (fun acc s₃ => wpAny (model X.prog X.w) X.A (newFunctionEnv scope X.env.globals cl [] X.env.qual none .none (some X.env)) (fun cenv s₄ =>
      codeAny (model X.prog X.w) X.A (.compStart (.ListComp elt [⟨tg, iter, ifs, 0⟩] scope pos) 0 (.ref it) acc { cenv with scope := relabel scope X.env }) (RR acc cenv.locals) s₄) E s₃) E s₂ := by
  refine wpAny_newObj_type (wpAny_newFunctionEnv ok.nocell (by intro y hy; simp at hy) (fun h₁ hns₁ hsb₁ => ?_) ok.kind)
  dsimp only at hns₁ hsb₁ ⊢
  generalize hH2 : s₂.heap.push { cls := .type "list", dict := none, data := .seq ([] : List Value).toArray } = H2 at hns₁ hsb₁ ⊢
  have hC : H2.objs.size = s₂.heap.objs.size + 1 := by rw [← hH2, Heap.size_push]
  have hDC : s₂.heap.objs.size ≠ H2.objs.size := by rw [hC]; exact Nat.ne_of_lt (Nat.lt_succ_self _)
  have hCle : s₂.heap.objs.size ≤ H2.objs.size := by rw [hC]; exact Nat.le_succ _
  have below : ∀ b, b < s₂.heap.objs.size → b ≠ H2.objs.size ∧ b ≠ s₂.heap.objs.size := fun b hb => ⟨by rw [hC]; exact Nat.ne_of_lt (Nat.lt_succ_of_lt hb), Nat.ne_of_lt hb⟩
  have old : ∀ b o, s₂.heap.get? b = some o → h₁.get? b = some o := fun b o e => hsb₁.extBut b o (below b (Heap.lt_size e)).1 (Heap.get?_push_of_some _ (hH2 ▸ Heap.get?_push_of_some _ e))
  have hacc : h₁.get? s₂.heap.objs.size = some (lstO []) := hsb₁.extBut _ _ hDC (Heap.get?_push_of_some _ (hH2 ▸ Heap.get?_push_size _ rfl))
  have ho := T.obj 0 _ st
  have lt : ∀ b ∈ fp, b < s₂.heap.objs.size := fun b hb => by obtain ⟨o, e, _⟩ := ho b hb; exact Heap.lt_size e
  have loop : ∀ s₃ : Shared, s₃ = { s₂ with heap := h₁, toks := s₂.toks + ([] : List (Str × Value)).length } →
      codeAny (model X.prog X.w) X.A (.compLoop (.ListComp elt [⟨tg, iter, ifs, 0⟩] scope pos) 0 (.ref it) (.ref s₂.heap.objs.size) (compEnvC scope cl H2.objs.size X.env)) (RR (.ref s₂.heap.objs.size) H2.objs.size) s₃ := by
    rintro s₃ rfl
    have I0 : Inv (cxComp X N scope cl H2.objs.size s₂ H fp) [(s₂.heap.objs.size, lstO [])] (cS nt js σ) H { s₂ with heap := h₁, toks := s₂.toks + ([] : List (Str × Value)).length } :=
      inv_comp I ok hcl hcl2 hf ho (Nat.le_refl _) hCle hDC old hns₁ hacc
    have fpy : ∀ {H' : Hp} {ys : List Value}, (∀ b ∈ fp, H' b = none) → ∀ b ∈ fp, FpOk (cxComp X N scope cl H2.objs.size s₂ H fp) [(s₂.heap.objs.size, lstO ys)] H' b := fun {H' ys} hn b hb =>
      ⟨hn b hb, (below b (lt b hb)).1, I0.ok.exfs b hb, .inl hb, (I0.ok.exf b hb).2, fun p hp => by
        have hp' : p ∈ [(s₂.heap.objs.size, lstO ys)] := hp
        have e : p = (s₂.heap.objs.size, lstO ys) := by simpa using hp'
        rw [e]; exact Ne.symm (below b (lt b hb)).2⟩
    refine compLoop_any (fun n s' => ∃ i zs ys H', n = nn - i ∧ i ≤ nn ∧ Inv (cxComp X N scope cl H2.objs.size s₂ H fp) [(s₂.heap.objs.size, lstO ys)] (cS nt js σ) H' s' ∧ Vals zs ys ∧ tn i s'.heap ∧ (∀ b ∈ fp, H' b = none) ∧ W i zs H') ?_ nn
      ⟨0, [], [], H, rfl, Nat.zero_le _, I0, .nil, T.keep 0 _ _ st (fun b _ o e => old b o e), fun b hb => (hf b hb).1, w0⟩
    rintro n s' ⟨i, zs, ys, H', hn0, hile, I', rv, st', fr', w'⟩
    by_cases hlt : i < nn
    case neg =>
      have hie : i = nn := Nat.le_antisymm hile (Nat.not_lt.mp hlt)
      rw [hie] at w' st'
      obtain ⟨stop, zl, fin⟩ := lw.stop zs H' w'
      refine thn (T.done (cxComp X N scope cl H2.objs.size s₂ H fp) rfl rfl rfl hcalm nn _ s' _ H' (fun _ _ => False) I' (fpy fr') st' stop) fun r s4 ⟨hr, I4⟩ => ?_
      subst hr
      have zD := (I4.pin (s₂.heap.objs.size, lstO ys) (List.mem_append_right _ (List.mem_singleton.mpr rfl)))
      have u := I4.base
      have u2 : Un (frs X.stack) fp H (upd H' s₂.heap.objs.size (.lst zs)) s₂.heap s4.heap :=
        ⟨u.keep, u.slot, fun b o q n hx => by rw [upd_ne (Nat.ne_of_lt (Heap.lt_size q))]; exact u.free b o q n hx, u.there, fun b xs q => by rw [upd_ne (ne_of_none (u.tups b xs q) zD.2.1)]; exact u.tups b xs q,
         fun b o xs q => by rw [upd_ne (ne_of_none (u.frzs b o xs q) zD.2.1)]; exact u.frzs b o xs q, fun b ps q => by
           obtain ⟨more, e⟩ := u.tbls b ps q
           exact ⟨more, by rw [upd_ne (ne_of_none e zD.2.1)]; exact e⟩⟩
      have hok2 : HOk X.prog X.w (upd H' s₂.heap.objs.size (.lst zs)) s4.heap := HOk.track I4.hok zD.2.1 ⟨zl, ys, _, rv, zD.1⟩
      have I5 : Inv X pins σ (upd H' s₂.heap.objs.size (.lst zs)) s4 := I.call' I4.os u2 hok2 I4.bare fun b hb => ⟨(hf b hb).2.2.2.1, (hf b hb).2.1, (hf b hb).2.2.2.2.1, (hf b hb).2.2.2.2.2⟩
      obtain ⟨m, hn, _⟩ := I4.loc
      refine hRR _ _ s4 H' zs m I5 hn zD.2.1 ?_ ?_ (Nat.le_trans I.sz hCle) ?_ ?_ fin
      · rw [upd_ne (Ne.symm hDC)]; exact I4.free
      · exact Nat.ne_of_gt (Nat.lt_of_lt_of_le I.lt hCle)
      · intro x c e z
        obtain ⟨v, q⟩ := I.cell x c e
        exact absurd (Nat.lt_of_lt_of_le q.lt (by rw [z]; exact hCle)) (Nat.lt_irrefl _)
      · intro p hp z
        exact absurd (Nat.lt_of_lt_of_le (Heap.lt_size (I.pin p hp).1) (by rw [z]; exact hCle)) (Nat.lt_irrefl _)
    case pos =>
      obtain ⟨go, zl⟩ := lw.go i zs H' hlt w'
      have step := lw.step i zs H'
      refine thn (T.item (cxComp X N scope cl H2.objs.size s₂ H fp) rfl rfl rfl hcalm i _ s' _ H' (fun _ _ => False) I' (fpy fr') st' go) fun r s4 ⟨u, hr, h4⟩ => ?_
      subst hr
      refine thn h4 fun _ s5 ⟨x, H5, I5, r5, y5, st5, fr5⟩ => ?_
      have I5' := I5.pinned (fpy fr5) (T.obj _ _ st5)
      refine thn (hg cl _ s₂ H fp _ s5 _ H5 x u _ I5' r5 (hk _ _ _ _ (step x H5 hlt w' y5))) fun _ s6 ⟨σ6, H6, I6, ⟨hl6, hd6⟩, q6⟩ => ?_
      refine thn (hc cl _ s₂ H fp _ s6 σ6 H6 _ I6 q6) fun okb s7 ⟨H7, I7, q7⟩ => ?_
      have frs' : ∀ {H8 : Hp} {σ8 : St} {s8 : Shared}, Inv (cxComp X N scope cl H2.objs.size s₂ H fp) ([(s₂.heap.objs.size, lstO ys)] ++ pinsAt fp s5.heap) σ8 H8 s8 → tn (i + 1) s8.heap ∧ ∀ b ∈ fp, H8 b = none := fun {H8 σ8 s8} I8 =>
        ⟨T.keep _ _ _ st5 fun b hb o e => (I8.pin (b, o) (List.mem_append_right _ (List.mem_append_right _ (mem_pinsAt hb e)))).1, fun b hb => by
          obtain ⟨o, e, d⟩ := T.obj _ _ st5 b hb
          exact (I8.pin (b, o) (List.mem_append_right _ (List.mem_append_right _ (mem_pinsAt hb e)))).2.1⟩
      cases okb with
      | false =>
        rw [if_neg Bool.false_ne_true] at q7 ⊢
        obtain ⟨a1, a2⟩ := frs' I7
        exact ⟨nn - (i + 1), by rw [hn0]; exact Nat.sub_lt_sub_left hlt (Nat.lt_succ_self i), i + 1, zs, ys, H7, rfl, hlt, I7.unpinned.weak (by rw [hl6]) (cS_weak hl6 hd6), rv, a1, a2, q7⟩
      | true =>
        rw [if_pos rfl] at q7 ⊢
        refine thn (he cl _ s₂ H fp _ s7 σ6 H7 _ I7 q7) fun v s8 ⟨y, H8, I8, r8, q8⟩ => ?_
        have zD := (I8.pin (s₂.heap.objs.size, lstO ys) (List.mem_append_right _ (List.mem_append_left _ (List.mem_singleton.mpr rfl))))
        have ylen : ys.length < sizeLine := by rw [← rv.length]; exact zl
        obtain ⟨a1, a2⟩ := frs' I8
        refine append_at (hsz := by rw [List.size_toArray]; exact Nat.le_of_lt ylen) zD.1 fun h9 hs9 hD9 => ?_
        have I8u : Inv (cxComp X N scope cl H2.objs.size s₂ H fp) [] (cS nt js σ) H8 s8 := (I8.pins_of (pins' := []) fun p hp => nomatch hp).weak (by rw [hl6]) (cS_weak hl6 hd6)
        have I9 : Inv (cxComp X N scope cl H2.objs.size s₂ H fp) [] (cS nt js σ) H8 { s8 with heap := h9 } := I8u.turned (t' := s8.toks) (it := s₂.heap.objs.size) (fun b o hb e => hs9.extBut b o hb e) zD.2.1 hDC (.inr (Nat.le_refl _))
          (fun x c e z => by
            obtain ⟨v, q⟩ := I.cell x c (hcl x c e)
            exact absurd (Nat.lt_of_lt_of_le q.lt (by rw [z]; exact Nat.le_refl _)) (Nat.lt_irrefl _)) (fun p hp => nomatch hp)
        refine ⟨nn - (i + 1), by rw [hn0]; exact Nat.sub_lt_sub_left hlt (Nat.lt_succ_self i), i + 1, zs ++ [y], ys ++ [v], H8, rfl, hlt, I9.pins_of (fun p hp => ?_), rv.snoc r8, T.keep _ _ _ a1 fun b hb o e => hs9.extBut b o (below b (lt b hb)).2 e, a2, q8⟩
        have e : p = (s₂.heap.objs.size, lstO (ys ++ [v])) := by simpa using hp
        subst e
        refine ⟨?_, zD.2.1, hDC, zD.2.2.2.1, fun v z => by cases z⟩
        rw [hD9]
        show some ({ cls := .type "list", data := .seq (ys.toArray.push v) (ys.length + 1) } : Obj) = some { cls := .type "list", data := .seq (ys ++ [v]).toArray (ys ++ [v]).length }
        rw [List.length_append, List.length_singleton, List.push_toArray]
  exact codeAny_compStart_list (loop _ rfl) (T.self _ 0 _ _ _ (T.keep 0 _ _ st (fun b _ o e => old b o e)) (loop _ rfl))

/-- [elt for tg in iter if ..] as a value -/
theorem pe_lc (hcalm : X.calm = true) (ok : CompOk X N nt js scope) (hi : PI X tg iter wi) (hg : ∀ cl C s H fp, PG (cxComp X N scope cl C s H fp) tg g) (hk : Stays g nt) (hc : ∀ cl C s H fp, PTs (cxComp X N scope cl C s H fp) ifs tc)
    (he : ∀ cl C s H fp, PE (cxComp X N scope cl C s H fp) elt te) (hs : ∀ x, foldedSetIterable iter X.env x = pure x := by intro _; rfl) : PE X (.ListComp elt [⟨tg, iter, ifs, 0⟩] scope pos) (tLC wi nt js g tc te) := by
  intro pins s σ H Q I h
  obtain ⟨cl, hclos, hcl, hcl2⟩ := closureFor_ok (scope := scope) (env := X.env) fun x hx hf => I.ok.has x.1 (ok.free x hx hf)
  rw [eval_ListComp]
  refine wpAny_comprehension_free (use := none) rfl hs hclos ok.kind ok.names ?_
  refine thn (hi pins s σ H _ I (lc_to h)) fun v s1 h1 => thn h1 fun itv s2 h2 => ?_
  obtain ⟨it, fp, tn, J, H2, e, I2, T, st2, f2, nn, W, w0, lw⟩ := h2
  subst e
  refine comp_run (RR := fun acc C => compPost (model X.prog X.w) X.A X.xe none (EP X pins σ Q) acc C) hcalm ok hcl hcl2 hg hk hc he I2 T st2 f2 w0 lw ?_
  intro D C s' H' zs m I3 hn hDn hCn hCL hC0 hCc hCp fin
  exact ⟨m, hn, fun h'' hs'' => ⟨.ref D, _, I3.turned (t' := s'.toks) (it := C) (fun b o hb e => hs''.extBut b o hb e) hCn hCL (.inr hC0) hCc hCp, rfl, fin D hDn⟩⟩

/-- name = [..], where the store and the leaving of the block change places -/
theorem ps_lc {i : Nat} {y : Str} {py spos : Pos} (hcalm : X.calm = true) (hN : X.N.Nodup) (hi' : X.N[i]? = some y) (hy : X.env.kindOf y = some .local) (ok : CompOk X N nt js scope) (hi : PI X tg iter wi) (hg : ∀ cl C s H fp, PG (cxComp X N scope cl C s H fp) tg g) (hk : Stays g nt)
    (hc : ∀ cl C s H fp, PTs (cxComp X N scope cl C s H fp) ifs tc) (he : ∀ cl C s H fp, PE (cxComp X N scope cl C s H fp) elt te)
    (hsw : swapsWith (.ListComp elt [⟨tg, iter, ifs, 0⟩] scope pos) (some (.Name y py)) spos.line X.env = pure true) (hs : ∀ x, foldedSetIterable iter X.env x = pure x := by intro _; rfl) :
    PS X (.Assign [.Name y py] (.ListComp elt [⟨tg, iter, ifs, 0⟩] scope pos) spos) (tAsg (tLC wi nt js g tc te) (gName i)) := by
  intro pins s σ H D₀ I h
  obtain ⟨cl, hclos, hcl, hcl2⟩ := closureFor_ok (scope := scope) (env := X.env) fun x hx hf => I.ok.has x.1 (ok.free x hx hf)
  rw [exec_Assign_Name_used _ _ _ _ hsw]
  refine wpAny_bind (wpAny_standAt (wpAny_bind ?_))
  show wpAny _ X.A (do let _ ← comprehension (.ListComp elt [⟨tg, iter, ifs, 0⟩] scope pos) scope X.env _ (newList []) false (eval iter X.env) (some (assign (.Name y py) X.env))) _ _ s
  refine wpAny_bind (wpAny_mono (wpAny_comprehension_free (use := some (assign (.Name y py) X.env)) (Q := fun _ s' => SP X pins D₀ .next s') rfl hs hclos ok.kind ok.names
    (thn (hi pins s σ H _ I (lc_to (show tLC wi nt js g tc te σ H fun x H1 => gName i x σ H1 D₀.nx from h))) fun v s1 h1 => thn h1 fun itv s2 h2 => ?_)) (fun _ s' hq => wpAny_pure (wpAny_pure hq)) fun _ _ e => e)
  obtain ⟨it, fp, tn, J, H2, e, I2, T, st2, f2, nn, W, w0, lw⟩ := h2
  subst e
  refine comp_run (RR := fun acc C => compPost (model X.prog X.w) X.A X.xe (some (assign (.Name y py) X.env)) (fun _ s' => SP X pins D₀ .next s') acc C) hcalm ok hcl hcl2 hg hk hc he I2 T st2 f2 w0 lw ?_
  intro D C s' H' zs m I3 hn hDn hCn hCL hC0 hCc hCp fin
  show wpAny _ X.A (assign (.Name y py) X.env (.ref D)) _ _ _
  refine wpAny_assign_Name (store_ok2 (v := .ref D) I3 hN hi' (.inl hy) rfl (fun s3 I4 hsb => ?_) (.inr hy))
  obtain ⟨a, hsb, ha⟩ := hsb
  have haC : C ≠ a := by
    rcases ha with z | z
    · rw [z]; exact hCL
    · exact Ne.symm (hCc y a z)
  refine ⟨m, hn.sameBut hsb haC, fun h'' hs'' => ?_⟩
  exact ⟨_, _, I4.turned (t' := s3.toks) (it := C) (fun b o hb e => hs''.extBut b o hb e) hCn hCL (.inr hC0) hCc hCp, fin D hDn⟩
end

end L2

/-! own layer, part 3: more operations -/
namespace L2
open PySem PySem.Spec PyProof.Rows

/-! ### sizes: an int of at most n bits -/
def Bd (n : Nat) (x : Int) : Prop := x.natAbs < 2 ^ n
theorem Bd.bits {n : Nat} {x : Int} (h : Bd n x) : Builtin.Int.intBits x ≤ n := PySem.intBits_le_iff.mpr h
/-- a product is small enough -/
def MulOk (i j : Int) : Prop := ∃ m n, Bd m i ∧ Bd n j ∧ m + n ≤ 134217728
theorem MulOk.ok {i j : Int} (h : MulOk i j) : IntMulOk i j := by
  obtain ⟨m, n, h1, h2, h3⟩ := h
  exact PySem.IntMulOk.of_le h1.bits h2.bits h3
section
variable {X : Cx}
/-- // by any number but nought: the frames have room for _pylong, and nobody sees it -/
theorem op_fdivX {k : Nat} (hr : Room k X.A) (hT : X.prog.given.tree = none) (hk : 32 ≤ k := by decide)
    (hst : ∃ (env : Env) (l : List Env), X.stack = env :: l ∧ env.scope.isGenerator = false ∧ env.scope.isCoroutine = false ∧ env.builtins = builtinsNs ∧ env.globals = mainGlobals := by exact ⟨_, _, rfl, rfl, rfl, rfl, rfl⟩) :
    OpR X (binaryOp .FloorDiv) (rI (fun _ j => j ≠ 0) fun i j => .int (i.fdiv j)) := by
  intro pins s σ H x y v u Q I rx ry h
  obtain ⟨i, j, rfl, rfl, hc, q⟩ := h
  obtain ⟨t, rfl⟩ := rx
  obtain ⟨t', rfl⟩ := ry
  obtain ⟨env, l, e1, e2, e3, e4, e5⟩ := hst
  have hd : X.A.depth + Builtin.pylongFrames < recursionLimit := by
    have := hr.dp
    have e : Builtin.pylongFrames ≤ 101 := by decide
    lia
  refine floordiv_int hc ⟨.int (i.fdiv j), H, I.tok _, ⟨_, rfl⟩, q⟩ (.inr (PySem.PylongRoom.of I.nolimit hd (PySem.SeerAt.of (I.ok.mod.seer.keeps I.bk) hT (by rw [I.ok.frames, e1]) e2 e3 e4 e5)))
end

/-! ### a def of the text, as a caller takes it -/
structure Fd (P : Program) (w : World) (K : PySem.W.Frag) (mg : Str → Option Value) (base : Heap) (n : Nat) (x : Str) (ps : List Str) (sp : Sp) : Prop where
  ex : ∃ (f : Addr) (fd : FuncData), FnOk P w K mg base CX0 n f fd ps sp ∧ Binds K fd ps [] ∧ PySem.W.keepIn K (.ref f) = true ∧ mg x = some (.ref f)
theorem pe_fn {X : Cx} {n k : Nat} {x : Str} {ps : List Str} {sp : Sp} {e : Expr} {es : List Expr} {t : TA} {p pos : Pos} (F : Fd X.prog X.w X.K X.mg X.base n x ps sp) (hr : Room k X.A) (hg : Gl X x) (ha : PA X (e :: es) t) (hn : n ≤ k := by decide)
    (hdb : (x == ("__debug__" : Str)) = false := by decide) (he : starEach (e :: es) X.env = (false, eval e X.env) :: starEach es X.env := by rfl) (hpl : (backTo pos (starEach es X.env)).any (·.1) = false := by rfl) :
    PE X (.Call (.Name x p) (e :: es) [] pos) (tCall sp [] E0 t) := by
  obtain ⟨f, fd, F1, F2, F3, F4⟩ := F.ex
  exact pe_call F1 (hr.mono hn) hg F4 F3 F2 .nil pass0 ha hdb he hpl
/-! ### == and != of things with things in them -/
/-- what stands at a value, all the way down -/
inductive Rds (K : PySem.W.Frag) (H : Hp) : V → PyData → Prop where
  | non : Rds K H .non .none
  | bl (b : Bool) : Rds K H (.bl b) (.bool b)
  | int (i : Int) : Rds K H (.int i) (.int i)
  | str (x : Str) : Rds K H (.str x) (.str x)
  | lst {a : Addr} {xs : List V} {ds : List PyData} : SqL K H a xs → xs.length = ds.length → (∀ (i : Nat) x d, xs[i]? = some x → ds[i]? = some d → Rds K H x d) → Rds K H (.ref a) (.list ds)
  | tup {a : Addr} {xs : List V} {ds : List PyData} : SqT K H a xs → xs.length = ds.length → (∀ (i : Nat) x d, xs[i]? = some x → ds[i]? = some d → Rds K H x d) → Rds K H (.ref a) (.tuple ds)
theorem readsAll_of {h : Heap} : ∀ {us : List Value} {xs : List V} {ds : List PyData}, Vals xs us → xs.length = ds.length → (∀ (i : Nat) x d u, xs[i]? = some x → ds[i]? = some d → RelV x u → ∃ as, Reads h u d as) → ∃ as, ReadsAll h us ds as
  | [], _, [], .nil, _, _ => ⟨[], .nil⟩
  | [], _, _ :: _, .nil, hl, _ => by simp at hl
  | _ :: _, _, [], .cons _ _, hl, _ => by simp at hl
  | u :: us, x :: xs, d :: ds, .cons r t, hl, hr => by
    obtain ⟨a1, r1⟩ := hr 0 x d u rfl rfl r
    obtain ⟨a2, r2⟩ := readsAll_of (us := us) (xs := xs) (ds := ds) t (by simpa using hl) fun i x' d' u' e1 e2 q => hr (i + 1) x' d' u' (by simpa using e1) (by simpa using e2) q
    exact ⟨_, .cons r1 r2⟩
theorem reads_of {X : Cx} {pins : List (Addr × Obj)} {σ : St} {H : Hp} {s : Shared} (I : Inv X pins σ H s) {x : V} {d : PyData} (r : Rds X.K H x d) : ∀ {u : Value}, RelV x u → ∃ as, Reads s.heap u d as := by
  induction r with
  | non => intro u ru; cases ru; exact ⟨_, .none⟩
  | bl b => intro u ru; cases ru; exact ⟨_, .bool b⟩
  | int i => intro u ru; obtain ⟨t, rfl⟩ := ru; exact ⟨_, .int i t⟩
  | str z => intro u ru; obtain ⟨t, rfl⟩ := ru; exact ⟨_, .str z t⟩
  | lst q hl _ ih =>
    intro u ru
    cases ru
    obtain ⟨its, rv, ⟨o, n, e, c, _, dd⟩, _⟩ := I.list q
    obtain ⟨as, ra⟩ := readsAll_of rv hl fun i x d u e1 e2 rr => ih i x d e1 e2 rr
    exact ⟨_, .list e c dd (by simpa using ra)⟩
  | tup q hl _ ih =>
    intro u ru
    cases ru
    obtain ⟨its, rv, ⟨o, e, c, n, dd⟩, _⟩ := I.tuple q
    obtain ⟨as, ra⟩ := readsAll_of rv hl fun i x d u e1 e2 rr => ih i x d e1 e2 rr
    exact ⟨_, .tuple e c dd (by simpa using ra)⟩
section
variable {X : Cx}
@[irreducible] def rEqD (K : PySem.W.Frag) (neg : Bool) : R2 := fun x y H Q => ∃ d e, Rds K H x d ∧ Rds K H y e ∧ SeqAt.shaped d = true ∧ SeqAt.shaped e = true ∧ Q (.bl (if neg then !PyData.eqv d e else PyData.eqv d e)) H
theorem eqD_of {K : PySem.W.Frag} {neg : Bool} {x y : V} {H : Hp} {Q : VK} (h : ∃ d e, Rds K H x d ∧ Rds K H y e ∧ SeqAt.shaped d = true ∧ SeqAt.shaped e = true ∧ Q (.bl (if neg then !PyData.eqv d e else PyData.eqv d e)) H) : rEqD K neg x y H Q := by
  unfold rEqD; exact h
theorem op_eqD (hu : X.A.units + 64 < cLine) : OpR X (compareOp .Eq) (rEqD X.K false) := by
  intro pins s σ H x y v u Q I rx ry h
  unfold rEqD at h
  obtain ⟨d, e, r1, r2, h1, h2, q⟩ := h
  obtain ⟨as, q1⟩ := reads_of I r1 rx
  obtain ⟨bs, q2⟩ := reads_of I r2 ry
  exact SeqAt.compareEq_shaped q1 q2 h1 h2 hu ⟨.bl _, H, I, rfl, q⟩
theorem op_neD (hu : X.A.units + 64 < cLine) : OpR X (compareOp .NotEq) (rEqD X.K true) := by
  intro pins s σ H x y v u Q I rx ry h
  unfold rEqD at h
  obtain ⟨d, e, r1, r2, h1, h2, q⟩ := h
  obtain ⟨as, q1⟩ := reads_of I r1 rx
  obtain ⟨bs, q2⟩ := reads_of I r2 ry
  exact SeqAt.compareNe_shaped q1 q2 h1 h2 hu ⟨.bl _, H, I, rfl, q⟩
end

/-! ### {} -/
end L2

/-! own layer, part 4: names of built-ins, a small ledger, numbers -/
namespace L2
open PySem PySem.Spec PyProof.Rows
theorem bt_len : bootBuiltins "len" = some (.builtin "len") := by decide +kernel
theorem bt_abs : bootBuiltins "abs" = some (.builtin "abs") := by decide +kernel
theorem bt_isinstance : bootBuiltins "isinstance" = some (.builtin "isinstance") := by decide +kernel
theorem bt_all : bootBuiltins "all" = some (.builtin "all") := by decide +kernel
theorem bt_list : bootBuiltins "list" = some (.type "list") := by decide +kernel
theorem bt_tuple : bootBuiltins "tuple" = some (.type "tuple") := by decide +kernel
theorem bt_int : bootBuiltins "int" = some (.type "int") := by decide +kernel
theorem bt_bool : bootBuiltins "bool" = some (.type "bool") := by decide +kernel
/-! ### a small ledger: what stands where -/
def Fx (H : Hp) (L : List (Addr × HO)) : Prop := ∀ p ∈ L, H p.1 = some p.2
/-- all but a stays as it was; there may be more -/
def Mv (a : Addr) (H H' : Hp) : Prop := ∀ b o, b ≠ a → H b = some o → H' b = some o
theorem Mv.refl (a : Addr) (H : Hp) : Mv a H H := fun _ _ _ h => h
theorem Mv.trans {a : Addr} {H H1 H2 : Hp} (x : Mv a H H1) (y : Mv a H1 H2) : Mv a H H2 := fun b o n h => y b o n (x b o n h)
theorem Mv.new {a p : Addr} {H : Hp} {o : HO} (h : H p = none) : Mv a H (upd H p o) := fun b u _ q => by rw [upd_ne (ne_of_none q h)]; exact q
/-- an item of a list of ints -/
theorem at_ints {ns : List Int} {k : Int} (h0 : 0 ≤ k) (h : k < (ns.length : Int)) : ∃ v : Int, atI (ns.map V.int) k = some (.int v) := by
  have hk : k.toNat < ns.length := by lia
  have ek : k = ((k.toNat : Nat) : Int) := by lia
  have q : atI (ns.map V.int) ((k.toNat : Nat) : Int) = some (.int ns[k.toNat]) := atI_nat (by rw [List.getElem?_map, List.getElem?_eq_getElem hk] <;> rfl)
  rw [← ek] at q
  exact ⟨_, q⟩

/-! ### a number -/
def nT (q : Rat) : HO := .tup [.int q.num, .int q.den]
/-- the pen of the draws -/
def Pen (H : Hp) (a : Addr) : Prop := ∃ c0 c1 c2 : Int, H a = some (.lst [.int c0, .int c1, .int c2])
theorem Pen.same {H : Hp} {a p : Addr} {o : HO} (x : Pen H a) (h : H p = none) : Pen (upd H p o) a := by
  obtain ⟨c0, c1, c2, e⟩ := x
  exact ⟨c0, c1, c2, by rw [upd_ne (ne_of_none e h)]; exact e⟩
theorem Pen.put {H : Hp} {a : Addr} {c0 c1 c2 : Int} : Pen (upd H a (.lst [.int c0, .int c1, .int c2])) a := ⟨c0, c1, c2, upd_same⟩

/-- a product: one factor is small, or both are of known size -/
def MulC (i j : Int) : Prop := (-(2 ^ 64) < i ∧ i < 2 ^ 64) ∨ (-(2 ^ 64) < j ∧ j < 2 ^ 64) ∨ MulOk i j
theorem MulC.ok {i j : Int} (h : MulC i j) : IntMulOk i j := by
  rcases h with ⟨h1, h2⟩ | ⟨h1, h2⟩ | h
  · exact .of_left (intBits_le_64 h1 h2)
  · exact .of_right (intBits_le_64 h1 h2)
  · exact h.ok
theorem op_mulC {X : Cx} : OpR X (binaryOp .Mult) (rI MulC fun i j => .int (i * j)) := opI fun _ _ _ _ _ _ _ hc q => mul_int q hc.ok

/-- a alone has changed -/
def OnlyAt (a : Addr) (H H' : Hp) : Prop := ∀ b, b ≠ a → H' b = H b
theorem OnlyAt.mv {a : Addr} {H H' : Hp} (x : OnlyAt a H H') : Mv a H H' := fun b o n h => by rw [x b n]; exact h
theorem OnlyAt.put {a : Addr} {H : Hp} {o : HO} : OnlyAt a H (upd H a o) := fun b n => upd_ne n
theorem Pen.ne {H : Hp} {a p : Addr} {o : HO} (x : Pen H a) (h : H p = some o) (hd : ∀ c0 c1 c2 : Int, o ≠ .lst [.int c0, .int c1, .int c2]) : p ≠ a := by
  obtain ⟨c0, c1, c2, e⟩ := x
  exact ne_of h e (hd c0 c1 c2)
/-- a pen and what else stands -/
structure Lg (a : Addr) (H : Hp) (L : List (Addr × HO)) : Prop where
  fx : Fx H L
  ne : ∀ x ∈ L, x.1 ≠ a
  pen : Pen H a
theorem nT_ne (q : Rat) : ∀ c0 c1 c2 : Int, nT q ≠ .lst [.int c0, .int c1, .int c2] := fun _ _ _ z => by cases z
/-- an item of a written list of ints -/
theorem at_menu {xs : List Int} {i : Int} (h0 : 0 ≤ i) (h : i < (xs.length : Int)) : ∃ v : Int, atI (xs.map V.int) i = some (.int v) ∧ v ∈ xs := by
  have hk : i.toNat < xs.length := by lia
  have ek : i = ((i.toNat : Nat) : Int) := by lia
  have q : atI (xs.map V.int) ((i.toNat : Nat) : Int) = some (.int xs[i.toNat]) := atI_nat (by rw [List.getElem?_map, List.getElem?_eq_getElem hk] <;> rfl)
  rw [← ek] at q
  exact ⟨_, q, List.getElem_mem hk⟩

/-- what the promises of the draws' defs say -/
inductive spDraw (vs : List V) (H : Hp) (Q : VK) (E_3 : XK) : Prop
  | mk (a : Addr) (m : Int) (h1 : vs = [.ref a, .int m]) (h2 : Pen H a) (h3 : 1 ≤ m) (h4 : m < 1073741824) (h5 : ∀ (d : Int) (H' : Hp), 0 ≤ d → d < m → OnlyAt a H H' → Pen H' a → Q (.int d) H') : spDraw vs H Q E_3
inductive spPen (K : PySem.W.Frag) (vs : List V) (H : Hp) (Q : VK) (E_3 : XK) : Prop
  | mk (a : Addr) (ns : List Int) (k : Int) (h1 : vs = [.ref a, .int k]) (h2 : SqL K H a (ns.map V.int)) (h3 : ns.length ≤ 63) (h4 : 0 ≤ k) (h5 : k < 2 ^ 62) (h6 : ∀ (p : Addr) (c0 c1 : Int), H p = none → Q (.ref p) (upd H p (.lst [.int c0, .int c1, .int 0]))) : spPen K vs H Q E_3
inductive spLow (vs : List V) (H : Hp) (Q : VK) (E_3 : XK) : Prop
  | mk (t b : Int) (h1 : vs = [.int t, .int b]) (h2 : b ≠ 0) (h3 : ∀ p, H p = none → Q (.ref p) (upd H p (nT (Rat.divInt t b)))) : spLow vs H Q E_3
inductive spGcd (vs : List V) (H : Hp) (Q : VK) (E_3 : XK) : Prop
  | mk (a b : Int) (h1 : vs = [.int a, .int b]) (h2 : Q (.int (Int.gcd a b)) H) : spGcd vs H Q E_3
/-- a drawn number: its top and bottom are of at most n bits -/
inductive spNum (n : Nat) (vs : List V) (H : Hp) (Q : VK) (E_3 : XK) : Prop
  | mk (a : _) (h1 : vs = [.ref a]) (h2 : Pen H a) (h3 : ∀ (q : Rat) (r : Addr) (H' : Hp), Mv a H H' → Pen H' a → H' r = some (nT q) → Bd n q.num → Bd n q.den → Q (.ref r) H') : spNum n vs H Q E_3
inductive spLaw (K : PySem.W.Frag) (vs : List V) (H : Hp) (Q : VK) (E_3 : XK) : Prop
  | mk (a : Addr) (ns : List Int) (h1 : vs = [.ref a]) (h2 : SqL K H a (ns.map V.int)) (h3 : ns.length ≤ 63) (h4 : ∀ H', Q (.bl true) H') : spLaw K vs H Q E_3
/-- the int in slot i, as a measure -/
def mu (i : Nat) (σ : St) : Nat := match σ[i]? with | some (some (.int y)) => y.toNat | _ => 0

theorem Bd.mono {m n : Nat} {x : Int} (h : Bd m x) (hmn : m ≤ n) : Bd n x := Nat.lt_of_lt_of_le h (Nat.pow_le_pow_right (by decide) hmn)
theorem Bd.num {n : Nat} {t b : Int} (h : Bd n t) : Bd n (Rat.divInt t b).num := by
  unfold Bd at *
  by_cases hb : b = 0
  · subst hb; simp; exact Nat.pos_of_ne_zero (by simp)
  · rw [← Nm.top_msr hb]
    exact Nat.lt_of_le_of_lt (PySem.natAbs_fdiv_le t _) h
theorem Bd.den {n : Nat} {t b : Int} (hb : b ≠ 0) (h : Bd n b) : Bd n (Rat.divInt t b).den := by
  unfold Bd at *
  rw [← Nm.bottom_msr hb]
  exact Nat.lt_of_le_of_lt (PySem.natAbs_fdiv_le b _) h
end L2

/-! own layer, part 5: more of what loops walk, all, lists of truths -/
namespace L2
open PySem PySem.Spec PyProof.Rows
/-! ### reversed(a list) -/
section
variable {X : Cx} {tg : Expr}
end
/-! ### all of a list of truths -/
theorem call_allB {X : Cx} (hc : X.calm = true) : CallR X (.builtin "all") (fun xs H Q => ∃ (a : Addr) (bs : List Bool), xs = [.ref a] ∧ SqL X.K H a (bs.map V.bl) ∧ Q (.bl (bs.all id)) H) := by
  intro pins s σ H xs us Q I r h
  obtain ⟨a, bs, rfl, hq, q⟩ := h
  obtain ⟨u, rfl, rfl⟩ := vals1 r
  obtain ⟨its, rv, p, hz⟩ := I.list hq
  have hl := rv.length
  rw [List.length_map] at hl
  have hlt : a < s.heap.objs.size := by obtain ⟨_, e, _⟩ := p.isList; exact Heap.lt_size e
  refine call_all_walk (wpAny_pyIter_list p.isList ?_)
  refine ⟨s.heap.objs.size, [s.heap.objs.size, a], [s.heap.objs.size], its.toArray.size, _, _, fun i => (bs[i]?).getD true, rfl, Walks.list (A := X.A.in1) (I.ok.hd hc) _ a (Nat.ne_of_lt hlt) its.toArray,
    ⟨⟨_, Heap.get?_push_size _ rfl, rfl, rfl⟩, p.isList.push _⟩, fun i v s' Q' E' hP hQ => ?_, fun h' tk hk => ?_⟩
  · have hP' : its[i]? = some v := by simpa using hP
    have hi : i < bs.length := by rw [hl]; exact (List.getElem?_eq_some_iff.mp hP').1
    obtain ⟨u', hu', ru⟩ := rv.get (i := i) (x := .bl bs[i]) (by rw [List.getElem?_map, List.getElem?_eq_getElem hi]; rfl)
    rw [hP'] at hu'
    cases hu'
    cases ru
    dsimp only at hQ
    rw [List.getElem?_eq_getElem hi, Option.getD_some] at hQ
    exact wpAny_truthy_bool hQ
  · have e : ((List.range its.toArray.size).all fun i => (bs[i]?).getD true) = bs.all id := by
      rw [List.size_toArray, ← hl, Bool.eq_iff_iff, List.all_eq_true, List.all_eq_true]
      constructor
      · intro z b hb
        obtain ⟨i, hi, rfl⟩ := List.getElem_of_mem hb
        have := z i (List.mem_range.mpr hi)
        rw [List.getElem?_eq_getElem hi, Option.getD_some] at this
        exact this
      · intro z i hi
        have hi' := List.mem_range.mp hi
        rw [List.getElem?_eq_getElem hi', Option.getD_some]
        exact z _ (List.getElem_mem hi')
    rw [e]
    exact ⟨.bl _, H, I.kept (fun b o e => hk b o (fun hm => by rw [List.mem_singleton.mp hm] at e; exact Nat.lt_irrefl _ (Heap.lt_size e)) (Heap.get?_push_of_some _ e)), rfl, q⟩
end L2

/-! own layer, part 6: numbers and curves on the heap -/
namespace L2
open PySem PySem.Spec PyProof.Rows
theorem SqT.same {K : PySem.W.Frag} {H H' : Hp} {a : Addr} {xs : List V} (h : SqT K H a xs) (e : Same H H') : SqT K H' a xs := by
  rcases h with (h | ⟨o, h⟩) | h
  · exact .inl (.inl (e _ _ h))
  · exact .inl (.inr ⟨o, e _ _ h⟩)
  · exact .inr h
theorem Same.new {H : Hp} {p : Addr} {o : HO} (h : H p = none) : Same H (upd H p o) := fun b u q => by rw [upd_ne (ne_of_none q h)]; exact q
theorem Same.mv {H H' : Hp} {a : Addr} (h : Same H H') : Mv a H H' := fun b o _ q => h b o q

/-! ### pairs of lists -/
theorem Paired.get {α β : Type} {F : α → β → Prop} : ∀ {l₁ : List α} {l₂ : List β} {i : Nat} {a : α}, Paired F l₁ l₂ → l₁[i]? = some a → ∃ b, l₂[i]? = some b ∧ F a b
  | _, _, _, _, .nil, e => by simp at e
  | _, _, 0, _, .cons h _, e => by simp at e; subst e; exact ⟨_, rfl, h⟩
  | _, _, i + 1, _, .cons _ t, e => by
    obtain ⟨b, h1, h2⟩ := Paired.get (i := i) t (by simpa using e)
    exact ⟨b, by simpa using h1, h2⟩
theorem Paired.get' {α β : Type} {F : α → β → Prop} : ∀ {l₁ : List α} {l₂ : List β} {i : Nat} {b : β}, Paired F l₁ l₂ → l₂[i]? = some b → ∃ a, l₁[i]? = some a ∧ F a b
  | _, _, _, _, .nil, e => by simp at e
  | _, _, 0, _, .cons h _, e => by simp at e; subst e; exact ⟨_, rfl, h⟩
  | _, _, i + 1, _, .cons _ t, e => by
    obtain ⟨b, h1, h2⟩ := Paired.get' (i := i) t (by simpa using e)
    exact ⟨b, by simpa using h1, h2⟩
theorem Paired.take {α β : Type} {F : α → β → Prop} : ∀ {l₁ : List α} {l₂ : List β} (n : Nat), Paired F l₁ l₂ → Paired F (l₁.take n) (l₂.take n)
  | _, _, 0, _ => by simp; exact .nil
  | _, _, _ + 1, .nil => .nil
  | _, _, n + 1, .cons h t => .cons h (Paired.take n t)
theorem Paired.append {α β : Type} {F : α → β → Prop} {l₁ l₁' : List α} {l₂ l₂' : List β} (a : Paired F l₁ l₂) (b : Paired F l₁' l₂') : Paired F (l₁ ++ l₁') (l₂ ++ l₂') := by
  induction a with
  | nil => exact b
  | cons h t ih => exact .cons h ih
/-! ### a number, numbers -/
def NumV (K : PySem.W.Frag) (H : Hp) (x : V) (q : Rat) : Prop := ∃ r, x = .ref r ∧ SqT K H r [.int q.num, .int q.den]
abbrev Nums (K : PySem.W.Frag) (H : Hp) : List V → List Rat → Prop := Paired (NumV K H)
theorem NumV.of {K : PySem.W.Frag} {H : Hp} {r : Addr} {q : Rat} (h : H r = some (nT q)) : NumV K H (.ref r) q := ⟨r, rfl, SqT.of h⟩
theorem NumV.same {K : PySem.W.Frag} {H H' : Hp} {x : V} {q : Rat} (h : NumV K H x q) (e : Same H H') : NumV K H' x q := by
  obtain ⟨r, rfl, h⟩ := h
  exact ⟨r, rfl, h.same e⟩
theorem Nums.same {K : PySem.W.Frag} {H H' : Hp} {xs : List V} {qs : List Rat} (h : Nums K H xs qs) (e : Same H H') : Nums K H' xs qs := Paired.mapP h fun _ _ z => z.same e
/-- a pen changes, numbers stay -/
theorem SqT.mv {K : PySem.W.Frag} {H H' : Hp} {a p : Addr} {xs : List V} (h : SqT K H a xs) (pn : Pen H p) (m : Mv p H H') : SqT K H' a xs := by
  obtain ⟨c0, c1, c2, e⟩ := pn
  rcases h with (h | ⟨o, h⟩) | h
  · exact .inl (.inl (m _ _ (ne_of h e (fun z => by cases z)) h))
  · exact .inl (.inr ⟨o, m _ _ (ne_of h e (fun z => by cases z)) h⟩)
  · exact .inr h
theorem NumV.mv {K : PySem.W.Frag} {H H' : Hp} {x : V} {q : Rat} {p : Addr} (h : NumV K H x q) (pn : Pen H p) (m : Mv p H H') : NumV K H' x q := by
  obtain ⟨r, rfl, h⟩ := h
  exact ⟨r, rfl, h.mv pn m⟩
theorem Nums.mv {K : PySem.W.Frag} {H H' : Hp} {xs : List V} {qs : List Rat} {p : Addr} (h : Nums K H xs qs) (pn : Pen H p) (m : Mv p H H') : Nums K H' xs qs := Paired.mapP h fun _ _ z => z.mv pn m
/-- a list is written, numbers stay -/
theorem SqT.put {K : PySem.W.Frag} {H : Hp} {a p : Addr} {xs ys : List V} {o : HO} (h : SqT K H a xs) (hp : H p = some (.lst ys)) : SqT K (upd H p o) a xs := by
  rcases h with (h | ⟨u, h⟩) | h
  · exact .inl (.inl (by rw [upd_ne (ne_of h hp (fun z => by cases z))]; exact h))
  · exact .inl (.inr ⟨u, by rw [upd_ne (ne_of h hp (fun z => by cases z))]; exact h⟩)
  · exact .inr h
theorem NumV.put {K : PySem.W.Frag} {H : Hp} {x : V} {q : Rat} {p : Addr} {ys : List V} {o : HO} (h : NumV K H x q) (hp : H p = some (.lst ys)) : NumV K (upd H p o) x q := by
  obtain ⟨r, rfl, h⟩ := h
  exact ⟨r, rfl, h.put hp⟩
theorem Nums.put {K : PySem.W.Frag} {H : Hp} {xs : List V} {qs : List Rat} {p : Addr} {ys : List V} {o : HO} (h : Nums K H xs qs) (hp : H p = some (.lst ys)) : Nums K (upd H p o) xs qs := Paired.mapP h fun _ _ z => z.put hp
/-- a tuple of numbers; a list of numbers -/
def Crv (K : PySem.W.Frag) (H : Hp) (r : Addr) (qs : List Rat) : Prop := ∃ xs, SqT K H r xs ∧ Nums K H xs qs
theorem Crv.same {K : PySem.W.Frag} {H H' : Hp} {r : Addr} {qs : List Rat} (h : Crv K H r qs) (e : Same H H') : Crv K H' r qs := let ⟨xs, a, b⟩ := h; ⟨xs, a.same e, b.same e⟩
/-! ### == of numbers, of lists and tuples of numbers -/
def nD (q : Rat) : PyData := .tuple [.int q.num, .int q.den]
theorem NumV.rds {K : PySem.W.Frag} {H : Hp} {x : V} {q : Rat} (h : NumV K H x q) : Rds K H x (nD q) := by
  obtain ⟨r, rfl, h⟩ := h
  refine .tup h rfl fun i x d e1 e2 => ?_
  match i with
  | 0 => simp at e1 e2; subst e1; subst e2; exact .int _
  | 1 => simp at e1 e2; subst e1; subst e2; exact .int _
  | i + 2 => simp at e1
theorem nD_eqv (p q : Rat) : PyData.eqv (nD p) (nD q) = decide (p = q) := by
  show (p.num == q.num && (((p.den : Int) == (q.den : Int)) && true)) = _
  rw [Bool.and_true, Bool.eq_iff_iff]
  simp only [Bool.and_eq_true, beq_iff_eq, decide_eq_true_eq]
  constructor
  · rintro ⟨h1, h2⟩
    exact Rat.ext h1 (Int.ofNat.inj h2)
  · rintro rfl
    exact ⟨rfl, rfl⟩
theorem nDs_eqv : ∀ ps qs : List Rat, PyData.eqvAll (ps.map nD) (qs.map nD) = decide (ps = qs)
  | [], [] => rfl
  | [], _ :: _ => rfl
  | _ :: _, [] => rfl
  | p :: ps, q :: qs => by
    show (PyData.eqv (nD p) (nD q) && PyData.eqvAll (ps.map nD) (qs.map nD)) = _
    rw [nD_eqv, nDs_eqv ps qs, Bool.eq_iff_iff]
    simp
theorem nD_shaped (q : Rat) : SeqAt.shaped (nD q) = true := by rfl
theorem Nums.rds {K : PySem.W.Frag} {H : Hp} {xs : List V} {qs : List Rat} (h : Nums K H xs qs) : ∀ (i : Nat) x d, xs[i]? = some x → (qs.map nD)[i]? = some d → Rds K H x d := fun i x d e1 e2 => by
  obtain ⟨q, hq, hn⟩ := Paired.get h e1
  rw [List.getElem?_map, hq] at e2
  cases e2
  exact hn.rds
theorem Nums.rdsT {K : PySem.W.Frag} {H : Hp} {r : Addr} {xs : List V} {qs : List Rat} (h : Nums K H xs qs) (s : SqT K H r xs) : Rds K H (.ref r) (.tuple (qs.map nD)) := .tup s (by rw [h.length, List.length_map]) h.rds
theorem Nums.rdsL {K : PySem.W.Frag} {H : Hp} {r : Addr} {xs : List V} {qs : List Rat} (h : Nums K H xs qs) (s : SqL K H r xs) : Rds K H (.ref r) (.list (qs.map nD)) := .lst s (by rw [h.length, List.length_map]) h.rds
theorem nDs_lay : ∀ qs : List Rat, PyData.canLayAll0 (qs.map nD) = true
  | [] => rfl
  | q :: r => by
    show (PyData.canLay0 (nD q) && PyData.canLayAll0 (r.map nD)) = true
    rw [nDs_lay r]; rfl
theorem nDs_depth : ∀ qs : List Rat, PyData.depthAll (qs.map nD) ≤ 1
  | [] => Nat.zero_le _
  | q :: r => by
    have ih := nDs_depth r
    show max (PyData.depth (nD q)) (PyData.depthAll (r.map nD)) ≤ 1
    exact Nat.max_le.mpr ⟨Nat.le_refl _, ih⟩
theorem nDs_shL (qs : List Rat) : SeqAt.shaped (.list (qs.map nD)) = true := by
  show (PyData.canLayAll0 (qs.map nD) && decide (PyData.depthAll (qs.map nD) + 1 ≤ 64)) = true
  rw [nDs_lay, Bool.true_and]
  exact decide_eq_true (by have := nDs_depth qs; lia)
theorem nDs_shT (qs : List Rat) : SeqAt.shaped (.tuple (qs.map nD)) = true := nDs_shL qs
/-- == of two numbers, of two tuples, two lists of numbers, by their values -/
theorem eqN {K : PySem.W.Frag} {H : Hp} {x y : V} {p q : Rat} {Q : VK} {neg : Bool} (h1 : NumV K H x p) (h2 : NumV K H y q) (h : Q (.bl (if neg then !decide (p = q) else decide (p = q))) H) : rEqD K neg x y H Q :=
  eqD_of ⟨_, _, h1.rds, h2.rds, nD_shaped _, nD_shaped _, by rw [nD_eqv]; exact h⟩
theorem eqT {K : PySem.W.Frag} {H : Hp} {a b : Addr} {ps qs : List Rat} {Q : VK} {neg : Bool} (h1 : Crv K H a ps) (h2 : Crv K H b qs) (h : Q (.bl (if neg then !decide (ps = qs) else decide (ps = qs))) H) : rEqD K neg (.ref a) (.ref b) H Q := by
  obtain ⟨xs, s1, n1⟩ := h1
  obtain ⟨ys, s2, n2⟩ := h2
  refine eqD_of ⟨_, _, n1.rdsT s1, n2.rdsT s2, nDs_shT _, nDs_shT _, ?_⟩
  have e : PyData.eqv (.tuple (ps.map nD)) (.tuple (qs.map nD)) = decide (ps = qs) := nDs_eqv ps qs
  rw [e]; exact h
theorem eqL {K : PySem.W.Frag} {H : Hp} {a b : Addr} {xs ys : List V} {ps qs : List Rat} {Q : VK} {neg : Bool} (s1 : SqL K H a xs) (n1 : Nums K H xs ps) (s2 : SqL K H b ys) (n2 : Nums K H ys qs) (h : Q (.bl (if neg then !decide (ps = qs) else decide (ps = qs))) H) : rEqD K neg (.ref a) (.ref b) H Q := by
  refine eqD_of ⟨_, _, n1.rdsL s1, n2.rdsL s2, nDs_shL _, nDs_shL _, ?_⟩
  have e : PyData.eqv (.list (ps.map nD)) (.list (qs.map nD)) = decide (ps = qs) := nDs_eqv ps qs
  rw [e]; exact h

/-! ### a while, by what holds and a measure -/
/-! ### sizes of numbers -/
def RB (n : Nat) (q : Rat) : Prop := Bd n q.num ∧ Bd n (q.den : Int)
theorem Bd.mul {m n : Nat} {x y : Int} (h1 : Bd m x) (h2 : Bd n y) : Bd (m + n) (x * y) := by
  unfold Bd at *
  rw [Int.natAbs_mul, Nat.pow_add]
  exact Nat.mul_lt_mul'' h1 h2
theorem Bd.add {n : Nat} {x y : Int} (h1 : Bd n x) (h2 : Bd n y) : Bd (n + 1) (x + y) := by
  unfold Bd at *
  rw [Nat.pow_succ, Nat.mul_two]
  exact Nat.lt_of_le_of_lt (Int.natAbs_add_le x y) (Nat.add_lt_add h1 h2)
theorem MulC.bd {m n : Nat} {x y : Int} (h1 : Bd m x) (h2 : Bd n y) (h : m + n ≤ 134217728 := by lia) : MulC x y := .inr (.inr ⟨m, n, h1, h2, h⟩)
theorem RB.mono {m n : Nat} {q : Rat} (h : RB m q) (hmn : m ≤ n) : RB n q := ⟨h.1.mono hmn, h.2.mono hmn⟩
/-- a tuple that the module holds -/
theorem vals_abs : ∀ {us : List Value} {xs : List V}, us.map absV = xs.map some → (∀ u ∈ us, ∀ x, absV u = some x → RelV x u) → Vals xs us
  | [], [], _, _ => .nil
  | [], _ :: _, e, _ => by simp at e
  | _ :: _, [], e, _ => by simp at e
  | u :: us, x :: xs, e, h => by
    simp only [List.map_cons, List.cons.injEq] at e
    exact .cons (h u List.mem_cons_self x e.1) (vals_abs e.2 fun v hv => h v (List.mem_cons_of_mem _ hv))
theorem absV_rel {u : Value} {x : V} (h : absV u = some x) : RelV x u := by
  cases u <;> first | (cases h; rfl) | (cases h; exact ⟨_, rfl⟩) | cases h
theorem const_num {K : PySem.W.Frag} {H : Hp} {a : Addr} {o : Obj} {vs : Array Value} {n : Nat} {q : Rat} (hk : K.lookup a = some o) (hc : o.cls = .type "tuple") (hd : o.data = .seq vs n) (e : vs.toList.map absV = [some (.int q.num), some (.int (q.den : Int))]) : SqT K H a [.int q.num, .int q.den] := by
  refine .inr ⟨o, vs, n, hk, hc, hd, ?_, vals_abs e fun u _ x h => absV_rel h⟩
  have hl := congrArg List.length e
  simp at hl
  rw [hl]; decide
theorem RB.plus {m n : Nat} {p q : Rat} (h1 : RB m p) (h2 : RB n q) : RB (m + n + 1) (p + q) := by
  rw [← Nm.plus_eq]
  refine ⟨Bd.num (Bd.add (h1.1.mul h2.2) ((h2.1.mul h1.2).mono (by lia))), Bd.den (Int.mul_ne_zero (Nm.den_ne p) (Nm.den_ne q)) ((h1.2.mul h2.2).mono (by lia))⟩
theorem RB.one {n : Nat} (h : 1 ≤ n) : RB n 1 := ⟨(show Bd 1 1 by unfold Bd; decide).mono h, (show Bd 1 1 by unfold Bd; decide).mono h⟩
/-- sums, differences, products of two numbers, as the law's own defs and the program's -/
inductive spBin (K : PySem.W.Frag) (g : Rat → Rat → Rat) (vs : List V) (H : Hp) (Q : VK) (E_3 : XK) : Prop
  | mk (x y : V) (p q : Rat) (m n : Nat) (h1 : vs = [x, y]) (h2 : NumV K H x p) (h3 : NumV K H y q) (h4 : RB m p) (h5 : RB n q) (h6 : m + n ≤ 100000000) (h7 : ∀ r, H r = none → Q (.ref r) (upd H r (nT (g p q)))) : spBin K g vs H Q E_3
end L2

/-! own layer, part 7: loops and comprehensions over a list or a tuple -/
namespace L2
open PySem PySem.Spec PyProof.Rows
/-- a list (true) or a tuple (false) -/
def Sq (b : Bool) (K : PySem.W.Frag) (H : Hp) (a : Addr) (xs : List V) : Prop := match b with
  | true => SqL K H a xs
  | false => SqT K H a xs
theorem Sq.same {b : Bool} {K : PySem.W.Frag} {H H' : Hp} {a : Addr} {xs : List V} (h : Sq b K H a xs) (e : Same H H') : Sq b K H' a xs := by
  cases b
  · exact SqT.same h e
  · exact e.seq h
theorem pi_either {X : Cx} {tg l : Expr} {w1 w2 : TI} (h1 : PI X tg l w1) (h2 : PI X tg l w2) : PI X tg l (fun σ H R => w1 σ H R ∨ w2 σ H R) := fun pins s σ H R I h => by
  rcases h with h | h
  · exact h1 pins s σ H R I h
  · exact h2 pins s σ H R I h
abbrev iSeq (K : PySem.W.Frag) (tl : TE) : TI := fun σ H R => iList K tl σ H R ∨ iTup K tl σ H R
/-- [e for x in a list or tuple] -/
theorem lc_seq {K : PySem.W.Frag} {b : Bool} {a : Addr} {n : Nat} {js : List Nat} {xs : List V} {te : TE} {σ : St} {H : Hp} {Q : VK} (hσ : σ[n]? = some (some (.ref a))) (Pv : Nat → List V → Hp → Prop) (h0 : Pv 0 [] H)
    (hl : ∀ i zs H, i ≤ xs.length → Pv i zs H → Sq b K H a xs ∧ zs.length = i) (hz : xs.length ≤ sizeLine)
    (hs : ∀ i x zs H, xs[i]? = some x → Pv i zs H → te ((cS 1 js σ).set 0 (some x)) H fun y H4 => Pv (i + 1) (zs ++ [y]) H4) (fin : ∀ zs H', Pv xs.length zs H' → ∀ p, H' p = none → Q (.ref p) (upd H' p (.lst zs))) :
    tLC (iSeq K (tVar n)) 1 js (gName 0) tYes te σ H Q := by
  have q := (hl 0 [] H (Nat.zero_le _) h0).1
  cases b with
  | true =>
    refine lc_of (.inl ⟨_, hσ, a, rfl, ⟨xs, q⟩, xs.length, Pv, h0, ⟨?_, ?_, ?_⟩⟩)
    · intro i zs H' hi p
      have hle := Nat.le_of_lt hi
      obtain ⟨h1, h2⟩ := hl i zs H' hle p
      exact ⟨⟨xs, xs[i], h1, by simp [hi]⟩, by lia⟩
    · rintro i zs H' x H1 hi p ⟨rfl, y⟩
      have hle := Nat.le_of_lt hi
      have hx := y xs (hl i zs _ hle p).1
      exact hs i x zs _ hx p
    · intro zs H' p
      have hle := Nat.le_refl xs.length
      obtain ⟨h1, h2⟩ := hl _ zs H' hle p
      exact ⟨⟨xs, h1, Nat.le_refl _⟩, by lia, fin zs H' p⟩
  | false =>
    refine lc_of (.inr ⟨_, hσ, a, rfl, ⟨xs, q⟩, xs.length, Pv, h0, ⟨?_, ?_, ?_⟩⟩)
    · intro i zs H' hi p
      have hle := Nat.le_of_lt hi
      obtain ⟨h1, h2⟩ := hl i zs H' hle p
      exact ⟨⟨xs, xs[i], h1, by simp [hi]⟩, by lia⟩
    · rintro i zs H' x H1 hi p ⟨rfl, y⟩
      have hle := Nat.le_of_lt hi
      have hx := y xs (hl i zs _ hle p).1
      exact hs i x zs _ hx p
    · intro zs H' p
      have hle := Nat.le_refl xs.length
      obtain ⟨h1, h2⟩ := hl _ zs H' hle p
      exact ⟨⟨xs, h1, Nat.le_refl _⟩, by lia, fin zs H' p⟩

/-! ### the rules that name the written part, by its name -/
section
variable {X : Cx} (K : PySem.W.Frag)
theorem ixT (e : X.K = K := by rfl) : IxR X (rIxT K) := by subst e; exact ix_tup
theorem ixL (e : X.K = K := by rfl) : IxR X (rIxL K) := by subst e; exact ix_list
theorem eqD (hu : X.A.units + 64 < cLine) (e : X.K = K := by rfl) : OpR X (compareOp .Eq) (rEqD K false) := by subst e; exact op_eqD hu
theorem neD (hu : X.A.units + 64 < cLine) (e : X.K = K := by rfl) : OpR X (compareOp .NotEq) (rEqD K true) := by subst e; exact op_neD hu
theorem notInS (e : X.K = K := by rfl) : OpR X (compareOp .NotIn) (rIn K true) := by subst e; exact op_notIn_seq
theorem slL (e : X.K = K := by rfl) : SlR X (rSlL K) := by subst e; exact sl_list
/-- the type of a value: a tuple, a list also where it is the module's or known -/
inductive TyX (K : PySem.W.Frag) (H : Hp) : V → Value → Prop where
  | of {x : V} {t : Value} (h : TyOf K H x t) : TyX K H x t
  | tup {a : Addr} {xs : List V} (h : SqT K H a xs) : TyX K H (.ref a) (.type "tuple")
  | lst {a : Addr} {xs : List V} (h : SqL K H a xs) : TyX K H (.ref a) (.type "list")
inductive cIsi (xs : List V) (H : Hp) (Q : VK) : Prop
  | mk (x : _) (T : _) (t : _) (b : _) (h1 : xs = [x, .ty T]) (h2 : TyX K H x t) (h3 : PySem.W.kitOne K t (.type T) = some b) (h4 : Q (.bl b) H) : cIsi xs H Q
theorem isiK (e : X.K = K := by rfl) : CallR X (.builtin "isinstance") (cIsi K) := by
  subst e
  intro pins s σ H xs us Q I r h
  obtain ⟨x, T, t, b, rfl, ty, e, q⟩ := h
  obtain ⟨u, w', rfl, rx, rT⟩ := vals2 r
  cases rT
  cases ty with
  | of ty => exact isinst_ok I rx ty e fun tk => ⟨.bl b, H, I.tok _, rfl, q⟩
  | tup hq =>
    cases rx
    obtain ⟨its, rv, ⟨o, e1, c, _⟩, _⟩ := I.tuple hq
    exact PySem.W.kia_one PySem.W.kitx_tuple I.kIn ⟨o, e1, c⟩ e (fun z => nomatch z) fun tk => ⟨.bl b, H, I.tok _, rfl, q⟩
  | lst hq =>
    cases rx
    obtain ⟨its, rv, ⟨o, n, e1, c, _⟩, _⟩ := I.list hq
    exact PySem.W.kia_one PySem.W.kitx_list I.kIn ⟨o, e1, c⟩ e (fun z => nomatch z) fun tk => ⟨.bl b, H, I.tok _, rfl, q⟩
inductive cLen (xs : List V) (H : Hp) (Q : VK) : Prop
  | mk (p : _) (ys : _) (h1 : xs = [.ref p]) (h2 : (SqL K H p ys ∨ SqT K H p ys)) (h3 : Q (.int ys.length) H) : cLen xs H Q
theorem lenK (e : X.K = K := by rfl) : CallR X (.builtin "len") (cLen K) := by subst e; exact fun pins s σ H xs us Q I r ⟨p, ys, h1, h2, h3⟩ => call_len_seq pins s σ H xs us Q I r ⟨p, ys, h1, h2, h3⟩
inductive cList (xs : List V) (H : Hp) (Q : VK) : Prop
  | mk (p : _) (ys : _) (h1 : xs = [.ref p]) (h2 : (SqL K H p ys ∨ SqT K H p ys)) (h3 : ∀ l, H l = none → Q (.ref l) (upd H l (.lst ys))) : cList xs H Q
theorem listK (e : X.K = K := by rfl) : CallR X (.type "list") (cList K) := by subst e; exact fun pins s σ H xs us Q I r ⟨p, ys, h1, h2, h3⟩ => call_list_of pins s σ H xs us Q I r ⟨p, ys, h1, h2, h3⟩
inductive cTuple (xs : List V) (H : Hp) (Q : VK) : Prop
  | mk (p : _) (ys : _) (h1 : xs = [.ref p]) (h2 : ((SqL K H p ys ∧ ∀ l, H l = none → Q (.ref l) (upd H l (.tup ys))) ∨ (SqT K H p ys ∧ Q (.ref p) H))) : cTuple xs H Q
theorem tupleK (e : X.K = K := by rfl) : CallR X (.type "tuple") (cTuple K) := by subst e; exact fun pins s σ H xs us Q I r ⟨p, ys, h1, h2⟩ => call_tuple_of pins s σ H xs us Q I r ⟨p, ys, h1, h2⟩
inductive cAll (xs : List V) (H : Hp) (Q : VK) : Prop
  | mk (a : Addr) (bs : List Bool) (h1 : xs = [.ref a]) (h2 : SqL K H a (bs.map V.bl)) (h3 : Q (.bl (bs.all id)) H) : cAll xs H Q
theorem allB (hc : X.calm = true) (e : X.K = K := by rfl) : CallR X (.builtin "all") (cAll K) := by subst e; exact fun pins s σ H xs us Q I r ⟨a, bs, h1, h2, h3⟩ => call_allB hc pins s σ H xs us Q I r ⟨a, bs, h1, h2, h3⟩
variable {tg l : Expr} {tl : TE}
theorem piL (hl : PE X l tl) (e : X.K = K := by rfl) : PI X tg l (iList K tl) := by subst e; exact pi_list hl
theorem piT (hl : PE X l tl) (e : X.K = K := by rfl) : PI X tg l (iTup K tl) := by subst e; exact pi_tup hl
theorem piS (hl : PE X l tl) (e : X.K = K := by rfl) : PI X tg l (iSeq K tl) := by subst e; exact pi_either (pi_list hl) (pi_tup hl)
theorem pgT {es : List Expr} {k : Nat} {t : TGs} {n : Nat} {pos : Pos} (hc : X.calm = true) (h : PGs X es t) (hn : (assignEach es X.env).length = n := by rfl) (hst : (assignEach es X.env).findIdx? (·.1) = none := by rfl) (e : X.K = K := by rfl) : PG X (.Tuple es k pos) (gTup K n t) := by subst e; exact pg_tup hc h hn hst
end
end L2

/-! own layer, part 8: what is a whole number, a number, a curve; comprehensions over a range -/
namespace L2
open PySem PySem.Spec PyProof.Rows
inductive Whole (K : PySem.W.Frag) (H : Hp) : V → Bool → Prop where
  | int (i : Int) : Whole K H (.int i) true
  | bl (b : Bool) : Whole K H (.bl b) false
  | oth {x : V} {t : Value} (ty : TyX K H x t) (h : PySem.W.kitOne K t (.type "int") = some false) : Whole K H x false
theorem kit_ii (K : PySem.W.Frag) : PySem.W.kitOne K (.type "int") (.type "int") = some true := by kernel_rfl
theorem kit_ib (K : PySem.W.Frag) : PySem.W.kitOne K (.type "int") (.type "bool") = some false := by kernel_rfl
theorem kit_bi (K : PySem.W.Frag) : PySem.W.kitOne K (.type "bool") (.type "int") = some true := by kernel_rfl
theorem kit_bb (K : PySem.W.Frag) : PySem.W.kitOne K (.type "bool") (.type "bool") = some true := by kernel_rfl
theorem kit_tt (K : PySem.W.Frag) : PySem.W.kitOne K (.type "tuple") (.type "tuple") = some true := by kernel_rfl
theorem kit_it (K : PySem.W.Frag) : PySem.W.kitOne K (.type "int") (.type "tuple") = some false := by kernel_rfl
theorem kit_bt (K : PySem.W.Frag) : PySem.W.kitOne K (.type "bool") (.type "tuple") = some false := by kernel_rfl
theorem kit_nt (K : PySem.W.Frag) : PySem.W.kitOne K (.type "NoneType") (.type "tuple") = some false := by kernel_rfl
theorem kit_st (K : PySem.W.Frag) : PySem.W.kitOne K (.type "str") (.type "tuple") = some false := by kernel_rfl
theorem kit_lt (K : PySem.W.Frag) : PySem.W.kitOne K (.type "list") (.type "tuple") = some false := by kernel_rfl
theorem atI_back {α : Type} {xs : List α} {v : α} (h : xs[xs.length - 1]? = some v) : atI xs (-1) = some v := by
  have hl : xs.length - 1 < xs.length := (List.getElem?_eq_some_iff.mp h).1
  have e : ixN xs.length (-1) = some (xs.length - 1) := by
    unfold ixN
    rw [if_neg (by decide), if_pos (by lia)]
    congr 1
    lia
  unfold atI
  rw [e]
  exact h
theorem all_rep (n : Nat) : (List.replicate n true).all id = true := by
  rw [List.all_eq_true]
  intro b hb
  exact (List.mem_replicate.mp hb).2
theorem Pen.sm {H H' : Hp} {p : Addr} (h : Pen H p) (e : Same H H') : Pen H' p := let ⟨c0, c1, c2, z⟩ := h; ⟨c0, c1, c2, e _ _ z⟩
theorem Same.put {H H' : Hp} {p : Addr} {o : HO} (h : Same H H') (hp : H p = none) : Same H (upd H' p o) := fun b u q => by rw [upd_ne (ne_of_none q hp)]; exact h b u q
end L2

/-! own layer, part 9: an exception that leaves a def, raise, and try with one except around a call -/
namespace L2
open PySem PySem.Spec PyProof.Rows
/-- how an exception lies behind a call: it flies over B, and B holds all that is known -/
def CX1 (P : Program) (w : World) : CXT := fun outer H s E e s' => ∃ (ea : Addr) (cls a0 : Value) (B : Heap) (H' : Hp), e = .ref ea ∧ s'.os = s.os ∧ AllBare s'.gens ∧ Un (frs outer) [] H H' s.heap s'.heap ∧ HOk P w H' s'.heap ∧
  Heap.FlyingW B outer ea cls a0 s'.heap ∧ (∀ b o, s.heap.get? b = some o → b ∉ frs outer → ∃ o', B.get? b = some o') ∧ (∀ b u, H' b = some u → ∃ o', B.get? b = some o') ∧ E cls none H'
theorem ObjOk.got {P : Program} {w : World} {H : Hp} {h : Heap} {a : Addr} {o : HO} (x : ObjOk P w H h a o) : ∃ ob, h.get? a = some ob := by
  induction o with
  | lst xs => obtain ⟨_, _, _, _, e⟩ := x; exact ⟨_, e⟩
  | tup xs => obtain ⟨_, _, _, ob, e, _⟩ := x; exact ⟨_, e⟩
  | dK kvs => obtain ⟨_, _, _, _, ob, _, _, e, _⟩ := x; exact ⟨_, e⟩
  | dT kvs => obtain ⟨_, _, _, _, ob, _, _, e, _⟩ := x; exact ⟨_, e⟩
  | set S n => obtain ⟨ob, _, _, _, e, _⟩ := x; exact ⟨_, e⟩
  | ins C dx fs => obtain ⟨_, _, _, e, _⟩ := x; exact ⟨_, e⟩
  | own y => exact x
  | xd fs => obtain ⟨_, ⟨ob, _, _, e, _⟩, _⟩ := x; exact ⟨_, e⟩
  | met f y => exact ⟨_, x⟩
  | rng lo hi => obtain ⟨_, _, _, e⟩ := x; exact ⟨_, e⟩
  | frz ob u ih => exact ⟨_, x.1⟩
  | tbl ps => exact ⟨_, x⟩
  | ext φ => exact x.2.1
section
variable {X : Cx} {pins : List (Addr × Obj)} {σ : St} {H H' : Hp} {s s' : Shared} {B : Heap}
/-- behind a flight's station: all that B holds is as it was, the frames are kept up to slots -/
theorem Inv.flown {h2 : Heap} {toks : Nat} (I : Inv X pins σ H s) (un : Un (frs X.stack) [] H H' s.heap s'.heap) (hok : HOk X.prog X.w H' s'.heap) (os : s'.os = s.os) (bare : AllBare s'.gens)
    (hs : ∀ b o, B.get? b = some o → s'.heap.get? b = some o) (k1 : ∀ b o, s.heap.get? b = some o → b ∉ frs X.stack → ∃ o', B.get? b = some o') (k2 : ∀ b u, H' b = some u → ∃ o', B.get? b = some o')
    (h2s : ∀ b o, B.get? b = some o → h2.get? b = some o) (sl : ∀ b o, b ∈ frs X.stack → s'.heap.get? b = some o → ∃ z, h2.get? b = some { o with slots := z }) : Inv X pins σ H' { s' with heap := h2, toks := toks } := by
  have key : ∀ b o, s'.heap.get? b = some o → (∃ o', B.get? b = some o') → h2.get? b = some o := fun b o e ⟨o', q⟩ => by
    have := hs b o' q
    rw [e] at this
    cases this
    exact h2s b o q
  refine I.call' (ch := []) os ⟨fun b o e n nb nx => key b o (un.keep b o e n nb nx) (k1 b o e nb), fun b o e n nb nx => ?_, un.free, fun b o e nx => ?_, un.tups, un.frzs, un.tbls⟩ (fun b u e => ?_) bare (fun _ z => nomatch z)
  · obtain ⟨z, q⟩ := un.slot b o e n nb nx
    obtain ⟨z', q'⟩ := sl b _ nb q
    exact ⟨z', q'⟩
  · obtain ⟨o', q⟩ := un.there b o e nx
    by_cases hb : b ∈ frs X.stack
    · obtain ⟨z', q'⟩ := sl b _ hb q
      exact ⟨_, q'⟩
    · exact ⟨_, key b o' q (k1 b o e hb)⟩
  · refine (hok b u e).stay (fun c v hc q => key c v q ?_) (fun _ q => q) fun _ _ q => q
    rcases hc with rfl | z
    · exact k2 _ u e
    · exact k2 c _ z
theorem hid_frs (h : Heap) (l : List Env) : ∀ env ∈ l, ∀ b, env.frame = some b → b ∈ frs l := fun env he b hb => List.mem_filterMap.mpr ⟨env, he, hb⟩
theorem Inv.slots {h2 : Heap} (hf : s'.heap.FunFrames B X.stack) (u : s'.heap.UpToSlots h2) : ∀ b o, b ∈ frs X.stack → s'.heap.get? b = some o → ∃ z, h2.get? b = some { o with slots := z } := fun b o hb e => by
  obtain ⟨_, o', e', nf⟩ := hf.mem hb
  rw [e] at e'
  cases e'
  exact u b o e nf
end
section
variable {P : Program} {w : World} {K : PySem.W.Frag} {mg : Str → Option Value} {base : Heap} {N : List Str} {qual : Str} {scope : Scope} {f : Addr} {cd : Value} {A : Around} {outer : List Env} {s : Shared} {H : Hp} {E : XK}
end
/-- an own class of exceptions, under ValueError -/
structure XCls (K : PySem.W.Frag) (x : Str) (C : Addr) : Prop where
  ns : PySem.W.nsIn K mainGlobals x = some (some (.ref C))
  ob : ∃ bm N nm q bs hdct sn sub ab col dd k0 k1 k2 k3 k5, K.lookup C = some (excClassObj nm q C N bs bm hdct sn sub ab col dd k0 k1 k2 k3 k5 "ValueError.__new__")
  ex : PySem.W.excIn K C [.type "ValueError", .type "Exception", .type "BaseException", .type "object"] "ValueError.__new__" = true
def tRaise (E : XK) (C : Addr) (t : TA) : TS := fun _ σ H => t σ H fun xs H1 => xs.length ≤ sizeLine ∧ E (.ref C) none H1
def Makes (X : Cx) (E : XK) : Prop := ∀ (pins : List (Addr × Obj)) (σ : St) (H1 : Hp) (s1 : Shared) (h2 : Heap) (ea : Addr) (cls : Value) (vs : List Value), Inv X pins σ H1 s1 → Heap.MadeExcOf s1.heap h2 ea cls vs → E cls none H1 → X.xe (.ref ea) { s1 with heap := h2 }
theorem own_in {K : PySem.W.Frag} {h : Heap} {mg : Str → Option Value} {x : Str} {C : Addr} (X : K.In h) (g : h.Ns mainGlobals mg) (c : XCls K x C) : OwnCls x C [.type "ValueError", .type "Exception", .type "BaseException", .type "object"] "ValueError.__new__" mg h := by
  obtain ⟨bm, N, nm, q, bs, hdct, sn, sub, ab, col, dd, k0, k1, k2, k3, k5, l⟩ := c.ob
  have ex := c.ex
  unfold PySem.W.excIn at ex
  rw [l] at ex
  simp only [excClassObj, Bool.and_eq_true, beq_iff_eq] at ex
  exact ⟨PySem.W.mg_of X g c.ns, bm, N, nm, q, bs, hdct, sn, sub, ab, col, dd, k0, k1, k2, k3, k5, _, X _ _ l, .of_isNs (PySem.W.isNs_of_in X ex.1.2), PySem.W.nsMap_none_of_in X ex.1.2 ex.2, PySem.W.tail_of_in X ex.1.1.2⟩
theorem ps_raise {X : Cx} {E : XK} {x : Str} {C : Addr} {np cpos pos : Pos} {e₀ : Expr} {rest : List Expr} {t : TA} (c : XCls X.K x C) (hg : Gl X x) (hM : Makes X E) (hc : X.calm = true) (ha : PA X (e₀ :: rest) t)
    (hdb : (x == ("__debug__" : Str)) = false := by decide) (he : starEach (e₀ :: rest) X.env = (false, eval e₀ X.env) :: starEach rest X.env := by rfl) (hpl : (backTo cpos (starEach rest X.env)).any (·.1) = false := by rfl) :
    PS X (.Raise (some (.Call (.Name x np) (e₀ :: rest) [] cpos)) none pos) (tRaise E C t) := by
  intro pins s σ H D I h
  have O := own_in I.mod.kin I.mod.glob c
  obtain ⟨tl, N, nm, q, bs, hdct, sn, sub, ab, col, dd, k0, k1, k2, k3, k5, mN, hC, hN, hni, T⟩ := O.obj
  have FB := PySem.F.excBase_ValueError
  refine wpAny_Raise_call_subT (C := C) (nm := nm) (q := q) (N := N) (bs := bs) (bm := tl) (hdct := hdct) (sn := sn) (sub := sub) (ab := ab) (col := col) (dd := dd) (k0 := k0) (k1 := k1) (k2 := k2) (k3 := k3) (k5 := k5)
    FB (mN := mN) (T.hasType FB.hasBase) (I.ok.hd hc) (by rw [he]; show (false || (backTo cpos (starEach rest X.env)).any (·.1)) = false; rw [hpl]; rfl) hni (ld_glob I hg O.bound ⟨rfl, ?_⟩ hdb)
  rw [he]
  refine Calls.evalArgs_plain ?_
  have z := ha cpos pins s σ H _ I h
  rw [he] at z
  refine thn z fun us s2 ⟨xs, H1, I1, r, hz, hE⟩ => ⟨rfl, by rw [← r.length]; exact hz, I1.bk _ _ hC, hN.keeps I1.bk, T.keeps I1.bk, fun h' e hx => hM pins σ H1 s2 h' e _ _ I1 hx hE⟩

/-! ### try, with one except, around one call -/
/-- within an except suite -/
abbrev Cx.marked (X : Cx) (ea : Addr) : Cx := { X with A := X.A.mark (some (.ref ea)), calm := false, xe := fun _ _ => False }
section
variable {X : Cx} {pins : List (Addr × Obj)} {σ : St} {H H' : Hp} {s s' : Shared} {B : Heap}
theorem Cx.Ok.marked (ok : X.Ok) (ea : Addr) : (X.marked ea).Ok :=
  ⟨ok.mod, ok.kind, ok.glob, ok.blt, ok.above, ok.inj, ok.has, ok.cab, (fun z => nomatch z), ok.frames, ok.stk, ok.exf, ok.bs, ok.bsz, ok.noex, ok.exfs, ok.funs, ok.frf⟩
theorem Inv.marked (I : Inv X pins σ H s) (ea : Addr) : Inv (X.marked ea) pins σ H s := ⟨I.ok.marked ea, I.os, I.bare, I.base, I.loc, I.cell, I.free, I.freeC, I.pin, I.hok, I.len⟩
/-- a name of the frame is gone -/
theorem Inv.gone {h2 : Heap} {toks : Nat} {i : Nat} {n : Str} {v : Option Value} {m : Str → Option Value} (I : Inv X pins σ H s) (hN : X.N.Nodup) (hi : X.N[i]? = some n)
    (hl : ∀ (j : Nat) (x : Str) (v : V), X.N[j]? = some x → σ[j]? = some (some v) → Vis X.env.scope x → ∃ u, RelV v u ∧ Look X.env s.heap m x u)
    (hn : h2.Ns X.env.locals fun x => if x = n then v else m x) (sb : Heap.SameBut X.env.locals s.heap h2) : Inv X pins (σ.set i none) H { s with heap := h2, toks := toks } := by
  have kp : ∀ b o, b ≠ X.env.locals → s.heap.get? b = some o → h2.get? b = some o := fun b o nb e => (sb.2 b nb).trans e
  have neL : ∀ b o, X.s₀.heap.get? b = some o → b ≠ X.env.locals := fun b o e => Nat.ne_of_lt (Nat.lt_of_lt_of_le (Heap.lt_size e) I.ok.above)
  have cellK : ∀ x c, X.env.cells.lookup x = some c → ∀ v, s.heap.IsCell c v → h2.IsCell c v := fun x c e v ⟨o, ho, hd⟩ => ⟨o, kp c o (I.cne x c e) ho, hd⟩
  refine ⟨I.ok, I.os, I.bare, ⟨fun b o e nn hb hx => kp b o (neL b o e) (I.base.keep b o e nn hb hx), fun b o e nn hb hx => ?_, I.base.free, fun b o e hx => ?_, I.base.tups, I.base.frzs, I.base.tbls⟩, ⟨_, hn, fun j x v' e1 e2 e3 => ?_⟩, fun x c e => ?_, I.free, I.freeC, fun p hp => ?_, fun b u e => ?_, by rw [List.length_set]; exact I.len⟩
  · obtain ⟨sl, q⟩ := I.base.slot b o e nn hb hx
    exact ⟨sl, kp b _ (neL b o e) q⟩
  · obtain ⟨o', q⟩ := I.base.there b o e hx
    exact ⟨o', kp b _ (neL b o e) q⟩
  · by_cases hij : i = j
    · subst hij
      rw [List.getElem?_set] at e2
      split at e2
      · split at e2 <;> cases e2
      · exact absurd rfl (by assumption)
    · rw [List.getElem?_set_ne hij] at e2
      obtain ⟨u, r, l⟩ := hl j x v' e1 e2 e3
      have hx : x ≠ n := fun z => hij (nodup_ix hN hi (by rw [← z]; exact e1))
      refine ⟨u, r, ?_⟩
      rcases l with ⟨k, l⟩ | ⟨k, c, e, z⟩
      · exact .inl ⟨k, by show (if x = n then v else m x) = _; rw [if_neg hx]; exact l⟩
      · exact .inr ⟨k, c, e, cellK x c e _ z⟩
  · obtain ⟨v, z⟩ := I.cell x c e
    exact ⟨v, cellK x c e v z⟩
  · obtain ⟨e, nn, ne, nf, d⟩ := I.pin p hp
    exact ⟨kp _ _ ne e, nn, ne, nf, d⟩
  · refine (I.hok b u e).stay (fun c v hc q => kp c v ?_ q) (fun _ q => q) fun _ _ q => q
    rcases hc with rfl | z
    · intro y; rw [y, I.free] at e; cases e
    · intro y; rw [y, I.free] at z; cases z
end
/-! ### isinstance of a caught exception -/
section
open PySem.W PySem.Builtin PySem.Builtin.ObjectAttr PySem.Builtin.Getset_descriptor
variable {prog : Program} {w : World} {A : Around} {E : Value → Shared → Prop} {s : Shared} {K : PySem.W.Frag} {x D : Addr}
/-- what the class answers about its instances' class -/
structure XTy (K : PySem.W.Frag) (D : Addr) : Prop where
  ga : findIn K (.ref D) "__getattribute__" = some (some (.builtin "BaseException.__getattribute__"))
  gt : findIn K (.ref D) "__getattr__" = some none
  ca : findIn K (.ref D) "__class__" = some (some (.builtin "object.__class__"))
  gg : specialIn K (.builtin "object.__class__") "__get__" = some (some (.builtin "getset_descriptor.__get__"))
  tk : takesIn K (.builtin "object.__class__") = some true
  ob : mroIn K D (.type "object") = some true
  be : mroIn K D (.type "BaseException") = some true
  cl : ∃ c d cd sl, K.lookup D = some ⟨c, d, .cls cd, sl⟩
theorem look_data (X : K.In s.heap) (T : XTy K D) : Looks (model prog w) s.heap (find (.ref x) (.ref D) "__class__") (.bind (.builtin "getset_descriptor.__get__") (.builtin "object.__class__")) := by
  have L1 := looks_findIn (M := model prog w) X T.ca
  have L2 : Looks (model prog w) s.heap (getOf (some (.builtin "object.__class__"))) (some (.builtin "getset_descriptor.__get__")) := looks_specialIn X T.gg
  have L3 := looks_takesIn (M := model prog w) X T.tk
  exact L1.andThen (L2.andThen ((show Looks (model prog w) s.heap (dataDescriptor? (some (.builtin "object.__class__")) (some (.builtin "getset_descriptor.__get__"))) (some (.builtin "getset_descriptor.__get__", .builtin "object.__class__")) from L3.andThen .now).andThen (Looks.tag .now)))
theorem exc_class {Q : Option Value → Shared → Prop} (X : K.In s.heap) (L0 : Looks (model prog w) s.heap (typeOf (.ref x)) (.ref D)) (T : XTy K D) (h : Q (some (.ref D)) { s with toks := s.toks + 1 }) : wpAny (model prog w) A (getAttr? (.ref x) "__class__") Q E s := by
  have L1 := looks_findIn (M := model prog w) X T.ga
  have L2 := look_data (prog := prog) (w := w) (x := x) X T
  have L3 := looks_findIn (M := model prog w) X T.gt
  have L4 := looks_mroIn (M := model prog w) X T.ob
  obtain ⟨hh, g, d, t, os⟩ := s
  unfold getAttr? getAttrBy? getAttrBy
  have L5 := looks_mroIn (M := model prog w) X T.be
  refine wpAny_bind (wpAny_mkText (wpAny_bind (wpAny_attempt (wpAny_holding (wpAny_bind (L0.at (wpAny_bind (L1.at ?_))))))))
  have hx2 : (Value.builtin "BaseException.__getattribute__" == Value.builtin "object.__getattribute__") = false := by decide +kernel
  dsimp only
  rw [hx2, Bool.and_false, if_neg (by decide)]
  have hk : builtinKind "BaseException.__getattribute__" = some .slot := by decide +kernel
  have hsplit : splitId "BaseException.__getattribute__" = some ("BaseException", "__getattribute__") := by decide +kernel
  have ha := F.args_bexc_ga (.ref x) (.str "__class__" t)
  unfold getAttrByItsOwn hookBefore
  refine wpAny_bind ?_
  show wpAny _ _ (typeLookup (.ref D) "__getattr__") _ _ _
  refine L3.at (wpAny_bind (wpAny_attempt (wpAny_holding ?_)))
  show wpAny _ _ (boundAndCalled (.builtin "BaseException.__getattribute__") (.ref x) _) _ _ _
  unfold boundAndCalled
  rw [F.excAttr_ValueError.ga.bind (.ref x)]
  refine wpAny_bind (wpAny_pure ?_)
  first | refine wpAny_call (codeAny_call_builtin F.excAttr_ValueError.ga.plain F.entry_bexc_ga ?_) | refine wpAny_holding (wpAny_call (codeAny_call_builtin F.excAttr_ValueError.ga.plain F.entry_bexc_ga ?_))
  simp only [checkBuiltinCall, hk, hsplit]
  unfold isInstance
  show wpAny _ _ (do let b ← (do let tp ← typeOf (.ref x); isSubtype tp (.type "BaseException")); _) _ _ _
  refine wpAny_bind (wpAny_bind (L0.at (L5.at ?_)))
  rw [if_neg (by decide)]
  unfold argsOk at ha
  refine wpAny_of_eq ha ?_
  show wpAny _ _ (Builtin.«object.__getattribute__» ⟨[.ref x, .str "__class__" t], []⟩) _ _ _
  unfold Builtin.«object.__getattribute__»
  refine wpAny_bind (wpAny_of_eq (show slotArgs "__getattribute__" 1 ⟨[.ref x, .str "__class__" t], []⟩ = pure (.ref x, [.str "__class__" t]) from by kernel_rfl) ?_)
  refine wpAny_bind (wpAny_of_eq (show attrName (.str "__class__" t) = pure "__class__" from by kernel_rfl) ?_)
  refine wpAny_bind (L0.at (wpAny_bind (L2.at ?_)))
  unfold bindTo
  show wpAny _ _ (holding [Value.builtin "object.__class__"] (call (.builtin "getset_descriptor.__get__") [.builtin "object.__class__", .ref x, .ref D]) >>= ret) _ _ _
  refine wpAny_bind (wpAny_holding (wpAny_call ?_))
  refine codeAny_call_builtin KF.slot_gs.plain KF.entry_gs (KF.slot_gs.check _ _ _ _ _ _ _ _ KF.type_class (KF.args_gs _ _ _) ?_)
  unfold Builtin.«getset_descriptor.__get__» descrGet
  rw [dga_obj]
  refine wpAny_bind (wpAny_pure ?_)
  unfold descrGetter descrCheckInstance descrNameAndClass isInstance
  simp only [KF.owner_class]
  repeat lk
  refine ⟨Code.quiet_builtin _ (by decide +kernel), codeAny_builtin KF.entry_class ?_⟩
  unfold Builtin.«object.__class__» shownTypeOf
  repeat lk
  exact h
/-- an exception of the class at D stands at x -/
def ExAt (x D : Addr) (h : Heap) : Prop := ∃ o, h.get? x = some o ∧ o.cls = .ref D
theorem exAt_ty {M : Model} {h : Heap} (p : ExAt x D h) : Looks M h (typeOf (.ref x)) (.ref D) := by
  obtain ⟨o, h1, h2⟩ := p
  exact h2 ▸ (Looks.ld h1).andThen .now
theorem kitx_exc (T : XTy K D) : KitX K (.ref x) (.ref D) (ExAt x D) where
  ty := fun _ _ _ p => exAt_ty p
  it := fun _ _ X _ => by
    obtain ⟨c, d, cd, sl, ho⟩ := T.cl
    intro A' Q' E' s' k q
    unfold isType loadHead
    exact wpAny_bind (wpAny_loadPart (k _ _ (X _ _ ho)) (wpAny_pure q))
  ne := fun h tp dd its n sl X htp => by
    obtain ⟨c, d, cd, sl', ho⟩ := T.cl
    refine Bool.eq_false_iff.mpr fun q => ?_
    have e : D = tp := Value.ref.inj (beq_iff_eq.mp q)
    subst e
    have z := (X _ _ ho).symm.trans htp
    cases z
  ca := fun X p k => exc_class X (exAt_ty p) T k
def clsV : V → Option Value
  | .ref a => some (.ref a)
  | .ty T => some (.type T)
  | _ => none
theorem clsV_rel {y : V} {u c : Value} (r : RelV y u) (e : clsV y = some c) : u = c := by
  cases y <;> cases e <;> exact r
theorem clsV_rels : ∀ {ys : List V} {us cs : List Value}, Vals ys us → ys.map clsV = cs.map some → us = cs
  | _, _, [], .nil, _ => rfl
  | _, _, _ :: _, .nil, e => nomatch e
  | _, _, [], .cons _ _, e => nomatch e
  | _, _, c :: cs, .cons r rs, e => by
    injection e with e1 e2
    rw [clsV_rel r e1, clsV_rels rs e2]
end
section
open PySem.W
variable {X : Cx} (K : PySem.W.Frag)
end

/-! ### a def from which an exception may leave, as its text stands and as a caller takes it -/
section
variable {P : Program} {w : World} {K : PySem.W.Frag} {mg : Str → Option Value} {base : Heap}
end
structure FdX (P : Program) (w : World) (K : PySem.W.Frag) (mg : Str → Option Value) (base : Heap) (n : Nat) (x : Str) (ps : List Str) (sp : Sp) : Prop where
  ex : ∃ (f : Addr) (fd : FuncData), FnOk P w K mg base (CX1 P w) n f fd ps sp ∧ Binds K fd ps [] ∧ PySem.W.keepIn K (.ref f) = true ∧ mg x = some (.ref f)
end L2

/-! own layer, part 10: range(a, b, -1) -/
namespace L2
open PySem PySem.Spec PyProof.Rows
section
variable {X : Cx} {tg : Expr}
end
/-- a comprehension over a list that its elements leave as it is -/
theorem lc_lst {K : PySem.W.Frag} {a : Addr} {js : List Nat} {xs : List V} {te : TE} {σ : St} {H : Hp} {Fin : List V → Hp → Prop} (Pv : Nat → List V → Hp → Prop) (h0 : Pv 0 [] H)
    (hl : ∀ i zs H, i ≤ xs.length → Pv i zs H → SqL K H a xs ∧ zs.length = i) (hz : xs.length ≤ sizeLine)
    (hs : ∀ i x zs H, xs[i]? = some x → Pv i zs H → te ((cS 1 js σ).set 0 (some x)) H fun y H4 => Pv (i + 1) (zs ++ [y]) H4) (fin : ∀ zs H', Pv xs.length zs H' → Fin zs H') :
    ∃ (n' : Nat) (W : Nat → List V → Hp → Prop), W 0 [] H ∧ LcW (Itl K a) n' 1 js σ (gName 0) tYes te Fin W := by
  refine ⟨xs.length, Pv, h0, ⟨?_, ?_, ?_⟩⟩
  · intro i zs H' hi p
    obtain ⟨h1, h2⟩ := hl i zs H' (Nat.le_of_lt hi) p
    exact ⟨⟨xs, xs[i], h1, by simp [hi]⟩, by lia⟩
  · rintro i zs H' x H1 hi p ⟨rfl, y⟩
    exact hs i x zs _ (y xs (hl i zs _ (Nat.le_of_lt hi) p).1) p
  · intro zs H' p
    obtain ⟨h1, h2⟩ := hl _ zs H' (Nat.le_refl _) p
    exact ⟨⟨xs, h1, Nat.le_refl _⟩, by lia, fin zs H' p⟩
theorem bt_ValueError : bootBuiltins "ValueError" = some (.type "ValueError") := by decide +kernel
end L2

/-! own layer, part 11: what stands behind a statement; lists of drawn numbers; whole tops over a bottom -/
namespace L2
open PySem PySem.Spec PyProof.Rows
theorem Mv.put' {a l : Addr} {H H' : Hp} {o : HO} (m : Mv a H H') (hl : H l = none) : Mv a H (upd H' l o) := fun b u n q => by rw [upd_ne (ne_of_none q hl)]; exact m b u n q
theorem Mv.free {a l : Addr} {H H' : Hp} (m : Mv a H H') (la : l ≠ a) (h : H' l = none) : H l = none := by
  cases z : H l with
  | none => rfl
  | some u => rw [m l u la z] at h; cases h
theorem Pen.put' {H : Hp} {a l : Addr} {o : HO} (h : Pen H a) (la : l ≠ a) : Pen (upd H l o) a := let ⟨x0, x1, x2, ex⟩ := h; ⟨x0, x1, x2, by rw [upd_ne (Ne.symm la)]; exact ex⟩
theorem Pen.ne' {H : Hp} {a l : Addr} (h : Pen H a) (hl : H l = none) : l ≠ a := let ⟨_, _, _, ex⟩ := h; (ne_of_none ex hl).symm
/-! ### a list of lists of numbers -/
def RowV (K : PySem.W.Frag) (H : Hp) (x : V) (rs : List Rat) : Prop := ∃ a ys, x = .ref a ∧ SqL K H a ys ∧ Nums K H ys rs
abbrev Rows (K : PySem.W.Frag) (H : Hp) : List V → List (List Rat) → Prop := Paired (RowV K H)
end L2

/-! own layer, part 12: x in a list of numbers; points -/
namespace L2
open PySem PySem.Spec PyProof.Rows
section
variable {X : Cx}
/-- x in a list of things, by what stands there -/
@[irreducible] def rInD (K : PySem.W.Frag) (neg : Bool) : R2 := fun x y H Q => ∃ p ds d, y = .ref p ∧ Rds K H (.ref p) (.list ds) ∧ Rds K H x d ∧ SeqAt.shaped (.list ds) = true ∧ SeqAt.shaped d = true ∧ Q (.bl (if neg then !(ds.any fun y => PyData.eqv y d) else ds.any fun y => PyData.eqv y d)) H
theorem inD_of {K : PySem.W.Frag} {neg : Bool} {x y : V} {H : Hp} {Q : VK} (h : ∃ p ds d, y = .ref p ∧ Rds K H (.ref p) (.list ds) ∧ Rds K H x d ∧ SeqAt.shaped (.list ds) = true ∧ SeqAt.shaped d = true ∧ Q (.bl (if neg then !(ds.any fun y => PyData.eqv y d) else ds.any fun y => PyData.eqv y d)) H) : rInD K neg x y H Q := by
  unfold rInD; exact h
theorem inD (K : PySem.W.Frag) {k : Nat} (hr : Room k X.A) (e : X.K = K := by rfl) : OpR X (compareOp .In) (rInD K false) := by
  subst e
  intro pins s σ H x y v u Q I rx ry h
  unfold rInD at h
  obtain ⟨p, ds, d, rfl, r1, r2, h1, h2, q⟩ := h
  cases ry
  obtain ⟨as, q1⟩ := reads_of I r1 (u := .ref p) rfl
  obtain ⟨bs, q2⟩ := reads_of I r2 rx
  exact SeqAt.in_list_reads q1 q2 (SeqAt.canLay_of_shaped h1) (SeqAt.canLay_of_shaped h2) (PyProof.Rows.room_in_shaped h2 (by have := hr.un; lia)) ⟨.bl _, H, I, rfl, q⟩
theorem notInD (K : PySem.W.Frag) {k : Nat} (hr : Room k X.A) (e : X.K = K := by rfl) : OpR X (compareOp .NotIn) (rInD K true) := by
  subst e
  intro pins s σ H x y v u Q I rx ry h
  unfold rInD at h
  obtain ⟨p, ds, d, rfl, r1, r2, h1, h2, q⟩ := h
  cases ry
  obtain ⟨as, q1⟩ := reads_of I r1 (u := .ref p) rfl
  obtain ⟨bs, q2⟩ := reads_of I r2 rx
  exact SeqAt.notIn_list_reads q1 q2 (SeqAt.canLay_of_shaped h1) (SeqAt.canLay_of_shaped h2) (PyProof.Rows.room_in_shaped h2 (by have := hr.un; lia)) ⟨.bl _, H, I, rfl, q⟩
end
theorem any_nD (q : Rat) : ∀ qs : List Rat, ((qs.map nD).any fun y => PyData.eqv y (nD q)) = decide (q ∈ qs)
  | [] => by simp
  | c :: r => by
    rw [List.map_cons, List.any_cons, nD_eqv, any_nD q r, Bool.eq_iff_iff]
    simp only [Bool.or_eq_true, decide_eq_true_eq, List.mem_cons]
    constructor
    · rintro (h | h)
      · exact .inl h.symm
      · exact .inr h
    · rintro (h | h)
      · exact .inl h.symm
      · exact .inr h
/-- a number in a list of numbers -/
theorem inN {K : PySem.W.Frag} {H : Hp} {x : V} {a : Addr} {xs : List V} {q : Rat} {qs : List Rat} {Q : VK} {neg : Bool} (h1 : NumV K H x q) (s2 : SqL K H a xs) (n2 : Nums K H xs qs) (h : Q (.bl (if neg then !decide (q ∈ qs) else decide (q ∈ qs))) H) : rInD K neg x (.ref a) H Q :=
  inD_of ⟨a, _, _, rfl, n2.rdsL s2, h1.rds, nDs_shL _, nD_shaped _, by rw [any_nD]; exact h⟩
/-! ### points: tuples of numbers in a tuple -/
def PtV (K : PySem.W.Frag) (H : Hp) (x : V) (ps : List Rat) : Prop := ∃ a, x = .ref a ∧ Crv K H a ps
theorem PtV.same {K : PySem.W.Frag} {H H' : Hp} {x : V} {ps : List Rat} (h : PtV K H x ps) (e : Same H H') : PtV K H' x ps := let ⟨a, h1, h2⟩ := h; ⟨a, h1, h2.same e⟩
/-! ### told numbers -/
structure Told where
  x : Rat
  k : Int
  n : Rat
deriving DecidableEq
end L2

/-! own layer, part 13: xs[::-1] -/
namespace L2
open PySem PySem.Spec PyProof.Rows
section
variable {X : Cx} {e : Expr} {te : TE}
theorem vals_rev : ∀ {xs : List V} {us : List Value}, Vals xs us → Vals xs.reverse us.reverse
  | _, _, .nil => .nil
  | x :: xs, u :: us, .cons r t => by
    rw [List.reverse_cons, List.reverse_cons]
    exact (vals_rev t).snoc r
end
/-! ### tuples as targets of a comprehension -/
def StaysS (t : TGs) (nt : Nat) : Prop := ∀ (vs : List V) (σ : St) (H : Hp) (Q : St → Hp → Prop) (σ0 : St), (σ.length = σ0.length ∧ σ.drop nt = σ0.drop nt) → t vs σ H Q → t vs σ H fun σ2 H2 => (σ2.length = σ0.length ∧ σ2.drop nt = σ0.drop nt) ∧ Q σ2 H2
theorem stays_nilS {nt : Nat} : StaysS gNil nt := fun _ _ _ _ _ r ⟨e, q⟩ => ⟨e, r, q⟩
theorem stays_consS {i nt : Nat} {u : TGs} (h : i < nt) (hu : StaysS u nt) : StaysS (gCons (gName i) u) nt := fun vs σ H Q σ0 r ⟨v, rs, e, q⟩ => ⟨v, rs, e, hu rs (σ.set i (some v)) H Q σ0 ⟨by rw [List.length_set]; exact r.1, by
  rw [← r.2]
  apply List.ext_getElem?
  intro k
  rw [List.getElem?_drop, List.getElem?_drop, List.getElem?_set_ne (by lia)]⟩ q⟩
theorem stays_tup {K : PySem.W.Frag} {n nt : Nat} {t : TGs} (h : StaysS t nt) : Stays (gTup K n t) nt := fun _ σ H Q ⟨a, xs, e, s, l, q⟩ => ⟨a, xs, e, s, l, h xs σ H Q σ ⟨rfl, rfl⟩ q⟩
end L2

/-! own layer, part 14: curves are one where they come to the same; a division is one -/
namespace L2
def addL : List Rat → List Rat → List Rat
  | [], m => m
  | a :: l, [] => a :: l
  | a :: l, b :: m => (a + b) :: addL l m
open PySem PySem.Spec PyProof.Rows
/-- a comprehension over a tuple -/
theorem lc_tup {K : PySem.W.Frag} {a : Addr} {js : List Nat} {xs : List V} {te : TE} {σ : St} {H : Hp} {Fin : List V → Hp → Prop} (Pv : Nat → List V → Hp → Prop) (h0 : Pv 0 [] H)
    (hl : ∀ i zs H, i ≤ xs.length → Pv i zs H → SqT K H a xs ∧ zs.length = i) (hz : xs.length ≤ sizeLine)
    (hs : ∀ i x zs H, xs[i]? = some x → Pv i zs H → te ((cS 1 js σ).set 0 (some x)) H fun y H4 => Pv (i + 1) (zs ++ [y]) H4) (fin : ∀ zs H', Pv xs.length zs H' → Fin zs H') :
    ∃ (n' : Nat) (W : Nat → List V → Hp → Prop), W 0 [] H ∧ LcW (Itt K a) n' 1 js σ (gName 0) tYes te Fin W := by
  refine ⟨xs.length, Pv, h0, ⟨?_, ?_, ?_⟩⟩
  · intro i zs H' hi p
    obtain ⟨h1, h2⟩ := hl i zs H' (Nat.le_of_lt hi) p
    exact ⟨⟨xs, xs[i], h1, by simp [hi]⟩, by lia⟩
  · rintro i zs H' x H1 hi p ⟨rfl, y⟩
    exact hs i x zs _ (y xs (hl i zs _ (Nat.le_of_lt hi) p).1) p
  · intro zs H' p
    obtain ⟨h1, h2⟩ := hl _ zs H' (Nat.le_refl _) p
    exact ⟨⟨xs, h1, Nat.le_refl _⟩, by lia, fin zs H' p⟩
end L2

/-! own layer, part 15: heights between two places -/
namespace L2
/-! how many ways there are to take k of n -/
def ch : Nat → Nat → Nat
  | _, 0 => 1
  | 0, _ + 1 => 0
  | n + 1, k + 1 => ch n k + ch n (k + 1)
/-! neighbours added, neighbours meant -/
/-! lists -/
def aQ (l : List Rat) : List Rat := (List.range (l.length - 1)).map fun j => l.getD j 0 + l.getD (j + 1) 0
def aQN : Nat → List Rat → List Rat
  | 0, l => l
  | n + 1, l => aQ (aQN n l)
/-- the numbers along the stretch, each over how many ways there are -/
def partsQ (al : List Rat) : List Rat := (List.range al.length).map fun k => al.getD k 0 / ((ch (al.length - 1) k : Nat) : Rat)
def htsQ (al : List Rat) : List Rat := (List.range al.length).map fun j => (aQN j (partsQ al)).getD 0 0
/-! a curve put together with a line, number by number -/
def goL (a b : Rat) : Rat → List Rat → List Rat
  | p, [] => [a * p]
  | p, c :: r => (a * p + b * c) :: goL a b c r
def compL (a b : Rat) : List Rat → List Rat
  | [] => []
  | q :: r => match compL a b r with
    | [] => [q]
    | c :: s => (q + b * c) :: goL a b c s
/-- the heights of a curve between two places -/
def hts (cs : List Rat) (lo hi : Rat) : List Rat := if cs = [] then [0] else htsQ (compL (hi - lo) lo cs)
end L2

/-! own layer, part 16: differences of a curve's heights, and their sums -/
namespace L2
/-! whole heights -/
end L2

/-! own layer, part 17: the least and the greatest of a list of ints, and where one stands -/
namespace L2
open PySem PySem.Spec PyProof.Rows PySem.SeqAt
end L2

/-! own layer, part 18: slopes of curves; curves that are nought at told places -/
namespace L2
/-- the curve about a place -/
def ty (x : Rat) : List Rat → List Rat
  | [] => []
  | q :: r => addL (q :: ty x r) ((ty x r).map (· * x))
end L2

/-! own layer, part 19: products of lines, and shares -/
namespace L2
end L2

/-! own layer, part 20: a comprehension with a test -/
namespace L2
open PySem PySem.Spec PyProof.Rows
end L2

/-! own layer, part 21: a tuple so many times -/
namespace PySem
open Sem (wp)
open Builtin
set_option maxRecDepth 100000
end PySem
namespace L2
open PySem PySem.Spec PyProof.Rows
variable {X : Cx}
end L2

/-! own layer, part 22: lists and tuples of tuples of numbers are compared -/
namespace L2
open PySem PySem.Spec PyProof.Rows
end L2

/-! own layer, part 23: numbers that are told of by their own object; dicts with such keys -/
namespace L2
open PySem PySem.Spec PyProof.Rows
/-- a number as a key -/
def kQ (q : Rat) : List Key := [.inl q.num, .inl (q.den : Int)]
theorem kQ_inj {p q : Rat} (h : kQ p = kQ q) : p = q := by
  unfold kQ at h
  injection h with h1 h2
  injection h2 with h2 _
  injection h1 with h1
  injection h2 with h2
  exact Rat.ext h1 (Int.ofNat.inj h2)
def NumT (H : Hp) (x : V) (q : Rat) : Prop := ∃ r, x = .ref r ∧ H r = some (nT q)
abbrev NumsT (H : Hp) : List V → List Rat → Prop := Paired (NumT H)
theorem NumT.num {K : PySem.W.Frag} {H : Hp} {x : V} {q : Rat} (h : NumT H x q) : NumV K H x q := let ⟨r, e, h⟩ := h; ⟨r, e, SqT.of h⟩
theorem NumT.same {H H' : Hp} {x : V} {q : Rat} (h : NumT H x q) (e : Same H H') : NumT H' x q := let ⟨r, z, h⟩ := h; ⟨r, z, e _ _ h⟩
theorem NumT.mv {H H' : Hp} {x : V} {q : Rat} {p : Addr} (h : NumT H x q) (pn : Pen H p) (m : Mv p H H') : NumT H' x q := let ⟨r, z, h⟩ := h; ⟨r, z, m r _ (pn.ne h (nT_ne q)) h⟩
theorem NumT.put {H : Hp} {x : V} {q : Rat} {p : Addr} {ys : List V} {o : HO} (h : NumT H x q) (hp : H p = some (.lst ys)) : NumT (upd H p o) x q := let ⟨r, z, h⟩ := h; ⟨r, z, by rw [upd_ne (ne_of h hp (fun z => by cases z))]; exact h⟩
theorem NumsT.nums {K : PySem.W.Frag} {H : Hp} {xs : List V} {qs : List Rat} (h : NumsT H xs qs) : Nums K H xs qs := Paired.mapP h fun _ _ z => z.num
theorem NumsT.same {H H' : Hp} {xs : List V} {qs : List Rat} (h : NumsT H xs qs) (e : Same H H') : NumsT H' xs qs := Paired.mapP h fun _ _ z => z.same e
theorem NumsT.mv {H H' : Hp} {xs : List V} {qs : List Rat} {p : Addr} (h : NumsT H xs qs) (pn : Pen H p) (m : Mv p H H') : NumsT H' xs qs := Paired.mapP h fun _ _ z => z.mv pn m
theorem NumsT.put {H : Hp} {xs : List V} {qs : List Rat} {p : Addr} {ys : List V} {o : HO} (h : NumsT H xs qs) (hp : H p = some (.lst ys)) : NumsT (upd H p o) xs qs := Paired.mapP h fun _ _ z => z.put hp
/-- a point whose place is told of by its own object -/
def PtT (K : PySem.W.Frag) (H : Hp) (x : V) (ps : List Rat) : Prop := ∃ a us p, x = .ref a ∧ SqT K H a us ∧ Nums K H us ps ∧ us[0]? = some (.ref p) ∧ H p = some (nT (ps.getD 0 0))
abbrev PtsT (K : PySem.W.Frag) (H : Hp) : List V → List (List Rat) → Prop := Paired (PtT K H)
section
variable {K : PySem.W.Frag} {H H' : Hp} {x : V} {ps : List Rat} {xs : List V} {pss : List (List Rat)} {p : Addr} {ys : List V} {o : HO}
theorem PtT.pt (h : PtT K H x ps) : PtV K H x ps := let ⟨a, us, _, e, h1, h2, _⟩ := h; ⟨a, e, us, h1, h2⟩
theorem PtT.same (h : PtT K H x ps) (e : Same H H') : PtT K H' x ps := let ⟨a, us, b, z, h1, h2, h3, h4⟩ := h; ⟨a, us, b, z, h1.same e, h2.same e, h3, e _ _ h4⟩
theorem PtT.mv (h : PtT K H x ps) (pn : Pen H p) (m : Mv p H H') : PtT K H' x ps := let ⟨a, us, b, z, h1, h2, h3, h4⟩ := h; ⟨a, us, b, z, h1.mv pn m, h2.mv pn m, h3, m b _ (pn.ne h4 (nT_ne _)) h4⟩
theorem PtT.put (h : PtT K H x ps) (hp : H p = some (.lst ys)) : PtT K (upd H p o) x ps := let ⟨a, us, b, z, h1, h2, h3, h4⟩ := h; ⟨a, us, b, z, h1.put hp, h2.put hp, h3, by rw [upd_ne (ne_of h4 hp (fun z => by cases z))]; exact h4⟩
theorem PtsT.same (h : PtsT K H xs pss) (e : Same H H') : PtsT K H' xs pss := Paired.mapP h fun _ _ z => z.same e
theorem PtsT.mv (h : PtsT K H xs pss) (pn : Pen H p) (m : Mv p H H') : PtsT K H' xs pss := Paired.mapP h fun _ _ z => z.mv pn m
theorem PtsT.put (h : PtsT K H xs pss) (hp : H p = some (.lst ys)) : PtsT K (upd H p o) xs pss := Paired.mapP h fun _ _ z => z.put hp
end
/-- what is told, its place told of by its own object -/
def TlT (K : PySem.W.Frag) (H : Hp) (v : V) (t : Told) : Prop := ∃ a p rn, v = .ref a ∧ SqT K H a [.ref p, .int t.k, rn] ∧ H p = some (nT t.x) ∧ NumV K H rn t.n
abbrev TlsT (K : PySem.W.Frag) (H : Hp) : List V → List Told → Prop := Paired (TlT K H)
section
variable {K : PySem.W.Frag} {H H' : Hp} {x : V} {t : Told} {xs : List V} {ts : List Told} {p : Addr} {ys : List V} {o : HO}
theorem TlT.same (h : TlT K H x t) (e : Same H H') : TlT K H' x t := let ⟨a, b, rn, z, h1, h2, h3⟩ := h; ⟨a, b, rn, z, h1.same e, e _ _ h2, h3.same e⟩
theorem TlT.put (h : TlT K H x t) (hp : H p = some (.lst ys)) : TlT K (upd H p o) x t := let ⟨a, b, rn, z, h1, h2, h3⟩ := h; ⟨a, b, rn, z, h1.put hp, by rw [upd_ne (ne_of h2 hp (fun z => by cases z))]; exact h2, h3.put hp⟩
theorem TlsT.same (h : TlsT K H xs ts) (e : Same H H') : TlsT K H' xs ts := Paired.mapP h fun _ _ z => z.same e
theorem TlsT.put (h : TlsT K H xs ts) (hp : H p = some (.lst ys)) : TlsT K (upd H p o) xs ts := Paired.mapP h fun _ _ z => z.put hp
end
end L2

/-! own layer, part 24: steps from a table, and the curve that they make -/
namespace L2
end L2

/-! own layer, part 25: the whole of a tuple, cut out -/
namespace HT
open PySem PyProof.Rows
open PySem.SeqAt
open PySem.AutoSeq1 (wpAny_loadPart')
open PySem.MeetsSeq PySem.MeetsSeq2 PySem.MeetsSeq3
theorem getItem_tuple_whole {prog : Program} {w : World} {A : Around} {E : Value → Shared → Prop} {s : Shared} {t sl : Addr} {items : Array Value} {vl vu : Value} {lo hi : Option Int} {Q : Value → Shared → Prop} (ht : IsTup s.heap t items) (hs : s.heap.IsSliceOf sl vl vu .none) (pl : IsPart vl lo) (pu : IsPart vu hi)
    (hw : sIx items.size 0 lo = 0 ∧ sIx items.size items.size hi = items.size) (h : Q (.ref t) s) : wpAny (model prog w) A (getItem (.ref t) (.ref sl)) Q E s := by
  obtain ⟨os, hos, hcs, hds⟩ := id hs
  have hTs : s.TypeIs (.ref sl) "slice" := ⟨os, hos, hcs⟩
  unfold getItem
  try with_reducible refine wpAny_holding ?_
  first | refine wpAny_bind (wpAny_pure ?_) | skip
  refine wpAny_bind (wpAny_sequenceKey ht.typeIs (by decide) ?_)
  refine wpAny_bind (wpAny_callSpecial?_slot (name := Str.ofString "__getitem__") ht.typeIs PyProof.Rows.slot_tuple_getitem
    (wpAny_call_entry PyProof.Rows.slot_tuple_getitem ht.typeIs entry_tuple_getitem ?_ (args_tuple_getitem _ _)))
  show wpAny _ _ (Builtin.Tuple.tupleItemsOf (.ref t) >>= _) _ _ s
  refine wpAny_bind (tupleItemsOf_ ht ?_)
  refine wpAny_bind (wpAny_typeOf hTs ?_)
  rw [if_pos (by decide)]
  refine wpAny_bind (sliceApplied_gen hs pl pu ?_)
  have hyes : (((sIx items.size 0 lo : Nat) : Int) == 0 && (1 : Int) == 1 && (sIx items.size items.size hi - sIx items.size 0 lo) == items.size) = true := by
    rw [hw.1, hw.2]; simp
  show wpAny _ _ (if (((sIx items.size 0 lo : Nat) : Int) == 0 && (1 : Int) == 1 && (sIx items.size items.size hi - sIx items.size 0 lo) == items.size) = true then _ else _) _ _ s
  rw [if_pos hyes]
  refine wpAny_bind ?_
  refine wpAny_bind (wpAny_typeOf ht.typeIs ?_)
  refine wpAny_pure ?_
  rw [if_pos (by decide)]
  first
    | exact wpAny_bind (wpAny_rule (wpAny_pure ⟨_, rfl, wpAny_pure h⟩))
    | exact wpAny_pure ⟨_, rfl, wpAny_pure h⟩
    | trace_state
end HT
namespace L2
open PySem PySem.Spec PyProof.Rows
section
variable {X : Cx} {K : PySem.W.Frag}
/-- t[lo:hi] that is all of t: t itself -/
inductive rSlTW (K : PySem.W.Frag) (x : V) (lo : Option Int) (hi : Option Int) (H : Hp) (Q : VK) : Prop
  | mk (a : _) (xs : _) (h1 : x = .ref a) (h2 : SqT K H a xs) (h3 : (HT.sIx xs.length 0 lo = 0 ∧ HT.sIx xs.length xs.length hi = xs.length)) (h4 : Q (.ref a) H) : rSlTW K x lo hi H Q
theorem sl_tupW : SlR X (rSlTW X.K) := by
  intro pins s σ H x v vl vu lo hi sl Q I rx hs pl pu h
  obtain ⟨a, xs, rfl, hx, hw, q⟩ := h
  cases rx
  obtain ⟨its, r, ht, hz⟩ := I.tuple hx
  have hlen : its.toArray.size = xs.length := by rw [List.size_toArray]; exact r.length.symm
  refine ⟨"tuple", _, PyProof.Rows.slot_tuple_getitem.lookup, ht.typeIs, ?_⟩
  exact HT.getItem_tuple_whole ht hs pl pu (by rw [hlen]; exact hw) ⟨.ref a, H, I, rfl, q⟩
/-- a tuple's part, or the whole of it -/
def rSlTA (K : PySem.W.Frag) : V → Option Int → Option Int → Hp → VK → Prop := fun x lo hi H Q => rSlT K x lo hi H Q ∨ rSlTW K x lo hi H Q
theorem slTA (K : PySem.W.Frag) (e : X.K = K := by rfl) : SlR X (rSlTA K) := by subst e; exact SlR.or sl_tup sl_tupW
end
theorem cut_to (xs : List V) (v : Nat) : cutV xs none (some (v : Int)) = xs.take v := by
  unfold cutV
  have e1 : HT.sIx xs.length 0 none = 0 := rfl
  have e2 : HT.sIx xs.length xs.length (some (v : Int)) = min v xs.length := HT.sIx_nat _ _ v
  rw [e1, e2, List.drop_zero, Nat.sub_zero]
  by_cases h : v ≤ xs.length
  · rw [Nat.min_eq_left h]
  · rw [Nat.min_eq_right (by lia), List.take_of_length_le (Nat.le_refl _), List.take_of_length_le (by lia)]
end L2

/-! own layer, part 26: the sum of a list of ints; tuple + tuple, the first one empty too -/
namespace L2
open PySem PySem.Spec PyProof.Rows PySem.SeqAt
section
variable {X : Cx}
theorem _root_.HT.cat_tup0 {prog : Program} {w : World} {A : Around} {E : Value → Shared → Prop} {s : Shared} {t b : Addr} {ws : List Value} {Q : Value → Shared → Prop} (ht : IsTup s.heap t ([] : List Value).toArray) (hb : IsTup s.heap b ws.toArray)
    (h1 : Q (.ref b) s) : wpAny (model prog w) A (binaryOp .Add (.ref t) (.ref b)) Q E s := by
  obtain ⟨⟨cls, dd, data, sl⟩, ho, hc, n, hd⟩ := id ht
  obtain ⟨⟨cls2, dd2, data2, sl2⟩, ho2, hc2, n2, hd2⟩ := id hb
  simp only at hc hd hc2 hd2
  subst hc hd hc2 hd2
  exact concat_meets ⟨_, ho, rfl⟩ ⟨_, ho2, rfl⟩ noFill_tuple_add seq_tuple_add PySem.F.slot_tuple_add PySem.F.entry_tuple_add (PySem.F.args_tuple_add_2 _ _)
      (tuple_addW0 t b ([] : List Value).toArray ws.toArray n n2 dd dd2 sl sl2 (by simp)) ⟨ho, ho2, h1⟩
/-- t + u, whatever they hold -/
def rCatTA (K : PySem.W.Frag) : R2 := fun x y H Q => rCatT K x y H Q ∨ ∃ a b ys, x = .ref a ∧ y = .ref b ∧ SqT K H a [] ∧ SqT K H b ys ∧ Q (.ref b) H
theorem op_catTA : OpR X (binaryOp .Add) (rCatTA X.K) := by
  intro pins s σ H x y v u Q I rx ry h
  rcases h with h | ⟨a, b, ys, rfl, rfl, ha, hb, q⟩
  · exact op_catT pins s σ H x y v u Q I rx ry h
  · cases rx
    cases ry
    obtain ⟨its, r1, p1, _⟩ := I.tuple ha
    obtain ⟨its2, r2, p2, _⟩ := I.tuple hb
    cases r1
    exact HT.cat_tup0 p1 p2 ⟨.ref b, H, I, rfl, q⟩
theorem catTA (K : PySem.W.Frag) (e : X.K = K := by rfl) : OpR X (binaryOp .Add) (rCatTA K) := by subst e; exact op_catTA
end
theorem cut_from (xs : List V) (v : Nat) : cutV xs (some (v : Int)) none = xs.drop v := by
  unfold cutV
  have e1 : HT.sIx xs.length 0 (some (v : Int)) = min v xs.length := HT.sIx_nat _ _ v
  have e2 : HT.sIx xs.length xs.length none = xs.length := rfl
  rw [e1, e2]
  by_cases h : v ≤ xs.length
  · rw [Nat.min_eq_left h, List.take_of_length_le (by rw [List.length_drop]; exact Nat.le_refl _)]
  · rw [Nat.min_eq_right (by lia), Nat.sub_self, List.take_zero, List.drop_eq_nil_of_le (by lia)]
end L2

/-! own layer, part 27: zip of two lists, in a loop with a tuple of targets -/
namespace L2
open PySem PySem.Spec PyProof.Rows
section
variable {X : Cx} {pins : List (Addr × Obj)} {σ : List (Option V)} {H : Hp} {s : Shared} {h' : Heap}
end
section
variable {X : Cx}
end
end L2

/-! own layer, part 28: the table of a set, where its places are found -/
namespace L2
open PySem PySem.Spec PyProof.Rows
namespace St
open SetTable
def it (mask : Nat) : Nat → Nat → Nat
  | 0, i => i
  | n + 1, i => it mask n ((i * 5 + 1) % (mask + 1))
theorem cover7 : ∀ i : Fin 8, ∀ e : Fin 8, ∃ m : Fin 8, it 7 m.val i.val = e.val := by decide +kernel
theorem cover31 : ∀ i : Fin 32, ∀ e : Fin 32, ∃ m : Fin 32, it 31 m.val i.val = e.val := by decide +kernel
theorem cover {mask : Nat} (hm : mask = 7 ∨ mask = 31) {i e : Nat} (hi : i < mask + 1) (he : e < mask + 1) : ∃ m, m ≤ mask ∧ it mask m i = e := by
  rcases hm with rfl | rfl
  · obtain ⟨m, h⟩ := cover7 ⟨i, hi⟩ ⟨e, he⟩
    exact ⟨m.val, by lia, h⟩
  · obtain ⟨m, h⟩ := cover31 ⟨i, hi⟩ ⟨e, he⟩
    exact ⟨m.val, by lia, h⟩
/-- the places at which a run begins -/
def bs (mask : Nat) (b : Nat) : Nat → Nat × Nat
  | 0 => (b % (mask + 1), b)
  | n + 1 => leap mask (bs mask b n).1 (bs mask b n).2
theorem bs_pert (mask b : Nat) : ∀ n, (bs mask b n).2 = b / 32 ^ n
  | 0 => by show b = b / 1; rw [Nat.div_one]
  | n + 1 => by
    show (bs mask b n).2 / 32 = _
    rw [bs_pert mask b n, Nat.div_div_eq_div_mul, Nat.pow_succ]
theorem bs_lt (mask b : Nat) : ∀ n, (bs mask b n).1 < mask + 1
  | 0 => Nat.mod_lt _ (Nat.succ_pos _)
  | _ + 1 => Nat.mod_lt _ (Nat.succ_pos _)
theorem bits_lt (h : Int) : bits h < 2 ^ 64 := by
  unfold bits
  have h1 : (0 : Int) ≤ h % 2 ^ 64 := Int.emod_nonneg _ (by decide)
  have h2 : h % 2 ^ 64 < 2 ^ 64 := Int.emod_lt_of_pos _ (by decide)
  lia
theorem bs_late {mask b n : Nat} (hb : b < 2 ^ 64) (hn : 13 ≤ n) : (bs mask b n).2 = 0 := by
  rw [bs_pert]
  refine Nat.div_eq_of_lt (Nat.lt_of_lt_of_le hb ?_)
  exact Nat.le_trans (by decide : 2 ^ 64 ≤ 32 ^ 13) (Nat.pow_le_pow_right (by decide) hn)
theorem bs_cyc {mask b : Nat} (hb : b < 2 ^ 64) : ∀ m n, 13 ≤ n → (bs mask b (n + m)).1 = it mask m (bs mask b n).1
  | 0, n, _ => rfl
  | m + 1, n, hn => by
    have ih := bs_cyc (mask := mask) hb m (n + 1) (by lia)
    rw [show n + (m + 1) = n + 1 + m by lia, ih]
    show it mask m (leap mask (bs mask b n).1 (bs mask b n).2).1 = it mask m (((bs mask b n).1 * 5 + 1) % (mask + 1))
    rw [bs_late hb hn]
    rfl
theorem bs_hits {mask b e : Nat} (hm : mask = 7 ∨ mask = 31) (hb : b < 2 ^ 64) (he : e < mask + 1) : ∃ n, n ≤ 13 + mask ∧ (bs mask b n).1 = e := by
  obtain ⟨m, h1, h2⟩ := cover hm (bs_lt mask b 13) he
  exact ⟨13 + m, by lia, by rw [bs_cyc hb m 13 (Nat.le_refl _)]; exact h2⟩
def base (mask i pert : Nat) : Probe := { j := i, more := runEnd mask i - i, i, perturb := pert, dummy := none }
def advs (t : SetTable) : Nat → Probe → Probe
  | 0, p => p
  | n + 1, p => advs t n (t.advance p)
theorem advs_add (t : SetTable) : ∀ m n p, advs t (m + n) p = advs t n (advs t m p)
  | 0, n, p => by rw [Nat.zero_add]; rfl
  | m + 1, n, p => by rw [show m + 1 + n = (m + n) + 1 by lia]; exact advs_add t m n _
theorem run_le (mask i : Nat) : runEnd mask i - i ≤ 9 := by unfold runEnd; split <;> lia
theorem advs_run (t : SetTable) : ∀ (r j i pert : Nat), advs t (r + 1) { j := j, more := r, i := i, perturb := pert, dummy := none } = base t.mask (leap t.mask i pert).1 (leap t.mask i pert).2
  | 0, j, i, pert => rfl
  | r + 1, j, i, pert => by
    have ih := advs_run t r (j + 1) i pert
    show advs t (r + 1) (t.advance { j := j, more := r + 1, i := i, perturb := pert, dummy := none }) = _
    rw [← ih]
    rfl
theorem reach (t : SetTable) (h : Int) : ∀ n, ∃ k, k ≤ 10 * n ∧ advs t k (t.probeStart h) = base t.mask (bs t.mask (bits h) n).1 (bs t.mask (bits h) n).2
  | 0 => ⟨0, Nat.le_refl _, rfl⟩
  | n + 1 => by
    obtain ⟨k, hk, e⟩ := reach t h n
    refine ⟨k + (runEnd t.mask (bs t.mask (bits h) n).1 - (bs t.mask (bits h) n).1 + 1), ?_, ?_⟩
    · have := run_le t.mask (bs t.mask (bits h) n).1
      lia
    · rw [advs_add, e]
      exact advs_run t _ _ _ _
theorem slot_empty {t : SetTable} (hd : t.dummies = #[]) {e : Nat} (he : ∀ i : Nat, t.place[i]? ≠ some e) : t.slot e = .empty := by
  unfold slot
  have h1 : (t.place[below t.place e]? == some e) = false := by
    rw [beq_eq_false_iff_ne]; exact he _
  have h2 : has t.dummies e = false := by
    rw [hd]; unfold has; rfl
  simp only [h1, h2]
  rfl
theorem slot_cases {t : SetTable} (hd : t.dummies = #[]) (j : Nat) : t.slot j = .empty ∨ ∃ i, t.slot j = .live i ∧ t.place[i]? = some j := by
  by_cases h : t.place[below t.place j]? = some j
  · refine .inr ⟨below t.place j, ?_, h⟩
    unfold slot
    have h1 : (t.place[below t.place j]? == some j) = true := by rw [h]; exact beq_self_eq_true _
    simp only [h1]
    rfl
  · refine .inl ?_
    unfold slot
    have h1 : (t.place[below t.place j]? == some j) = false := by rw [beq_eq_false_iff_ne]; exact h
    have h2 : has t.dummies j = false := by rw [hd]; unfold has; rfl
    simp only [h1, h2]
    rfl
def Hit (t : SetTable) (k : Nat) (p : Probe) : Prop := t.slot (advs t k p).j = .empty
theorem adv_dummy (t : SetTable) {p : Probe} (h : p.dummy = none) : (t.advance p).dummy = none := by
  unfold advance
  split
  · exact h
  · exact h
theorem nd_le : ∀ {l m : List Nat}, l.Nodup → (∀ x, x ∈ l → x ∈ m) → l.length ≤ m.length
  | [], m, _, _ => Nat.zero_le _
  | a :: l, m, hn, hs => by
    rw [List.nodup_cons] at hn
    have ha := hs a List.mem_cons_self
    have ih := nd_le (l := l) (m := m.erase a) hn.2 fun x hx => (List.mem_erase_of_ne (fun e : x = a => hn.1 (e ▸ hx))).mpr (hs x (List.mem_cons_of_mem _ hx))
    rw [List.length_erase_of_mem ha] at ih
    have := List.length_pos_of_mem ha
    rw [List.length_cons]; lia
/-- from the start some empty slot is met soon -/
theorem start_hit {t : SetTable} (hm : t.mask = 7 ∨ t.mask = 31) (hd : t.dummies = #[]) (hs : t.place.size ≤ t.mask) (h : Int) : ∃ k, k < 10 * turns t.mask ∧ Hit t k (t.probeStart h) := by
  have he : ∃ e, e < t.mask + 1 ∧ ∀ i : Nat, t.place[i]? ≠ some e := by
    refine Classical.byContradiction fun hn => ?_
    have hall : ∀ e, e < t.mask + 1 → e ∈ t.place.toList := fun e he => by
      refine Classical.byContradiction fun hne => hn ⟨e, he, fun i hi => hne ?_⟩
      exact List.mem_of_getElem? (by rw [Array.getElem?_toList]; exact hi)
    have hsub : (List.range (t.mask + 1)).Subset t.place.toList := fun e he => hall e (List.mem_range.mp he)
    have hlen := nd_le (List.nodup_range (n := t.mask + 1)) hsub
    rw [List.length_range, Array.length_toList] at hlen
    lia
  obtain ⟨e, he1, he2⟩ := he
  obtain ⟨n, hn, hb⟩ := bs_hits (b := bits h) hm (bits_lt h) he1
  obtain ⟨k, hk, hr⟩ := reach t h n
  refine ⟨k, ?_, ?_⟩
  · unfold turns; lia
  · unfold Hit
    rw [hr]
    show t.slot (bs t.mask (bits h) n).1 = _
    rw [hb]
    exact slot_empty hd he2
end St
end L2

/-! own layer, part 29: a number put into a set -/
namespace L2
open PySem PySem.Spec PyProof.Rows
namespace St
open SetTable
section
variable {prog : Program} {w : World} {K : Type} [DecidableEq K] (knd : KeyKind prog w K)
/-- a tuple of ints at a, as a key -/
def IsN (h : Heap) (ks : List K) (a : Addr) : Prop := ∃ o items n, h.get? a = some o ∧ o.cls = .type "tuple" ∧ o.data = .seq items n ∧ ItemsAre knd ks items.toList ∧ ∀ v ∈ items.toList, ∃ k t, v = .int k t
variable {knd}
theorem IsN.key {h : Heap} {ks : List K} {a : Addr} (x : IsN knd h ks a) : IsTupleKey knd h ks a := let ⟨o, i, n, h1, h2, h3, h4, _⟩ := x; ⟨o, i, n, h1, h2, h3, h4⟩
theorem IsN.keep {h h' : Heap} {ks : List K} {a : Addr} (x : IsN knd h ks a) (k : ∀ o, h.get? a = some o → h'.get? a = some o) : IsN knd h' ks a := let ⟨o, i, n, h1, h2⟩ := x; ⟨o, i, n, k o h1, h2⟩
variable {A : Around} {E : Value → Shared → Prop} {s : Shared}
theorem wpAny_seqItemsQ {M : Model} {a : Addr} {o : Obj} {items n} {Q : Option (Array Value) → Shared → Prop} (ho : s.heap.get? a = some o) (hd : o.data = .seq items n) (h : Q (some items) s) : wpAny M A (seqItems? (.ref a)) Q E s := by
  unfold seqItems?
  refine wpAny_bind (wpAny_load ho ?_)
  rw [hd]
  exact wpAny_pure h
theorem hashByValue_n {ks : List K} {a : Addr} {Q : Bool → Shared → Prop} (hk : IsN knd s.heap ks a) (h : Q true s) : wpAny (model prog w) A (hashByValue 8 (.ref a)) Q E s := by
  have hT := hk.key.typeIs
  obtain ⟨o, items, n, ho, _, hd, hi, hall⟩ := hk
  unfold hashByValue
  refine wpAny_bind (wpAny_specialOf hT F.slot_tuple_hash.lookup ?_)
  show wpAny _ _ (seqItems? (.ref a) >>= _) _ _ s
  refine wpAny_bind (wpAny_seqItemsQ ho hd ?_)
  refine wpAny_bind ?_
  show wpAny _ _ (forIn items _ _) _ _ s
  rw [← Array.forIn_toList]
  refine wpAny_forIn_list _ (fun rest r s' => r.1 = none ∧ s' = s ∧ ∀ v ∈ rest, ∃ k t, v = Value.int k t) _ ?_ ?_ _ _ ⟨rfl, rfl, hall⟩
  · rintro v rest r s' ⟨hr, rfl, hall⟩
    obtain ⟨k, t, rfl⟩ := hall v List.mem_cons_self
    refine wpAny_bind (m := hashByValue 7 (.int k t)) (wpAny_pure ?_)
    simp only [Bool.not_true, Bool.false_eq_true, if_false]
    exact wpAny_pure ⟨rfl, rfl, fun u hu' => hall u (List.mem_cons_of_mem _ hu')⟩
  · rintro ⟨r1, r2⟩ s' ⟨hr, rfl, _⟩
    simp only at hr
    subst hr
    exact wpAny_pure h
theorem ofClass_n {ks : List K} {a : Addr} {Q : Bool → Shared → Prop} (hk : IsN knd s.heap ks a) (h : Q false s) : wpAny (model prog w) A (ofAClassStatement 8 (.ref a)) Q E s := by
  have hT := hk.key.typeIs
  obtain ⟨o, items, n, ho, _, hd, hi, hall⟩ := hk
  unfold ofAClassStatement
  refine wpAny_bind (wpAny_typeOf hT ?_)
  refine wpAny_bind (m := pure true) (wpAny_pure ?_)
  simp only [Bool.not_true, Bool.false_eq_true, if_false]
  refine wpAny_bind (wpAny_seqItemsQ ho hd ?_)
  refine wpAny_bind ?_
  show wpAny _ _ (forIn items _ _) _ _ s
  rw [← Array.forIn_toList]
  refine wpAny_forIn_list _ (fun rest r s' => r.1 = none ∧ s' = s ∧ ∀ v ∈ rest, ∃ k t, v = Value.int k t) _ ?_ ?_ _ _ ⟨rfl, rfl, hall⟩
  · rintro v rest r s' ⟨hr, rfl, hall⟩
    obtain ⟨k, t, rfl⟩ := hall v List.mem_cons_self
    refine wpAny_bind (m := ofAClassStatement 7 (.int k t)) (wpAny_pure ?_)
    simp only [Bool.false_eq_true, if_false]
    exact wpAny_pure ⟨rfl, rfl, fun u hu' => hall u (List.mem_cons_of_mem _ hu')⟩
  · rintro ⟨r1, r2⟩ s' ⟨hr, rfl, _⟩
    simp only at hr
    subst hr
    exact wpAny_pure h
/-- elements of a set that are numbers, none of them the key ks -/
def Ns (knd : KeyKind prog w K) (h : Heap) (l : List Value) (ks : List K) : Prop := ∀ v ∈ l, ∃ b k', v = .ref b ∧ IsN knd h k' b ∧ k' ≠ ks
end
end St
end L2

/-! own layer, part 30: a set's table laid anew -/
namespace L2
open PySem PySem.Spec PyProof.Rows
namespace St
open SetTable
theorem free_ok {owner : Array (Option Nat)} {b e : Nat} (he : owner.getD e (some 0) = none) : ∀ (fuel m n : Nat), m < fuel → (bs 31 b (n + m)).1 = e →
    ∃ j, layClean.free 31 owner fuel (bs 31 b n).1 (bs 31 b n).2 = some j ∧ owner.getD j (some 0) = none
  | fuel + 1, m, n, hm, hb => by
    unfold layClean.free
    split
    · next k hk =>
      have := List.find?_some hk
      exact ⟨_, rfl, Option.isNone_iff_eq_none.mp this⟩
    · next hk =>
      cases m with
      | zero =>
        exfalso
        rw [List.find?_eq_none] at hk
        have h0 : (0 : Nat) ∈ List.range (runEnd 31 (bs 31 b n).1 + 1 - (bs 31 b n).1) := List.mem_range.mpr (by unfold runEnd; split <;> lia)
        have h1 := hk 0 h0
        rw [Nat.add_zero] at hb h1
        rw [hb, he] at h1
        exact h1 rfl
      | succ m =>
        obtain ⟨j, h1, h2⟩ := free_ok he fuel m (n + 1) (by lia) (by rw [show n + 1 + m = n + (m + 1) by lia]; exact hb)
        exact ⟨j, h1, h2⟩
def lv (owner : Array (Option Nat)) (j : Nat) : Option (Nat × Nat) := (owner.getD j none).map (j, ·)
theorem lv_set {owner : Array (Option Nat)} {j k : Nat} (hj : owner.getD j (some 0) = none) (hs : owner.size = 32) : (((List.range 32).filterMap (lv (owner.setIfInBounds j (some k)))).map (·.2)).Perm (k :: ((List.range 32).filterMap (lv owner)).map (·.2)) ∧ j < 32 := by
  have hjl : j < 32 := by
    refine Nat.lt_of_not_le fun hle => ?_
    rw [Array.getD_eq_getD_getElem?, Array.getElem?_eq_none (by lia)] at hj
    cases hj
  refine ⟨?_, hjl⟩
  have hsplit : List.range 32 = List.range j ++ j :: (List.range 32).drop (j + 1) := by
    have h1 : (List.range 32)[j]? = some j := List.getElem?_range hjl
    obtain ⟨hlt, hg⟩ := List.getElem?_eq_some_iff.mp h1
    have h2 := (List.take_append_drop j (List.range 32)).symm
    rw [List.drop_eq_getElem_cons hlt, hg, List.take_range, Nat.min_eq_left (by lia)] at h2
    exact h2
  have hne1 : ∀ a ∈ List.range j, lv (owner.setIfInBounds j (some k)) a = lv owner a := fun a ha => by
    have : a ≠ j := by have := List.mem_range.mp ha; lia
    unfold lv
    rw [Array.getD_eq_getD_getElem?, Array.getD_eq_getD_getElem?, Array.getElem?_setIfInBounds_ne (Ne.symm this)]
  have hne2 : ∀ a ∈ (List.range 32).drop (j + 1), lv (owner.setIfInBounds j (some k)) a = lv owner a := fun a ha => by
    have : a ≠ j := by
      obtain ⟨i, hi⟩ := List.getElem?_of_mem ha
      rw [List.getElem?_drop] at hi
      have hi2 := (List.getElem?_eq_some_iff.mp hi)
      obtain ⟨hl, hi3⟩ := hi2
      rw [List.getElem_range] at hi3
      lia
    unfold lv
    rw [Array.getD_eq_getD_getElem?, Array.getD_eq_getD_getElem?, Array.getElem?_setIfInBounds_ne (Ne.symm this)]
  have hnew : lv (owner.setIfInBounds j (some k)) j = some (j, k) := by
    unfold lv
    rw [Array.getD_eq_getD_getElem?, Array.getElem?_setIfInBounds_self_of_lt (by lia)]; rfl
  have hold : lv owner j = none := by
    unfold lv
    rw [Array.getD_eq_getD_getElem?] at hj ⊢
    have hlt : j < owner.size := by lia
    rw [Array.getElem?_eq_getElem hlt] at hj ⊢
    show (owner[j]).map _ = none
    have hj' : owner[j] = none := hj
    rw [hj']; rfl
  have hcong : ∀ {l : List Nat}, (∀ a ∈ l, lv (owner.setIfInBounds j (some k)) a = lv owner a) → l.filterMap (lv (owner.setIfInBounds j (some k))) = l.filterMap (lv owner) := fun {l} h => by
    induction l with
    | nil => rfl
    | cons a l ih =>
      rw [List.filterMap_cons, List.filterMap_cons, h a List.mem_cons_self, ih fun b hb => h b (List.mem_cons_of_mem _ hb)]
  rw [hsplit, List.filterMap_append, List.filterMap_append, List.filterMap_cons_some hnew, List.filterMap_cons_none hold, hcong hne1, hcong hne2, List.map_append, List.map_append, List.map_cons]
  exact List.perm_middle
/-- owner holds 0 .. k - 1, each once -/
def Own (owner : Array (Option Nat)) (k : Nat) : Prop := owner.size = 32 ∧ (((List.range 32).filterMap (lv owner)).map (·.2)).Perm (List.range k)
theorem own_free {owner : Array (Option Nat)} {k : Nat} (ho : Own owner k) (hk : k < 32) : ∃ e, e < 32 ∧ owner.getD e (some 0) = none := by
  refine Classical.byContradiction fun hn => ?_
  have hall : ∀ e, e < 32 → owner.getD e (some 0) ≠ none := fun e he z => hn ⟨e, he, z⟩
  have hlen := ho.2.length_eq
  rw [List.length_map, List.length_range] at hlen
  have hall2 : ∀ a ∈ List.range 32, (lv owner a).isSome = true := fun a ha => by
    have ha' := List.mem_range.mp ha
    have h1 := hall a ha'
    unfold lv
    rw [Array.getD_eq_getD_getElem?] at h1 ⊢
    have hlt : a < owner.size := by rw [ho.1]; exact ha'
    rw [Array.getElem?_eq_getElem hlt] at h1 ⊢
    cases hc : owner[a] with
    | none => rw [hc] at h1; exact absurd rfl h1
    | some v => show ((some v).map (fun x => (a, x))).isSome = true; rfl
  have hfl : ∀ {l : List Nat}, (∀ a ∈ l, (lv owner a).isSome = true) → (l.filterMap (lv owner)).length = l.length := fun {l} h => by
    induction l with
    | nil => rfl
    | cons a l ih =>
      obtain ⟨v, hv⟩ := Option.isSome_iff_exists.mp (h a List.mem_cons_self)
      rw [List.filterMap_cons_some hv, List.length_cons, List.length_cons, ih fun b hb => h b (List.mem_cons_of_mem _ hb)]
  rw [hfl hall2, List.length_range] at hlen
  lia
def stp (acc : Option (Array (Option Nat) × Nat)) (h : Int) : Option (Array (Option Nat) × Nat) := do
  let (owner, k) ← acc
  let j ← layClean.free 31 owner (turns 31) (bits h % (31 + 1)) (bits h)
  pure (owner.setIfInBounds j (some k), k + 1)
theorem stp_ok {owner : Array (Option Nat)} {k : Nat} (ho : Own owner k) (hk : k < 32) (h : Int) : ∃ owner', stp (some (owner, k)) h = some (owner', k + 1) ∧ Own owner' (k + 1) := by
  obtain ⟨e, he, hn⟩ := own_free ho hk
  obtain ⟨n, hn1, hn2⟩ := bs_hits (mask := 31) (b := bits h) (.inr rfl) (bits_lt h) (show e < 31 + 1 by lia)
  obtain ⟨j, hj1, hj2⟩ := free_ok (owner := owner) (b := bits h) hn (turns 31) n 0 (by unfold turns; lia) (by rw [Nat.zero_add]; exact hn2)
  have hp := lv_set (k := k) hj2 ho.1
  refine ⟨owner.setIfInBounds j (some k), ?_, ?_, ?_⟩
  · have hj1' : layClean.free 31 owner (turns 31) (bits h % (31 + 1)) (bits h) = some j := hj1
    show (do let j ← layClean.free 31 owner (turns 31) (bits h % (31 + 1)) (bits h); pure (owner.setIfInBounds j (some k), k + 1)) = _
    rw [hj1']; rfl
  · rw [Array.size_setIfInBounds]; exact ho.1
  · refine hp.1.trans ?_
    rw [show List.range (k + 1) = List.range k ++ [k] from List.range_succ]
    exact (List.Perm.cons k ho.2).trans (List.perm_append_comm (l₁ := [k]))
theorem own_none : Own (Array.replicate 32 none) 0 := by
  refine ⟨Array.size_replicate, ?_⟩
  have : (List.range 32).filterMap (lv (Array.replicate 32 none)) = [] := by decide +kernel
  rw [this]; exact List.Perm.refl _
end St
end L2

/-! own layer, part 31: a number put into a set of unlike numbers; set of a list of them; its length -/
namespace L2
open PySem PySem.Spec PyProof.Rows
namespace St
open SetTable
section
variable {prog : Program} {w : World} {K : Type} [DecidableEq K] (knd : KeyKind prog w K) (G : Addr → Prop)
variable {knd} {G}
variable {A : Around} {E : Value → Shared → Prop} {s : Shared}
theorem insert_size {α : Type} (xs : Array α) (p : Nat) (x : α) : (insertAt xs p x).size = xs.size + 1 := by
  have h := (SetTable.insertAt_perm xs p x).length_eq
  rw [Array.length_toList, Array.length_toList, Array.size_push] at h
  exact h
end
end St
end L2

/-! own layer, part 32: set of a list of unlike numbers, its length -/
namespace L2
open PySem PySem.Spec PyProof.Rows
namespace St
section
variable {prog : Program} {w : World} {K : Type} [DecidableEq K] {knd : KeyKind prog w K} {G : Addr → Prop} {A : Around} {R : Result → Shared → Prop} {I : Addr} {fp wr : List Addr} {GG : Array GenState → Array GenState → Prop} {n : Nat} {P : Nat → Value → Prop} {St : Nat → Shared → Prop}
/-- one turn of the loop that fills a set -/
theorem turn_of {S : Addr} {s : Shared} (hz : wpAny (model prog w) A.in1 (Builtin.«set.update.loop» ⟨[.ref S, .ref I], []⟩)
      (fun fin s' => match fin with | .done f => R (.ok f) s' | .again c' => c'.quiet = true ∧ codeAny (model prog w) A c' R s') (fun e s' => R (.error e) s') s) :
    codeAny (model prog w) A (.builtin "set.update.loop" ⟨[.ref S, .ref I], []⟩) R s :=
  codeAny_builtin F.entry_set_update_loop ((Around.under_plainId F.plain_set_update_loop (A := A) ⟨[.ref S, .ref I], []⟩).symm ▸ hz)
end
section
variable {prog : Program} {w : World} {K : Type} [DecidableEq K] {knd : KeyKind prog w K} {A : Around} {E : Value → Shared → Prop} {s : Shared}
/-- an empty set, an iterator of a list, as they are made -/
abbrev nS (led : Bool) : Obj := { cls := .type "set", dict := none, data := .set #[] 0 (.fresh 0 0 led) }
abbrev nI (l : Addr) : Obj := { cls := .type "list_iterator", data := .fields #[.ref l, .int 0 0] }
end
end St
end L2

/-! own layer, part 33: set of a list of unlike numbers, and its length, as rules -/
namespace L2
open PySem PySem.Spec PyProof.Rows
theorem bt_set : bootBuiltins "set" = some (.type "set") := by decide +kernel
/-- a set of n things, by its own object -/
def SetO (p : Addr) (n : Nat) : HO := .ext fun h => ∃ o es ep t, h.get? p = some o ∧ o.ExactSet ∧ o.data = .set es ep t ∧ SetTable.fits t es.size = true ∧ es.size = n
theorem isN_of {P : Program} {w : World} {H : Hp} {h : Heap} {a : Addr} {q : Rat} (ok : HOk P w H h) (e : H a = some (nT q)) : St.IsN (mixKind P w) h (kQ q) a := by
  obtain ⟨_, its, rv, o, ho, hc, n, hd⟩ := ok a _ e
  refine ⟨o, its.toArray, n, ho, hc, hd, items_are (ks := kQ q) rv, fun v hv => ?_⟩
  have hv' : v ∈ its := by simpa using hv
  cases rv with
  | cons r1 rr =>
    cases rr with
    | cons r2 rr =>
      cases rr
      obtain ⟨t1, rfl⟩ := r1
      obtain ⟨t2, rfl⟩ := r2
      rcases List.mem_cons.mp hv' with z | z
      · exact ⟨_, _, z⟩
      · exact ⟨_, _, List.mem_singleton.mp z⟩
section
variable {X : Cx}
theorem call_lenS : CallR X (.builtin "len") (fun xs H Q => ∃ (p : Addr) (n : Nat), xs = [.ref p] ∧ H p = some (SetO p n) ∧ n ≤ 1000 ∧ Q (.int (n : Int)) H) := by
  intro pins s σ H xs us Q I r h
  obtain ⟨p, n, rfl, hp, hn, q⟩ := h
  obtain ⟨u, rfl, rfl⟩ := vals1 r
  obtain ⟨⟨o, es, ep, t, h1, h2, h3, h4, h5⟩, _⟩ := I.hok p _ hp
  subst h5
  exact call_len_set h1 h2 h3 h4 (by lia) ⟨.int _, H, I.tok _, ⟨_, rfl⟩, q⟩
end
end L2

/-! own layer, part 34: isinstance of a list or a tuple, and several types -/
namespace L2
open PySem PySem.Spec PyProof.Rows
section
open PySem.W
variable {X : Cx} (K : PySem.W.Frag)
theorem kitA_l : kitAny K (.type "list") [.type "list", .type "tuple"] = some true := by kernel_rfl
theorem kitA_t : kitAny K (.type "tuple") [.type "list", .type "tuple"] = some true := by kernel_rfl
end
end L2

/-! own layer, part 35: a list comprehension whose target lies in a cell (another comprehension within closes over it) -/
namespace L2
open PySem PySem.Spec PyProof.Rows

structure CompOkC (X : Cx) (N : List Str) (nt : Nat) (js : List Nat) (scope : Scope) (x : Str) : Prop where
  kind : scope.kind = .function
  split : ∃ pre post, scope.names = pre ++ (x, .cell) :: post ∧ (∀ y ∈ pre, y.2 ≠ .cell) ∧ ∀ y ∈ post, y.2 ≠ .cell
  only : ∀ y ∈ scope.names, y.2 = .cell → y.1 = x
  lx : scope.names.lookup x = some .cell
  names : ∀ y ∈ scope.names, y.2 = .local → scope.names.lookup y.1 = some .local
  free : ∀ y ∈ scope.names, y.2 = .free → X.env.kindOf y.1 = some .cell ∨ X.env.kindOf y.1 = some .free
  len : N.length = nt + js.length
  outer : ∀ j i, js[j]? = some i → ∃ x, N[nt + j]? = some x ∧ X.N[i]? = some x ∧ scope.names.lookup x = some .free

section
variable {X : Cx} {N : List Str} {nt : Nat} {js : List Nat} {scope : Scope} {cl : List (Str × Addr)} {x : Str} {c : Addr}
end

section
variable {X : Cx} {N : List Str} {nt : Nat} {js : List Nat} {scope : Scope} {elt iter tg : Expr} {ifs : List Expr} {pos : Pos} {g : TG} {tc : TT} {te : TE} {wi : TI} {xn : Str}
end

end L2

/-! own layer, part 36: what follows a statement is written once -/
namespace L2
open PySem PySem.Spec PyProof.Rows
@[reducible] def Cl (u : PySem.W.Frag → TS) (K : PySem.W.Frag) : TS := u K
theorem pss_consC {X : Cx} {st : Stmt} {rest : List Stmt} {t v : TS} {K : PySem.W.Frag} {u : PySem.W.Frag → TS} (h1 : PS X st t) (h2 : PSs X rest v) (e : v = u K) : PSs X (st :: rest) (tSeq t (Cl u K)) := by
  subst e; exact pss_cons h1 h2
section
variable {X : Cx} {o e : Expr} {es : List Expr} {to : TE} {t : TA} {name : Str} {apos cpos : Pos} {T id : String} {r : V → List V → Hp → VK → Prop}
theorem pe_bmK (K : PySem.W.Frag) (pa : PlainAttrs T) (slot : Slot T name id) (hty : typeOf (.builtin id) = pure (.type "method_descriptor")) (hm : MtR X id r) (ho : PE X o to) (ha : PA X (e :: es) t)
    (hbase : attributeBase o name X.env (eval o X.env) = eval o X.env := by rfl)
    (hfew : ((backTo cpos (starEach (e :: es) X.env)).all (fun x => !x.1) && (backToKw cpos (keywordEach [] X.env)).all (fun x => x.1.isSome)
      && decide ((e :: es).length + ([] : List Keyword).length + (if ([] : List Keyword).isEmpty then 0 else 1) < 30)) = true := by rfl)
    (hline : (apos.endLine == cpos.line) = true := by rfl) (hs : starEach (e :: es) X.env = (false, eval e X.env) :: starEach es X.env := by rfl) (hplain : (backTo cpos (starEach es X.env)).any (·.1) = false := by rfl) (eK : X.K = K := by rfl) :
    PE X (.Call (.Attribute o name apos) (e :: es) [] cpos) (tBM K T r to t) := pe_bm pa slot hty hm ho ha hbase hfew hline hs hplain eK
end
theorem iteTc {c : Bool} {A B : Prop} (e : c = true) (h : A) : if c = true then A else B := by
  rw [if_pos e]; exact h
theorem iteFc {c : Bool} {A B : Prop} (e : c = false) (h : B) : if c = true then A else B := by
  rw [if_neg (by rw [e]; decide)]; exact h
theorem len_succ {α : Type} {l : List α} {n : Nat} (h : l.length = n + 1) : ∃ a r, l = a :: r ∧ r.length = n := by
  cases l with
  | nil => cases h
  | cons a r => exact ⟨a, r, rfl, Nat.succ.inj h⟩
theorem Fun.binds1 {K : PySem.W.Frag} {x qual : Str} {st : Stmt} {f : Addr} {fd : FuncData} (p1 : Str) (F : Fun K x qual st f fd)
    (h : ∀ (kV doc pm : Value) (an : Option Addr) (cdv ct a1 : Value), bindArgs (PySem.W.fnOf x qual (defArgs st) (defBody st) (defScope st) .none kV doc pm an cdv ct) ⟨[a1], []⟩ = pure [(p1, a1)]) : Binds K fd [p1] [] :=
  F.binds fun kV doc pm an cdv ct us l0 => by
    obtain ⟨a1, r1, rfl, l1⟩ := len_succ l0
    cases List.length_eq_zero_iff.mp l1
    exact h kV doc pm an cdv ct a1
theorem Fun.binds2 {K : PySem.W.Frag} {x qual : Str} {st : Stmt} {f : Addr} {fd : FuncData} (p1 p2 : Str) (F : Fun K x qual st f fd)
    (h : ∀ (kV doc pm : Value) (an : Option Addr) (cdv ct a1 a2 : Value), bindArgs (PySem.W.fnOf x qual (defArgs st) (defBody st) (defScope st) .none kV doc pm an cdv ct) ⟨[a1, a2], []⟩ = pure [(p1, a1), (p2, a2)]) : Binds K fd [p1, p2] [] :=
  F.binds fun kV doc pm an cdv ct us l0 => by
    obtain ⟨a1, r1, rfl, l1⟩ := len_succ l0
    obtain ⟨a2, r2, rfl, l2⟩ := len_succ l1
    cases List.length_eq_zero_iff.mp l2
    exact h kV doc pm an cdv ct a1 a2
theorem Fun.binds3 {K : PySem.W.Frag} {x qual : Str} {st : Stmt} {f : Addr} {fd : FuncData} (p1 p2 p3 : Str) (F : Fun K x qual st f fd)
    (h : ∀ (kV doc pm : Value) (an : Option Addr) (cdv ct a1 a2 a3 : Value), bindArgs (PySem.W.fnOf x qual (defArgs st) (defBody st) (defScope st) .none kV doc pm an cdv ct) ⟨[a1, a2, a3], []⟩ = pure [(p1, a1), (p2, a2), (p3, a3)]) : Binds K fd [p1, p2, p3] [] :=
  F.binds fun kV doc pm an cdv ct us l0 => by
    obtain ⟨a1, r1, rfl, l1⟩ := len_succ l0
    obtain ⟨a2, r2, rfl, l2⟩ := len_succ l1
    obtain ⟨a3, r3, rfl, l3⟩ := len_succ l2
    cases List.length_eq_zero_iff.mp l3
    exact h kV doc pm an cdv ct a1 a2 a3
theorem Fun.binds4 {K : PySem.W.Frag} {x qual : Str} {st : Stmt} {f : Addr} {fd : FuncData} (p1 p2 p3 p4 : Str) (F : Fun K x qual st f fd)
    (h : ∀ (kV doc pm : Value) (an : Option Addr) (cdv ct a1 a2 a3 a4 : Value), bindArgs (PySem.W.fnOf x qual (defArgs st) (defBody st) (defScope st) .none kV doc pm an cdv ct) ⟨[a1, a2, a3, a4], []⟩ = pure [(p1, a1), (p2, a2), (p3, a3), (p4, a4)]) : Binds K fd [p1, p2, p3, p4] [] :=
  F.binds fun kV doc pm an cdv ct us l0 => by
    obtain ⟨a1, r1, rfl, l1⟩ := len_succ l0
    obtain ⟨a2, r2, rfl, l2⟩ := len_succ l1
    obtain ⟨a3, r3, rfl, l3⟩ := len_succ l2
    obtain ⟨a4, r4, rfl, l4⟩ := len_succ l3
    cases List.length_eq_zero_iff.mp l4
    exact h kV doc pm an cdv ct a1 a2 a3 a4
@[reducible] def L1 {α1 : Type} {δ : Type} (x1 : α1) (u : α1 → δ) : δ := u x1
@[reducible] def L2 {α1 α2 : Type} {δ : Type} (x1 : α1) (x2 : α2) (u : α1 → α2 → δ) : δ := u x1 x2
@[reducible] def L3 {α1 α2 α3 : Type} {δ : Type} (x1 : α1) (x2 : α2) (x3 : α3) (u : α1 → α2 → α3 → δ) : δ := u x1 x2 x3
@[reducible] def L4 {α1 α2 α3 α4 : Type} {δ : Type} (x1 : α1) (x2 : α2) (x3 : α3) (x4 : α4) (u : α1 → α2 → α3 → α4 → δ) : δ := u x1 x2 x3 x4
@[reducible] def L5 {α1 α2 α3 α4 α5 : Type} {δ : Type} (x1 : α1) (x2 : α2) (x3 : α3) (x4 : α4) (x5 : α5) (u : α1 → α2 → α3 → α4 → α5 → δ) : δ := u x1 x2 x3 x4 x5
@[reducible] def L6 {α1 α2 α3 α4 α5 α6 : Type} {δ : Type} (x1 : α1) (x2 : α2) (x3 : α3) (x4 : α4) (x5 : α5) (x6 : α6) (u : α1 → α2 → α3 → α4 → α5 → α6 → δ) : δ := u x1 x2 x3 x4 x5 x6
@[reducible] def L7 {α1 α2 α3 α4 α5 α6 α7 : Type} {δ : Type} (x1 : α1) (x2 : α2) (x3 : α3) (x4 : α4) (x5 : α5) (x6 : α6) (x7 : α7) (u : α1 → α2 → α3 → α4 → α5 → α6 → α7 → δ) : δ := u x1 x2 x3 x4 x5 x6 x7
@[reducible] def L8 {α1 α2 α3 α4 α5 α6 α7 α8 : Type} {δ : Type} (x1 : α1) (x2 : α2) (x3 : α3) (x4 : α4) (x5 : α5) (x6 : α6) (x7 : α7) (x8 : α8) (u : α1 → α2 → α3 → α4 → α5 → α6 → α7 → α8 → δ) : δ := u x1 x2 x3 x4 x5 x6 x7 x8
@[reducible] def L9 {α1 α2 α3 α4 α5 α6 α7 α8 α9 : Type} {δ : Type} (x1 : α1) (x2 : α2) (x3 : α3) (x4 : α4) (x5 : α5) (x6 : α6) (x7 : α7) (x8 : α8) (x9 : α9) (u : α1 → α2 → α3 → α4 → α5 → α6 → α7 → α8 → α9 → δ) : δ := u x1 x2 x3 x4 x5 x6 x7 x8 x9
@[reducible] def L10 {α1 α2 α3 α4 α5 α6 α7 α8 α9 α10 : Type} {δ : Type} (x1 : α1) (x2 : α2) (x3 : α3) (x4 : α4) (x5 : α5) (x6 : α6) (x7 : α7) (x8 : α8) (x9 : α9) (x10 : α10) (u : α1 → α2 → α3 → α4 → α5 → α6 → α7 → α8 → α9 → α10 → δ) : δ := u x1 x2 x3 x4 x5 x6 x7 x8 x9 x10
@[reducible] def L11 {α1 α2 α3 α4 α5 α6 α7 α8 α9 α10 α11 : Type} {δ : Type} (x1 : α1) (x2 : α2) (x3 : α3) (x4 : α4) (x5 : α5) (x6 : α6) (x7 : α7) (x8 : α8) (x9 : α9) (x10 : α10) (x11 : α11) (u : α1 → α2 → α3 → α4 → α5 → α6 → α7 → α8 → α9 → α10 → α11 → δ) : δ := u x1 x2 x3 x4 x5 x6 x7 x8 x9 x10 x11
@[reducible] def L12 {α1 α2 α3 α4 α5 α6 α7 α8 α9 α10 α11 α12 : Type} {δ : Type} (x1 : α1) (x2 : α2) (x3 : α3) (x4 : α4) (x5 : α5) (x6 : α6) (x7 : α7) (x8 : α8) (x9 : α9) (x10 : α10) (x11 : α11) (x12 : α12) (u : α1 → α2 → α3 → α4 → α5 → α6 → α7 → α8 → α9 → α10 → α11 → α12 → δ) : δ := u x1 x2 x3 x4 x5 x6 x7 x8 x9 x10 x11 x12
@[reducible] def L13 {α1 α2 α3 α4 α5 α6 α7 α8 α9 α10 α11 α12 α13 : Type} {δ : Type} (x1 : α1) (x2 : α2) (x3 : α3) (x4 : α4) (x5 : α5) (x6 : α6) (x7 : α7) (x8 : α8) (x9 : α9) (x10 : α10) (x11 : α11) (x12 : α12) (x13 : α13) (u : α1 → α2 → α3 → α4 → α5 → α6 → α7 → α8 → α9 → α10 → α11 → α12 → α13 → δ) : δ := u x1 x2 x3 x4 x5 x6 x7 x8 x9 x10 x11 x12 x13
@[reducible] def L14 {α1 α2 α3 α4 α5 α6 α7 α8 α9 α10 α11 α12 α13 α14 : Type} {δ : Type} (x1 : α1) (x2 : α2) (x3 : α3) (x4 : α4) (x5 : α5) (x6 : α6) (x7 : α7) (x8 : α8) (x9 : α9) (x10 : α10) (x11 : α11) (x12 : α12) (x13 : α13) (x14 : α14) (u : α1 → α2 → α3 → α4 → α5 → α6 → α7 → α8 → α9 → α10 → α11 → α12 → α13 → α14 → δ) : δ := u x1 x2 x3 x4 x5 x6 x7 x8 x9 x10 x11 x12 x13 x14
@[reducible] def L15 {α1 α2 α3 α4 α5 α6 α7 α8 α9 α10 α11 α12 α13 α14 α15 : Type} {δ : Type} (x1 : α1) (x2 : α2) (x3 : α3) (x4 : α4) (x5 : α5) (x6 : α6) (x7 : α7) (x8 : α8) (x9 : α9) (x10 : α10) (x11 : α11) (x12 : α12) (x13 : α13) (x14 : α14) (x15 : α15) (u : α1 → α2 → α3 → α4 → α5 → α6 → α7 → α8 → α9 → α10 → α11 → α12 → α13 → α14 → α15 → δ) : δ := u x1 x2 x3 x4 x5 x6 x7 x8 x9 x10 x11 x12 x13 x14 x15
@[reducible] def L16 {α1 α2 α3 α4 α5 α6 α7 α8 α9 α10 α11 α12 α13 α14 α15 α16 : Type} {δ : Type} (x1 : α1) (x2 : α2) (x3 : α3) (x4 : α4) (x5 : α5) (x6 : α6) (x7 : α7) (x8 : α8) (x9 : α9) (x10 : α10) (x11 : α11) (x12 : α12) (x13 : α13) (x14 : α14) (x15 : α15) (x16 : α16) (u : α1 → α2 → α3 → α4 → α5 → α6 → α7 → α8 → α9 → α10 → α11 → α12 → α13 → α14 → α15 → α16 → δ) : δ := u x1 x2 x3 x4 x5 x6 x7 x8 x9 x10 x11 x12 x13 x14 x15 x16
@[reducible] def L17 {α1 α2 α3 α4 α5 α6 α7 α8 α9 α10 α11 α12 α13 α14 α15 α16 α17 : Type} {δ : Type} (x1 : α1) (x2 : α2) (x3 : α3) (x4 : α4) (x5 : α5) (x6 : α6) (x7 : α7) (x8 : α8) (x9 : α9) (x10 : α10) (x11 : α11) (x12 : α12) (x13 : α13) (x14 : α14) (x15 : α15) (x16 : α16) (x17 : α17) (u : α1 → α2 → α3 → α4 → α5 → α6 → α7 → α8 → α9 → α10 → α11 → α12 → α13 → α14 → α15 → α16 → α17 → δ) : δ := u x1 x2 x3 x4 x5 x6 x7 x8 x9 x10 x11 x12 x13 x14 x15 x16 x17
@[reducible] def L18 {α1 α2 α3 α4 α5 α6 α7 α8 α9 α10 α11 α12 α13 α14 α15 α16 α17 α18 : Type} {δ : Type} (x1 : α1) (x2 : α2) (x3 : α3) (x4 : α4) (x5 : α5) (x6 : α6) (x7 : α7) (x8 : α8) (x9 : α9) (x10 : α10) (x11 : α11) (x12 : α12) (x13 : α13) (x14 : α14) (x15 : α15) (x16 : α16) (x17 : α17) (x18 : α18) (u : α1 → α2 → α3 → α4 → α5 → α6 → α7 → α8 → α9 → α10 → α11 → α12 → α13 → α14 → α15 → α16 → α17 → α18 → δ) : δ := u x1 x2 x3 x4 x5 x6 x7 x8 x9 x10 x11 x12 x13 x14 x15 x16 x17 x18
@[reducible] def L19 {α1 α2 α3 α4 α5 α6 α7 α8 α9 α10 α11 α12 α13 α14 α15 α16 α17 α18 α19 : Type} {δ : Type} (x1 : α1) (x2 : α2) (x3 : α3) (x4 : α4) (x5 : α5) (x6 : α6) (x7 : α7) (x8 : α8) (x9 : α9) (x10 : α10) (x11 : α11) (x12 : α12) (x13 : α13) (x14 : α14) (x15 : α15) (x16 : α16) (x17 : α17) (x18 : α18) (x19 : α19) (u : α1 → α2 → α3 → α4 → α5 → α6 → α7 → α8 → α9 → α10 → α11 → α12 → α13 → α14 → α15 → α16 → α17 → α18 → α19 → δ) : δ := u x1 x2 x3 x4 x5 x6 x7 x8 x9 x10 x11 x12 x13 x14 x15 x16 x17 x18 x19
@[reducible] def L20 {α1 α2 α3 α4 α5 α6 α7 α8 α9 α10 α11 α12 α13 α14 α15 α16 α17 α18 α19 α20 : Type} {δ : Type} (x1 : α1) (x2 : α2) (x3 : α3) (x4 : α4) (x5 : α5) (x6 : α6) (x7 : α7) (x8 : α8) (x9 : α9) (x10 : α10) (x11 : α11) (x12 : α12) (x13 : α13) (x14 : α14) (x15 : α15) (x16 : α16) (x17 : α17) (x18 : α18) (x19 : α19) (x20 : α20) (u : α1 → α2 → α3 → α4 → α5 → α6 → α7 → α8 → α9 → α10 → α11 → α12 → α13 → α14 → α15 → α16 → α17 → α18 → α19 → α20 → δ) : δ := u x1 x2 x3 x4 x5 x6 x7 x8 x9 x10 x11 x12 x13 x14 x15 x16 x17 x18 x19 x20
@[reducible] def L21 {α1 α2 α3 α4 α5 α6 α7 α8 α9 α10 α11 α12 α13 α14 α15 α16 α17 α18 α19 α20 α21 : Type} {δ : Type} (x1 : α1) (x2 : α2) (x3 : α3) (x4 : α4) (x5 : α5) (x6 : α6) (x7 : α7) (x8 : α8) (x9 : α9) (x10 : α10) (x11 : α11) (x12 : α12) (x13 : α13) (x14 : α14) (x15 : α15) (x16 : α16) (x17 : α17) (x18 : α18) (x19 : α19) (x20 : α20) (x21 : α21) (u : α1 → α2 → α3 → α4 → α5 → α6 → α7 → α8 → α9 → α10 → α11 → α12 → α13 → α14 → α15 → α16 → α17 → α18 → α19 → α20 → α21 → δ) : δ := u x1 x2 x3 x4 x5 x6 x7 x8 x9 x10 x11 x12 x13 x14 x15 x16 x17 x18 x19 x20 x21
@[reducible] def L22 {α1 α2 α3 α4 α5 α6 α7 α8 α9 α10 α11 α12 α13 α14 α15 α16 α17 α18 α19 α20 α21 α22 : Type} {δ : Type} (x1 : α1) (x2 : α2) (x3 : α3) (x4 : α4) (x5 : α5) (x6 : α6) (x7 : α7) (x8 : α8) (x9 : α9) (x10 : α10) (x11 : α11) (x12 : α12) (x13 : α13) (x14 : α14) (x15 : α15) (x16 : α16) (x17 : α17) (x18 : α18) (x19 : α19) (x20 : α20) (x21 : α21) (x22 : α22) (u : α1 → α2 → α3 → α4 → α5 → α6 → α7 → α8 → α9 → α10 → α11 → α12 → α13 → α14 → α15 → α16 → α17 → α18 → α19 → α20 → α21 → α22 → δ) : δ := u x1 x2 x3 x4 x5 x6 x7 x8 x9 x10 x11 x12 x13 x14 x15 x16 x17 x18 x19 x20 x21 x22
@[reducible] def L23 {α1 α2 α3 α4 α5 α6 α7 α8 α9 α10 α11 α12 α13 α14 α15 α16 α17 α18 α19 α20 α21 α22 α23 : Type} {δ : Type} (x1 : α1) (x2 : α2) (x3 : α3) (x4 : α4) (x5 : α5) (x6 : α6) (x7 : α7) (x8 : α8) (x9 : α9) (x10 : α10) (x11 : α11) (x12 : α12) (x13 : α13) (x14 : α14) (x15 : α15) (x16 : α16) (x17 : α17) (x18 : α18) (x19 : α19) (x20 : α20) (x21 : α21) (x22 : α22) (x23 : α23) (u : α1 → α2 → α3 → α4 → α5 → α6 → α7 → α8 → α9 → α10 → α11 → α12 → α13 → α14 → α15 → α16 → α17 → α18 → α19 → α20 → α21 → α22 → α23 → δ) : δ := u x1 x2 x3 x4 x5 x6 x7 x8 x9 x10 x11 x12 x13 x14 x15 x16 x17 x18 x19 x20 x21 x22 x23
@[reducible] def L24 {α1 α2 α3 α4 α5 α6 α7 α8 α9 α10 α11 α12 α13 α14 α15 α16 α17 α18 α19 α20 α21 α22 α23 α24 : Type} {δ : Type} (x1 : α1) (x2 : α2) (x3 : α3) (x4 : α4) (x5 : α5) (x6 : α6) (x7 : α7) (x8 : α8) (x9 : α9) (x10 : α10) (x11 : α11) (x12 : α12) (x13 : α13) (x14 : α14) (x15 : α15) (x16 : α16) (x17 : α17) (x18 : α18) (x19 : α19) (x20 : α20) (x21 : α21) (x22 : α22) (x23 : α23) (x24 : α24) (u : α1 → α2 → α3 → α4 → α5 → α6 → α7 → α8 → α9 → α10 → α11 → α12 → α13 → α14 → α15 → α16 → α17 → α18 → α19 → α20 → α21 → α22 → α23 → α24 → δ) : δ := u x1 x2 x3 x4 x5 x6 x7 x8 x9 x10 x11 x12 x13 x14 x15 x16 x17 x18 x19 x20 x21 x22 x23 x24
theorem ps_ifC {X : Cx} {c : Expr} {a b : List Stmt} {pos : Pos} {tc : TT} {v1 v2 : TS} {K : PySem.W.Frag} {u1 u2 : PySem.W.Frag → TS} (hc : PT X c tc) (ha : PSs X a v1) (hb : PSs X b v2) (e1 : v1 = u1 K) (e2 : v2 = u2 K) : PS X (.If c a b pos) (tIfS tc (Cl u1 K) (Cl u2 K)) := by
  subst e1; subst e2; exact ps_if hc ha hb
theorem ps_forC {X : Cx} {tg iter : Expr} {body : List Stmt} {wi : TI} {g : TG} {v : TS} {pos : Pos} {K : PySem.W.Frag} {u : PySem.W.Frag → TS} (hp : PassesOwn (model X.prog X.w) X.A X.env X.xe) (hc : X.calm = true) (hi : PI X tg iter wi) (hg : PG X tg g) (hb : PSs X body v) (e : v = u K)
    (hs : ∀ x, foldedSetIterable iter X.env x = pure x := by intro _; rfl) : PS X (.For tg iter body [] pos) (tFor wi g (Cl u K)) := by
  subst e; exact ps_for hp hc hi hg hb hs
/-! ### what lia would say, said once -/
theorem nat_diff {a b c d : Nat} (h1 : a = c) (h2 : b = d) : ((a : Int) - (b : Int)).toNat = c - d := by rw [h1, h2]; exact Int.toNat_sub c d
theorem nat_pred {a b : Nat} (h : a = b) : ((a : Int) - 1).toNat = b - 1 := nat_diff (b := 1) h rfl
theorem nat_204 {a k m t b : Nat} (ha : a ≤ 200) (hk : k < m - 1) (hm : m = 2 ∨ m = 3) (e : a = t) : t + min k b ≤ 204 := by
  rw [← e]
  have h4 : k ≤ 4 := by
    rcases hm with rfl | rfl
    · exact Nat.le_trans (Nat.le_of_lt hk) (by decide)
    · exact Nat.le_trans (Nat.le_of_lt hk) (by decide)
  exact Nat.add_le_add ha (Nat.le_trans (Nat.min_le_left _ _) h4)
end L2

/-! own layer, part 50: an exception whose context is None: its flight, its landing; the ends of lists and tuples while it is handled -/
namespace L2
open PySem PySem.Spec PyProof.Rows
/-- an exception of class c flies over B, its context is None, its first entry's mark is m -/
def Fly2 (B : Heap) (l : List Env) (e : Addr) (c a0 m : Value) (h : Heap) : Prop :=
  B.StaysIn h ∧ B.get? e = none ∧ h.FunFrames B l ∧ ∃ (o : Obj) (v : Array Value) (T : Addr) (oT : Obj) (ts : Array Value), h.get? e = some o ∧ o.cls = c ∧ o.data = .fields v ∧ v[0]? = some a0 ∧ v[2]? = some .none ∧
    v[1]? = some (.ref T) ∧ B.get? T = none ∧ T ≠ e ∧ h.get? T = some oT ∧ oT.data = .fields ts ∧ ts[3]? = some m
/-- what is known of a caught one -/
def Ctx0 (o : Obj) : Prop := ∃ v, o.data = .fields v ∧ v[2]? = some .none
theorem Fly2.obj {B h : Heap} {l : List Env} {e : Addr} {c a0 m : Value} (x : Fly2 B l e c a0 m h) : ∃ o, h.get? e = some o ∧ o.cls = c ∧ Ctx0 o := by
  obtain ⟨_, _, _, o, v, _, _, _, q1, q2, q3, _, q5, _⟩ := x
  exact ⟨o, q1, q2, v, q3, q5⟩
section
variable {M : Model} {A : Around} {E : Value → Shared → Prop} {s : Shared} {B : Heap} {env : Env} {outer : List Env} {L e : Addr}
/-- the entry is made -/
theorem note2_core {o : Obj} {v : Array Value} {hd0 a0 : Value} {had : Bool} {Q : Unit → Shared → Prop} (hA : A.frames = some (env :: outer)) (hF : s.heap.FunFrames B (env :: outer)) (hL : env.frame = some L)
    (he : s.heap.get? e = some o) (hB : B.StaysIn s.heap) (hn : B.get? e = none) (hv : o.data = .fields v) (z1 : 1 < v.size) (z0 : v[0]? = some a0) (z2 : v[2]? = some .none)
    (k : ∀ h', Fly2 B (env :: outer) e o.cls a0 (rawInt L) h' → s.heap.UpToSlots h' → Q () { s with heap := h' }) :
    wpAny M A (do let fr ← frameOf env; let ps ← entryPlaceOf L had; let en ← EntryCells.newEntry hd0 fr .none (rawInt L) .none ps; setField (.ref e) 1 en) Q E s := by
  have out : e ∉ (env :: outer).filterMap (·.frame) := fun z => by
    obtain ⟨_, o', e', nf⟩ := hF.mem z
    rw [he] at e'
    cases e'
    exact nf v hv
  refine wpAny_bind (wpAny_frameOf_fun hA hF hL fun g sg => wpAny_bind (wpAny_entryPlaceOf fun ps hp => ?_))
  unfold EntryCells.newEntry newFields
  refine wpAny_bind (wpAny_newObj_type ?_ (hp.sizeOk5 _ _ _ _ _))
  generalize hob : ({ cls := .type "traceback", dict := none, data := .fields ([hd0, .ref L, .none, rawInt L, .none] ++ (if ps.isEmpty then List.replicate 6 Value.none else ps)).toArray } : Obj) = ob
  have hg : g.get? e = some o := (sg.2.1 e out).trans he
  have gB : B.StaysIn g := fun b u q => (sg.2.1 b fun z => by rw [(hF.mem z).1] at q; cases q).trans (hB b u q)
  have nT : g.objs.size ≠ e := Nat.ne_of_gt (Heap.lt_size hg)
  have hp1 : (g.push ob).get? e = some o := Heap.get?_push_of_some _ hg
  refine wpAny_setField hp1 hv z1 (k _ ?_ ?_)
  · have d1 := Obj.data_mapFields hv (·.setIfInBounds 1 (Value.ref g.objs.size))
    have old : ∀ b u, b ≠ e → g.get? b = some u → ((g.push ob).update e (Obj.mapFields (·.setIfInBounds 1 (Value.ref g.objs.size)))).get? b = some u := fun b u n q => by
      rw [Heap.get?_update_other _ _ (Ne.symm n)]
      exact Heap.get?_push_of_some _ q
    have fresh : ob.isFreed = false := by rw [← hob]; rfl
    refine ⟨fun b u q => old b u (fun z => by rw [z, hn] at q; cases q) (gB b u q), hn, hF.of_keeps fun b u q nf => ?_, _, _, g.objs.size, ob, _, Heap.get?_update_self _ hp1 (Obj.isFreed_of_fields d1), Obj.cls_mapFields _ _, d1, ?_, ?_, ?_, gB.fresh, nT, ?_, by rw [← hob], ?_⟩
    · obtain ⟨sl, q'⟩ := sg.2.2 b u q
      exact ⟨_, old b _ (fun z => by rw [z, he] at q; cases q; exact nf v hv) q', rfl⟩
    · rw [Array.getElem?_setIfInBounds_ne (by decide)]; exact z0
    · rw [Array.getElem?_setIfInBounds_ne (by decide)]; exact z2
    · simp [z1]
    · rw [Heap.get?_update_other _ _ (Ne.symm nT)]
      exact Heap.get?_push_size g fresh
    · rcases hp with rfl | ⟨_, _, _, _, _, _, _, rfl⟩ <;> simp
  · intro b u q nf
    obtain ⟨sl, q'⟩ := sg.2.2 b u q
    refine ⟨sl, ?_⟩
    rw [Heap.get?_update_other _ _ (fun z => by rw [← z, he] at q; cases q; exact nf v hv)]
    exact Heap.get?_push_of_some _ q'
/-- a flight's next station -/
theorem note2 {c a0 : Value} {Q : Unit → Shared → Prop} (hA : A.frames = some (env :: outer)) (hL : env.frame = some L) (x : Fly2 B (env :: outer) e c a0 .none s.heap)
    (k : ∀ h', Fly2 B (env :: outer) e c a0 (rawInt L) h' → s.heap.UpToSlots h' → Q () { s with heap := h' }) : wpAny M A (noteFrame (.ref e) env) Q E s := by
  obtain ⟨b1, b2, b3, o, v, T, oT, ts, q1, q2, q3, q4, q5, q6, q7, q8, q9, q10, q11⟩ := x
  subst q2
  unfold noteFrame
  simp only [hL]
  refine wpAny_bind (wpAny_field q1 q3 q6 ?_)
  rw [if_pos (by simp)]
  refine wpAny_bind (wpAny_field q9 q10 q11 ?_)
  rw [if_neg (by simp [rawInt])]
  refine wpAny_bind (wpAny_setField q9 q10 (Array.getElem?_eq_some_iff.mp q11).1 ?_)
  have no : ∀ b u, s.heap.get? b = some u → (∀ w, u.data ≠ .fields w) → b ≠ T := fun b u q nf z => by
    rw [z, q9] at q
    cases q
    exact nf ts q10
  have ot : ∀ b u, b ≠ T → s.heap.get? b = some u → (s.heap.update T (Obj.mapFields (·.setIfInBounds 3 Value.none))).get? b = some u := fun b u n q => (Heap.get?_update_other _ _ (Ne.symm n)).trans q
  refine note2_core hA (b3.of_keeps fun b u q nf => ⟨u, ot b u (no b u q nf) q, rfl⟩) hL (ot e o (Ne.symm q8) q1) (fun b u q => ot b u (fun z => by rw [z, q7] at q; cases q) (b1 b u q)) b2 q3 (Array.getElem?_eq_some_iff.mp q6).1 q4 q5 fun h' f us => k h' f fun b u q nf => ?_
  exact us b u (ot b u (no b u q nf) q) nf
/-- the mark goes -/
theorem land2 {l : List Env} {c a0 m : Value} {Q : Unit → Shared → Prop} (x : Fly2 B l e c a0 m s.heap) (k : ∀ h', Fly2 B l e c a0 .none h' → s.heap.UpToSlots h' → Q () { s with heap := h' }) : wpAny M A (setFlight (.ref e) none) Q E s := by
  obtain ⟨b1, b2, b3, o, v, T, oT, ts, q1, q2, q3, q4, q5, q6, q7, q8, q9, q10, q11⟩ := x
  have z3 : 3 < ts.size := (Array.getElem?_eq_some_iff.mp q11).1
  unfold setFlight
  refine wpAny_bind (wpAny_field q1 q3 q6 ?_)
  rw [if_pos (by simp)]
  refine wpAny_setField q9 q10 z3 ?_
  have no : ∀ b u, s.heap.get? b = some u → (∀ w, u.data ≠ .fields w) → b ≠ T := fun b u q nf z => by
    rw [z, q9] at q
    cases q
    exact nf ts q10
  have ot : ∀ b u, b ≠ T → s.heap.get? b = some u → (s.heap.update T (Obj.mapFields (·.setIfInBounds 3 ((none : Option Addr).elim Value.none fun f => rawInt f)))).get? b = some u := fun b u n q => (Heap.get?_update_other _ _ (Ne.symm n)).trans q
  have d1 := Obj.data_mapFields q10 (·.setIfInBounds 3 ((none : Option Addr).elim Value.none fun f => rawInt f))
  exact k _ ⟨fun b u q => ot b u (fun z => by rw [z, q7] at q; cases q) (b1 b u q), b2, b3.of_keeps fun b u q nf => ⟨u, ot b u (no b u q nf) q, rfl⟩, o, v, T, _, _, ot e o (Ne.symm q8) q1, q2, q3, q4, q5, q6, q7, q8, Heap.get?_update_self _ q9 (Obj.isFreed_of_fields d1), d1, by simp [z3]⟩
    fun b u q nf => ⟨u.slots, ot b u (no b u q nf) q⟩
theorem Fly2.up {c a0 m : Value} {h : Heap} (x : Fly2 B (env :: outer) e c a0 m h) : Fly2 B outer e c a0 m h := by
  obtain ⟨b1, b2, ⟨_, _, b3⟩, r⟩ := x
  exact ⟨b1, b2, b3, r⟩
/-- out of a frame, and on -/
theorem leave2 {c a0 : Value} {Q : Unit → Shared → Prop} (hA : A.frames = some (env :: outer)) (hL : env.frame = some L) (x : Fly2 B (env :: outer) e c a0 .none s.heap)
    (k : ∀ h', Fly2 B outer e c a0 .none h' → s.heap.UpToSlots h' → Q () { s with heap := h' }) : wpAny M A (leaving env (.ref e)) Q E s := by
  unfold leaving
  exact wpAny_bind (note2 hA hL x fun h1 f1 u1 => land2 (s := { s with heap := h1 }) f1 fun h2 f2 u2 => k h2 f2.up (u1.trans u2))
/-- out of the frame in which it was made -/
theorem made2 {h : Heap} {c : Value} {vs : List Value} {Q : Unit → Shared → Prop} (hA : A.frames = some (env :: outer)) (hL : env.frame = some L) (hB : B.StaysIn h) (hF : h.FunFrames B (env :: outer)) (hx : Heap.MadeExcOf h s.heap e c vs)
    (k : ∀ h' a0, Fly2 B outer e c a0 .none h' → s.heap.UpToSlots h' → Q () { s with heap := h' }) : wpAny M A (leaving env (.ref e)) Q E s := by
  obtain ⟨t, he, _, _⟩ := hx.there
  have fresh : B.get? e = none := by
    cases q : B.get? e with
    | none => rfl
    | some u => have := hB e u q; rw [hx.new] at this; cases this
  unfold leaving noteFrame
  simp only [hL]
  refine wpAny_bind (wpAny_bind (wpAny_field he rfl (x := .none) rfl ?_))
  rw [if_neg (by decide)]
  exact note2_core hA (hF.of_keeps fun b u q _ => ⟨u, hx.keeps b u q, rfl⟩) hL he (fun b u q => hx.keeps b u (hB b u q)) fresh rfl (show 1 < 6 by decide) rfl rfl
    fun h1 f1 u1 => land2 (s := { s with heap := h1 }) f1 fun h2 f2 u2 => k h2 _ f2.up (u1.trans u2)
end

/-! ### a new exception while another one is handled -/
theorem entry_unchain : entryFor table "proto.unchain" = some Builtin.«proto.unchain» := entryFor_of_fast (by kernel_rfl)
section
variable {prog : Program} {w : World} {A : Around} {E : Value → Shared → Prop} {s : Shared} {ea : Addr} {oe : Obj}
theorem raise2 {α : Type} {a : Addr} {o : Obj} {v : Array Value} {Q : α → Shared → Prop} (hh : A.handled = some (.ref ea)) (he : s.heap.get? ea = some oe) (hc : Ctx0 oe) (ha : s.heap.get? a = some o) (hv : o.data = .fields v) (hz : 2 < v.size) (ne : ea ≠ a)
    (k : E (.ref a) { s with heap := s.heap.update a (Obj.mapFields (·.setIfInBounds 2 (.ref ea))) }) : wpAny (model prog w) A (raiseNew (.ref a) : Sem α) Q E s := by
  obtain ⟨ve, hd, h2⟩ := hc
  unfold raiseNew
  refine wpAny_bind (wpAny_handled ?_)
  rw [hh]
  dsimp only
  rw [if_pos (by simp [ne])]
  refine wpAny_bind (wpAny_holding (wpAny_runValue (codeAny_builtin entry_unchain ?_)))
  show wpAny _ _ (field (.ref ea) 2 >>= _) _ _ s
  refine wpAny_bind (wpAny_field he hd h2 ?_)
  rw [if_pos (by decide)]
  refine wpAny_bind (wpAny_pure (wpAny_pure ?_))
  refine wpAny_bind ?_
  unfold updateField
  refine wpAny_bind (wpAny_load ha ?_)
  rw [hv]
  dsimp only
  rw [if_pos hz]
  exact wpAny_update ha (wpAny_throw k)
/-- a fresh StopIteration, thrown while ea is handled -/
theorem stop2 {it : Addr} {h0 : Heap} {α : Type} {P : α → Shared → Prop} {G : Value → Shared → Prop} (hh : A.handled = some (.ref ea)) (he : s.heap.get? ea = some oe) (hc : Ctx0 oe) (hb : Heap.ExtBut it h0 s.heap)
    (k : ∀ a h', Shared.TypeIs { s with heap := h' } (.ref a) "StopIteration" → Heap.ExtBut it h0 h' → G (.ref a) { s with heap := h' }) : wpAny (model prog w) A (newExc (.type "StopIteration") [] >>= fun x => (raiseNew x : Sem α)) P G s := by
  refine wpAny_bind ?_
  simp only [newExc, newTuple]
  refine wpAny_bind (wpAny_newObj_type ?_ (by size_fits))
  refine wpAny_bind (m := firstArgMember _ _) (wpAny_of_eq (a := Value.none) (by first | rfl | (simp only [firstArgMember]; rfl)) ?_)
  refine wpAny_newObj_type ?_ (by size_fits)
  have old : ∀ (b : Addr) (u o1 o2 : Obj), s.heap.get? b = some u → ((s.heap.push o1).push o2).get? b = some u := fun b u o1 o2 q => Heap.get?_push_of_some _ (Heap.get?_push_of_some _ q)
  have lt : ∀ (b : Addr) (u o1 : Obj), s.heap.get? b = some u → (s.heap.push o1).objs.size ≠ b := fun b u o1 q z => by
    have := Heap.lt_size q
    rw [← z, Heap.size_push] at this
    exact absurd this (Nat.not_lt.mpr (Nat.le_succ _))
  refine raise2 hh (old ea oe _ _ he) hc (Heap.get?_push_size _ rfl) rfl (show 2 < 6 by decide) (fun z => lt ea oe _ he z.symm) (k _ _ ⟨_, Heap.get?_update_self _ (Heap.get?_push_size _ rfl) rfl, rfl⟩ fun b u n q => ?_)
  rw [Heap.get?_update_other _ _ (lt b u _ (hb b u n q))]
  exact old b u _ _ (hb b u n q)
/-- a list's iterator at its end -/
theorem list_end2 {it l : Addr} {i : Nat} {items : Array Value} {Q : Option Value → Shared → Prop} (hh : A.handled = some (.ref ea)) (he : s.heap.get? ea = some oe) (hc : Ctx0 oe) (ni : ea ≠ it) (st : s.heap.IsListIter it l i) (hl : s.heap.IsList l items) (hx : items[i]? = none)
    (k : ∀ h', Heap.ExtBut it s.heap h' → Q none { s with heap := h' }) : wpAny (model prog w) A (pyNext (.ref it)) Q E s := by
  obtain ⟨o, q1, q2, q3⟩ := id st
  obtain ⟨ol, p1, _, nl, p2⟩ := hl
  unfold pyNext
  refine wpAny_bind (wpAny_attempt (wpAny_callSpecial?_slot (name := Str.ofString "__next__") st.typeIs slot_listiter_next (wpAny_call_entry slot_listiter_next st.typeIs entry_listiter_next ?_ (args_listiter_next _))))
  show wpAny _ A.in1 (field (.ref it) 0 >>= _) _ _ s
  refine wpAny_bind (wpAny_field q1 q3 (x := .ref l) rfl ?_)
  show wpAny _ _ (if (Value.ref l == Value.none) = true then _ else _) _ _ s
  rw [if_neg (fun z => nomatch z)]
  refine wpAny_bind (wpAny_field q1 q3 (x := .int i 0) rfl (wpAny_bind (wpAny_seqItems p1 p2 ?_)))
  simp only [Int.toNat_natCast, hx]
  refine wpAny_bind (wpAny_rule (wpAny_bind (wpAny_setField q1 q3 (by simp) ?_)))
  refine stop2 (A := A.in1) (it := it) (h0 := s.heap) hh ((Heap.get?_update_other _ _ (Ne.symm ni)).trans he) hc (Heap.SameBut.update ..).extBut fun a h' ty eb => ?_
  exact wpAny_bind (wpAny_isInstance (T := "StopIteration") (b := true) ty isSubtype_stop (wpAny_pure (k h' eb)))
/-- a tuple's iterator at its end -/
theorem tup_end2 {it l : Addr} {i : Nat} {items : Array Value} {Q : Option Value → Shared → Prop} (hh : A.handled = some (.ref ea)) (he : s.heap.get? ea = some oe) (hc : Ctx0 oe) (ni : ea ≠ it) (st : IsTupIter s.heap it l i) (hl : IsTup s.heap l items) (hx : items[i]? = none)
    (k : ∀ h', Heap.ExtBut it s.heap h' → Q none { s with heap := h' }) : wpAny (model prog w) A (pyNext (.ref it)) Q E s := by
  obtain ⟨o, q1, q2, q3⟩ := id st
  obtain ⟨ol, p1, _, nl, p2⟩ := hl
  unfold pyNext
  refine wpAny_bind (wpAny_attempt (wpAny_callSpecial?_slot (name := Str.ofString "__next__") st.typeIs slot_tupleiter_next (wpAny_call_entry slot_tupleiter_next st.typeIs entry_tupleiter_next ?_ (args_tupleiter_next _))))
  show wpAny _ A.in1 (field (.ref it) 0 >>= _) _ _ s
  refine wpAny_bind (wpAny_field q1 q3 (x := .ref l) rfl ?_)
  show wpAny _ _ (if (Value.ref l == Value.none) = true then _ else _) _ _ s
  rw [if_neg (fun z => nomatch z)]
  refine wpAny_bind (wpAny_field q1 q3 (x := .int i 0) rfl (wpAny_bind (wpAny_seqItems p1 p2 ?_)))
  simp only [Int.toNat_natCast, hx]
  refine wpAny_bind (wpAny_rule (wpAny_bind (wpAny_setField q1 q3 (by simp) ?_)))
  refine stop2 (A := A.in1) (it := it) (h0 := s.heap) hh ((Heap.get?_update_other _ _ (Ne.symm ni)).trans he) hc (Heap.SameBut.update ..).extBut fun a h' ty eb => ?_
  exact wpAny_bind (wpAny_isInstance (T := "StopIteration") (b := true) ty isSubtype_stop (wpAny_pure (k h' eb)))
/-- a tuple as a target -/
theorem tup_to2 {env : Env} {es : List Expr} {kk} {pos : Pos} {t : Addr} {items : Array Value} {Q : Unit → Shared → Prop} (hh : A.handled = some (.ref ea)) (he : s.heap.get? ea = some oe) (hc : Ctx0 oe) (ht : IsTup s.heap t items) (hn : (assignEach es env).length = items.size)
    (hs : (assignEach es env).findIdx? (·.1) = none) (k : ∀ h', Heap.ExtBut s.heap.objs.size s.heap h' → wpAny (model prog w) A (assignInOrder ((assignEach es env).map (·.2)) items.toList) Q E { s with heap := h' }) :
    wpAny (model prog w) A (assign (.Tuple es kk pos) env (.ref t)) Q E s := by
  have nt : t ≠ s.heap.objs.size := by obtain ⟨o, q, _⟩ := ht; exact Nat.ne_of_lt (Heap.lt_size q)
  rw [assign_Tuple]
  refine wpAny_bind (wpAny_standAt ?_)
  unfold unpack
  rw [hn, hs]
  refine wpAny_bind (wpAny_holding ?_)
  unfold unpackItems notIterableAtAll
  refine wpAny_bind (wpAny_bind (wpAny_specialOf ht.typeIs slot_tuple_iter.lookup (wpAny_pure ?_)))
  simp only [Bool.false_eq_true, if_false]
  refine wpAny_bind (wpAny_holding (iter_tuple ht (wpAny_bind (wpAny_holding (draw_tuple nt items.size 0 _ _ ⟨_, Heap.get?_push_size _ rfl, rfl, rfl⟩ (ht.push _) (by lia) fun h1 i1 s1 => ?_)))))
  rw [show List.take items.size (List.drop 0 items.toList) = items.toList by rw [List.drop_zero]; exact List.take_of_length_le (by simp), if_neg (by simp)]
  have ne : ea ≠ s.heap.objs.size := Nat.ne_of_lt (Heap.lt_size he)
  refine wpAny_bind (wpAny_holding (tup_end2 (s := { s with heap := h1 }) hh (s1.extBut ea oe ne (Heap.get?_push_of_some _ he)) hc ne i1 ((ht.push _).extBut s1.extBut nt) (by simp) fun h2 e2 => ?_))
  simp only [Option.isSome_none, Bool.false_eq_true, if_false]
  exact wpAny_pure (k h2 fun b u n q => e2 b u n (s1.extBut b u n (Heap.get?_push_of_some _ q)))
end
end L2

/-! own layer, part 51: a list comprehension, a call, within an except suite -/
namespace L2
open PySem PySem.Spec PyProof.Rows
/-- the exception at ea is handled; it lies there since the entry -/
structure Hx (X : Cx) (ea : Addr) (oe : Obj) : Prop where
  hd : X.A.handled = some (.ref ea)
  ct : Ctx0 oe
  ob : X.s₀.heap.get? ea = some oe
  fr : X.H₀ ea = none
  nf : ea ∉ X.fs
  nx : ea ∉ X.ex
section
variable {X : Cx} {pins : List (Addr × Obj)} {σ : St} {H : Hp} {s : Shared} {ea : Addr} {oe : Obj}
theorem Hx.at (x : Hx X ea oe) (I : Inv X pins σ H s) : s.heap.get? ea = some oe := I.base.keep ea oe x.ob x.fr x.nf x.nx
theorem Hx.no (x : Hx X ea oe) (I : Inv X pins σ H s) : H ea = none := I.base.free ea oe x.ob x.fr x.nx
theorem Hx.lt (x : Hx X ea oe) : ea < X.s₀.heap.objs.size := Heap.lt_size x.ob
theorem Hx.ns (x : Hx X ea oe) (I : Inv X pins σ H s) : ea ∉ frs X.stack := fun z => by
  rcases List.mem_cons.mp (I.stkSub ea z) with e | z
  · exact Nat.ne_of_lt (Nat.lt_of_lt_of_le x.lt I.ok.above) e
  · exact x.nf z
/-- in a comprehension's block -/
theorem hxC {N : List Str} {scope : Scope} {fp : List Addr} (x : Hx X ea oe) (I : Inv X pins σ H s) (hf : ∀ b ∈ fp, FpOk X pins H b) (cl : List (Str × Addr)) (C : Addr) : Hx (cxComp X N scope cl C s H fp) ea oe :=
  ⟨x.hd, x.ct, x.at I, x.no I, x.ns I, fun z => by
    rcases (hf ea z).2.2.2.1 with y | y
    · exact x.nx y
    · exact absurd x.lt (Nat.not_lt.mpr y)⟩
theorem list_done2 {a it : Addr} (x : Hx X ea oe) (i : Nat) (pins : List (Addr × Obj)) (s : Shared) (σ : St) (H : Hp) (E : Value → Shared → Prop) (I : Inv X pins σ H s) (hf : ∀ b ∈ [it], FpOk X pins H b) (st : s.heap.IsListIter it a i) (hg : (Itl X.K a).stop i H) :
    wpAny (model X.prog X.w) X.A (pyNext (.ref it)) (fun r s1 => r = none ∧ Inv X pins σ H s1) E s := by
  obtain ⟨xs, hq, hx⟩ := hg
  obtain ⟨its, rv, p, hz⟩ := I.list hq
  obtain ⟨f0, f1, f2, f3, f4, f5⟩ := hf it (List.mem_singleton.mpr rfl)
  have hl := rv.length
  have ni : ea ≠ it := fun z => by
    rcases f3 with y | y
    · exact x.nx (z ▸ y)
    · exact absurd x.lt (Nat.not_lt.mpr (z ▸ y))
  exact list_end2 x.hd (x.at I) x.ct ni st p.isList (by simp; lia) fun h' eb => ⟨rfl, I.turned (t' := s.toks) (fun b o hb e => eb b o hb e) f0 f1 f3 f4 f5⟩
theorem list_item2 {tg : Expr} {a it : Addr} (i : Nat) (pins : List (Addr × Obj)) (s : Shared) (σ : St) (H : Hp) (E : Value → Shared → Prop) (I : Inv X pins σ H s) (hf : ∀ b ∈ [it], FpOk X pins H b) (st : s.heap.IsListIter it a i) (hg : (Itl X.K a).go i H) :
    wpAny (model X.prog X.w) X.A (pyNext (.ref it)) (fun r s1 => ∃ u, r = some u ∧
      wpAny (model X.prog X.w) X.A (letOwnedTupleGo tg (.ref it) u) (fun _ s2 => ∃ x H', Inv X pins σ H' s2 ∧ RelV x u ∧ (Itl X.K a).yld i H x H' ∧ s2.heap.IsListIter it a (i + 1) ∧ ∀ b ∈ [it], H' b = none) E s1) E s := by
  obtain ⟨xs, x, hq, hx⟩ := hg
  obtain ⟨its, rv, p, hz⟩ := I.list hq
  obtain ⟨u, hu, ru⟩ := rv.get hx
  obtain ⟨f0, f1, f2, f3, f4, f5⟩ := hf it (List.mem_singleton.mpr rfl)
  refine wpAny_pyNext_list_item st p.isList (x := u) (by simpa using hu) fun h' st' sb => ?_
  have I1 : Inv X pins σ H { s with heap := h' } := I.turned (t' := s.toks) (fun b o hb e => (sb.2 b hb).trans e) f0 f1 f3 f4 f5
  obtain ⟨o, e, c, d⟩ := id st'
  exact ⟨u, rfl, go_of (s := { s with heap := h' }) e c d (by decide) ⟨x, H, I1, ru, ⟨rfl, fun ys hy => by rw [I.list_inj hy hq]; exact hx⟩, st', fun b hb => (hf b hb).1⟩⟩
theorem pgT2 {K : PySem.W.Frag} {es : List Expr} {k : Nat} {t : TGs} {n : Nat} {pos : Pos} (x : Hx X ea oe) (h : PGs X es t) (hn : (assignEach es X.env).length = n := by rfl) (hst : (assignEach es X.env).findIdx? (·.1) = none := by rfl) (e : X.K = K := by rfl) : PG X (.Tuple es k pos) (gTup K n t) := by
  subst e
  intro pins s σ H v u Q I r hw
  obtain ⟨a, xs, e1, hq, hl, hw⟩ := hw
  subst e1
  cases r
  obtain ⟨its, rv, ht, hz⟩ := I.tuple hq
  refine tup_to2 x.hd (x.at I) x.ct ht (by simp [hn, ← hl, rv.length]) hst fun h' hx => ?_
  have I1 : Inv X pins σ H { s with heap := h' } := I.kept (t' := s.toks) fun b o e => hx b o (Nat.ne_of_lt (Heap.lt_size e)) e
  exact h pins _ σ H xs _ Q I1 (by simpa using rv) hw
end
section
variable {X : Cx} {N : List Str} {nt : Nat} {js : List Nat} {scope : Scope} {elt iter tg : Expr} {ifs : List Expr} {pos : Pos} {g : TG} {tc : TT} {te tl : TE} {ea : Addr} {oe : Obj}
set_option maxHeartbeats 4000000 in
theorem comp_run2 {pins : List (Addr × Obj)} {σ : St} {H : Hp} {s₂ : Shared} {cl : List (Str × Addr)} {it a : Addr} {E : Value → Shared → Prop} {Fin : List V → Hp → Prop} {W : Nat → List V → Hp → Prop} {nn : Nat}
    {RR : Value → Addr → Result → Shared → Prop} (hx : Hx X ea oe) (ok : CompOk X N nt js scope)
    (hcl : ∀ x c, cl.lookup x = some c → X.env.cells.lookup x = some c) (hcl2 : ∀ x ∈ scope.names, x.2 = .free → ∃ c, cl.lookup x.1 = some c)
    (hg : ∀ cl C s H fp, Hx (cxComp X N scope cl C s H fp) ea oe → PG (cxComp X N scope cl C s H fp) tg g) (hk : Stays g nt) (hc : ∀ cl C s H fp, PTs (cxComp X N scope cl C s H fp) ifs tc) (he : ∀ cl C s H fp, PE (cxComp X N scope cl C s H fp) elt te)
    (I : Inv X pins σ H s₂) (st : s₂.heap.IsListIter it a 0) (hf : ∀ b ∈ [it], FpOk X pins H b) (w0 : W 0 [] H) (lw : LcW (Itl X.K a) nn nt js σ g tc te Fin W)
    (hRR : ∀ D C s' H' zs m, Inv X pins σ (upd H' D (.lst zs)) s' → s'.heap.Ns C m → H' D = none → (upd H' D (.lst zs)) C = none → C ≠ X.env.locals → X.s₀.heap.objs.size ≤ C → (∀ x c, X.env.cells.lookup x = some c → c ≠ C) →
      (∀ p ∈ X.pn ++ pins, p.1 ≠ C) → Fin zs H' → RR (.ref D) C (.ok .next) s') :
    wpAny (model X.prog X.w) X.A (newList []) (fun acc s₃ => wpAny (model X.prog X.w) X.A (newFunctionEnv scope X.env.globals cl [] X.env.qual none .none (some X.env)) (fun cenv s₄ =>
      codeAny (model X.prog X.w) X.A (.compStart (.ListComp elt [⟨tg, iter, ifs, 0⟩] scope pos) 0 (.ref it) acc { cenv with scope := relabel scope X.env }) (RR acc cenv.locals) s₄) E s₃) E s₂ := by
  have T : Turn X.prog X.w X.K tg (Itl X.K a) [it] it (fun i h => h.IsListIter it a i) := turn_list a it
  refine wpAny_newObj_type (wpAny_newFunctionEnv ok.nocell (by intro y hy; simp at hy) (fun h₁ hns₁ hsb₁ => ?_) ok.kind)
  dsimp only at hns₁ hsb₁ ⊢
  generalize hH2 : s₂.heap.push { cls := .type "list", dict := none, data := .seq ([] : List Value).toArray } = H2 at hns₁ hsb₁ ⊢
  have hC : H2.objs.size = s₂.heap.objs.size + 1 := by rw [← hH2, Heap.size_push]
  have hDC : s₂.heap.objs.size ≠ H2.objs.size := by rw [hC]; exact Nat.ne_of_lt (Nat.lt_succ_self _)
  have hCle : s₂.heap.objs.size ≤ H2.objs.size := by rw [hC]; exact Nat.le_succ _
  have below : ∀ b, b < s₂.heap.objs.size → b ≠ H2.objs.size ∧ b ≠ s₂.heap.objs.size := fun b hb => ⟨by rw [hC]; exact Nat.ne_of_lt (Nat.lt_succ_of_lt hb), Nat.ne_of_lt hb⟩
  have old : ∀ b o, s₂.heap.get? b = some o → h₁.get? b = some o := fun b o e => hsb₁.extBut b o (below b (Heap.lt_size e)).1 (Heap.get?_push_of_some _ (hH2 ▸ Heap.get?_push_of_some _ e))
  have hacc : h₁.get? s₂.heap.objs.size = some (lstO []) := hsb₁.extBut _ _ hDC (Heap.get?_push_of_some _ (hH2 ▸ Heap.get?_push_size _ rfl))
  have ho := T.obj 0 _ st
  have lt : ∀ b ∈ [it], b < s₂.heap.objs.size := fun b hb => by obtain ⟨o, e, _⟩ := ho b hb; exact Heap.lt_size e
  have loop : ∀ s₃ : Shared, s₃ = { s₂ with heap := h₁, toks := s₂.toks + ([] : List (Str × Value)).length } →
      codeAny (model X.prog X.w) X.A (.compLoop (.ListComp elt [⟨tg, iter, ifs, 0⟩] scope pos) 0 (.ref it) (.ref s₂.heap.objs.size) (compEnvC scope cl H2.objs.size X.env)) (RR (.ref s₂.heap.objs.size) H2.objs.size) s₃ := by
    rintro s₃ rfl
    have I0 : Inv (cxComp X N scope cl H2.objs.size s₂ H [it]) [(s₂.heap.objs.size, lstO [])] (cS nt js σ) H { s₂ with heap := h₁, toks := s₂.toks + ([] : List (Str × Value)).length } :=
      inv_comp I ok hcl hcl2 hf ho (Nat.le_refl _) hCle hDC old hns₁ hacc
    have fpy : ∀ {H' : Hp} {ys : List Value}, (∀ b ∈ [it], H' b = none) → ∀ b ∈ [it], FpOk (cxComp X N scope cl H2.objs.size s₂ H [it]) [(s₂.heap.objs.size, lstO ys)] H' b := fun {H' ys} hn b hb =>
      ⟨hn b hb, (below b (lt b hb)).1, I0.ok.exfs b hb, .inl hb, (I0.ok.exf b hb).2, fun p hp => by
        have hp' : p ∈ [(s₂.heap.objs.size, lstO ys)] := hp
        have e : p = (s₂.heap.objs.size, lstO ys) := by simpa using hp'
        rw [e]; exact Ne.symm (below b (lt b hb)).2⟩
    refine compLoop_any (fun n s' => ∃ i zs ys H', n = nn - i ∧ i ≤ nn ∧ Inv (cxComp X N scope cl H2.objs.size s₂ H [it]) [(s₂.heap.objs.size, lstO ys)] (cS nt js σ) H' s' ∧ Vals zs ys ∧ s'.heap.IsListIter it a i ∧ (∀ b ∈ [it], H' b = none) ∧ W i zs H') ?_ nn
      ⟨0, [], [], H, rfl, Nat.zero_le _, I0, .nil, T.keep 0 _ _ st (fun b _ o e => old b o e), fun b hb => (hf b hb).1, w0⟩
    rintro n s' ⟨i, zs, ys, H', hn0, hile, I', rv, st', fr', w'⟩
    by_cases hlt : i < nn
    case neg =>
      have hie : i = nn := Nat.le_antisymm hile (Nat.not_lt.mp hlt)
      rw [hie] at w' st'
      obtain ⟨stop, zl, fin⟩ := lw.stop zs H' w'
      refine thn (list_done2 (hxC hx I hf cl H2.objs.size) nn _ s' _ H' (fun _ _ => False) I' (fpy fr') st' stop) fun r s4 ⟨hr, I4⟩ => ?_
      subst hr
      have zD := (I4.pin (s₂.heap.objs.size, lstO ys) (List.mem_append_right _ (List.mem_singleton.mpr rfl)))
      have u := I4.base
      have u2 : Un (frs X.stack) [it] H (upd H' s₂.heap.objs.size (.lst zs)) s₂.heap s4.heap :=
        ⟨u.keep, u.slot, fun b o q n hx => by rw [upd_ne (Nat.ne_of_lt (Heap.lt_size q))]; exact u.free b o q n hx, u.there, fun b xs q => by rw [upd_ne (ne_of_none (u.tups b xs q) zD.2.1)]; exact u.tups b xs q,
         fun b o xs q => by rw [upd_ne (ne_of_none (u.frzs b o xs q) zD.2.1)]; exact u.frzs b o xs q, fun b ps q => by
           obtain ⟨more, e⟩ := u.tbls b ps q
           exact ⟨more, by rw [upd_ne (ne_of_none e zD.2.1)]; exact e⟩⟩
      have hok2 : HOk X.prog X.w (upd H' s₂.heap.objs.size (.lst zs)) s4.heap := HOk.track I4.hok zD.2.1 ⟨zl, ys, _, rv, zD.1⟩
      have I5 : Inv X pins σ (upd H' s₂.heap.objs.size (.lst zs)) s4 := I.call' I4.os u2 hok2 I4.bare fun b hb => ⟨(hf b hb).2.2.2.1, (hf b hb).2.1, (hf b hb).2.2.2.2.1, (hf b hb).2.2.2.2.2⟩
      obtain ⟨m, hn, _⟩ := I4.loc
      refine hRR _ _ s4 H' zs m I5 hn zD.2.1 ?_ ?_ (Nat.le_trans I.sz hCle) ?_ ?_ fin
      · rw [upd_ne (Ne.symm hDC)]; exact I4.free
      · exact Nat.ne_of_gt (Nat.lt_of_lt_of_le I.lt hCle)
      · intro x c e z
        obtain ⟨v, q⟩ := I.cell x c e
        exact absurd (Nat.lt_of_lt_of_le q.lt (by rw [z]; exact hCle)) (Nat.lt_irrefl _)
      · intro p hp z
        exact absurd (Nat.lt_of_lt_of_le (Heap.lt_size (I.pin p hp).1) (by rw [z]; exact hCle)) (Nat.lt_irrefl _)
    case pos =>
      obtain ⟨go, zl⟩ := lw.go i zs H' hlt w'
      have step := lw.step i zs H'
      refine thn (list_item2 (tg := tg) (X := cxComp X N scope cl H2.objs.size s₂ H [it]) i _ s' _ H' (fun _ _ => False) I' (fpy fr') st' go) fun r s4 ⟨u, hr, h4⟩ => ?_
      subst hr
      refine thn h4 fun _ s5 ⟨x, H5, I5, r5, y5, st5, fr5⟩ => ?_
      have I5' := I5.pinned (fpy fr5) (T.obj _ _ st5)
      refine thn (hg cl _ s₂ H [it] (hxC hx I hf cl _) _ s5 _ H5 x u _ I5' r5 (hk _ _ _ _ (step x H5 hlt w' y5))) fun _ s6 ⟨σ6, H6, I6, ⟨hl6, hd6⟩, q6⟩ => ?_
      refine thn (hc cl _ s₂ H [it] _ s6 σ6 H6 _ I6 q6) fun okb s7 ⟨H7, I7, q7⟩ => ?_
      have frs' : ∀ {H8 : Hp} {σ8 : St} {s8 : Shared}, Inv (cxComp X N scope cl H2.objs.size s₂ H [it]) ([(s₂.heap.objs.size, lstO ys)] ++ pinsAt [it] s5.heap) σ8 H8 s8 → s8.heap.IsListIter it a (i + 1) ∧ ∀ b ∈ [it], H8 b = none := fun {H8 σ8 s8} I8 =>
        ⟨T.keep _ _ _ st5 fun b hb o e => (I8.pin (b, o) (List.mem_append_right _ (List.mem_append_right _ (mem_pinsAt hb e)))).1, fun b hb => by
          obtain ⟨o, e, d⟩ := T.obj _ _ st5 b hb
          exact (I8.pin (b, o) (List.mem_append_right _ (List.mem_append_right _ (mem_pinsAt hb e)))).2.1⟩
      cases okb with
      | false =>
        rw [if_neg Bool.false_ne_true] at q7 ⊢
        obtain ⟨a1, a2⟩ := frs' I7
        exact ⟨nn - (i + 1), by rw [hn0]; exact Nat.sub_lt_sub_left hlt (Nat.lt_succ_self i), i + 1, zs, ys, H7, rfl, hlt, I7.unpinned.weak (by rw [hl6]) (cS_weak hl6 hd6), rv, a1, a2, q7⟩
      | true =>
        rw [if_pos rfl] at q7 ⊢
        refine thn (he cl _ s₂ H [it] _ s7 σ6 H7 _ I7 q7) fun v s8 ⟨y, H8, I8, r8, q8⟩ => ?_
        have zD := (I8.pin (s₂.heap.objs.size, lstO ys) (List.mem_append_right _ (List.mem_append_left _ (List.mem_singleton.mpr rfl))))
        have ylen : ys.length < sizeLine := by rw [← rv.length]; exact zl
        obtain ⟨a1, a2⟩ := frs' I8
        refine append_at (hsz := by rw [List.size_toArray]; exact Nat.le_of_lt ylen) zD.1 fun h9 hs9 hD9 => ?_
        have I8u : Inv (cxComp X N scope cl H2.objs.size s₂ H [it]) [] (cS nt js σ) H8 s8 := (I8.pins_of (pins' := []) fun p hp => nomatch hp).weak (by rw [hl6]) (cS_weak hl6 hd6)
        have I9 : Inv (cxComp X N scope cl H2.objs.size s₂ H [it]) [] (cS nt js σ) H8 { s8 with heap := h9 } := I8u.turned (t' := s8.toks) (it := s₂.heap.objs.size) (fun b o hb e => hs9.extBut b o hb e) zD.2.1 hDC (.inr (Nat.le_refl _))
          (fun x c e z => by
            obtain ⟨v, q⟩ := I.cell x c (hcl x c e)
            exact absurd (Nat.lt_of_lt_of_le q.lt (by rw [z]; exact Nat.le_refl _)) (Nat.lt_irrefl _)) (fun p hp => nomatch hp)
        refine ⟨nn - (i + 1), by rw [hn0]; exact Nat.sub_lt_sub_left hlt (Nat.lt_succ_self i), i + 1, zs ++ [y], ys ++ [v], H8, rfl, hlt, I9.pins_of (fun p hp => ?_), rv.snoc r8, T.keep _ _ _ a1 fun b hb o e => hs9.extBut b o (below b (lt b hb)).2 e, a2, q8⟩
        have e : p = (s₂.heap.objs.size, lstO (ys ++ [v])) := by simpa using hp
        subst e
        refine ⟨?_, zD.2.1, hDC, zD.2.2.2.1, fun v z => by cases z⟩
        rw [hD9]
        show some ({ cls := .type "list", data := .seq (ys.toArray.push v) (ys.length + 1) } : Obj) = some { cls := .type "list", data := .seq (ys ++ [v]).toArray (ys ++ [v]).length }
        rw [List.length_append, List.length_singleton, List.push_toArray]
  exact codeAny_compStart_list (loop _ rfl) (T.self _ 0 _ _ _ (T.keep 0 _ _ st (fun b _ o e => old b o e)) (loop _ rfl))


/-- name = [..] -/
theorem ps_lc2 {K : PySem.W.Frag} {i : Nat} {y : Str} {py spos : Pos} (hx : Hx X ea oe) (hN : X.N.Nodup) (hi' : X.N[i]? = some y) (hy : X.env.kindOf y = some .local) (ok : CompOk X N nt js scope) (hi : PE X iter tl) (hg : ∀ cl C s H fp, Hx (cxComp X N scope cl C s H fp) ea oe → PG (cxComp X N scope cl C s H fp) tg g) (hk : Stays g nt)
    (hc : ∀ cl C s H fp, PTs (cxComp X N scope cl C s H fp) ifs tc) (he : ∀ cl C s H fp, PE (cxComp X N scope cl C s H fp) elt te)
    (hsw : swapsWith (.ListComp elt [⟨tg, iter, ifs, 0⟩] scope pos) (some (.Name y py)) spos.line X.env = pure true) (hs : ∀ x, foldedSetIterable iter X.env x = pure x := by intro _; rfl) (eK : X.K = K := by rfl) :
    PS X (.Assign [.Name y py] (.ListComp elt [⟨tg, iter, ifs, 0⟩] scope pos) spos) (tAsg (tLC (iList K tl) nt js g tc te) (gName i)) := by
  subst eK
  intro pins s σ H D₀ I h
  obtain ⟨cl, hclos, hcl, hcl2⟩ := closureFor_ok (scope := scope) (env := X.env) fun x hx hf => I.ok.has x.1 (ok.free x hx hf)
  rw [exec_Assign_Name_used _ _ _ _ hsw]
  refine wpAny_bind (wpAny_standAt (wpAny_bind ?_))
  show wpAny _ X.A (do let _ ← comprehension (.ListComp elt [⟨tg, iter, ifs, 0⟩] scope pos) scope X.env _ (newList []) false (eval iter X.env) (some (assign (.Name y py) X.env))) _ _ s
  refine wpAny_bind (wpAny_mono (wpAny_comprehension_free (use := some (assign (.Name y py) X.env)) (Q := fun _ s' => SP X pins D₀ .next s') rfl hs hclos ok.kind ok.names
    (thn (hi pins s σ H _ I (lc_to (show tLC (iList X.K tl) nt js g tc te σ H fun x H1 => gName i x σ H1 D₀.nx from h))) fun v s1 ⟨x, H1, I1, r1, q1⟩ => ?_)) (fun _ s' hq => wpAny_pure (wpAny_pure hq)) fun _ _ e => e)
  obtain ⟨a, e, ⟨xs, hq⟩, nn, W, w0, lw⟩ := q1
  subst e
  cases r1
  obtain ⟨its, rv, p, hz⟩ := I1.list hq
  refine wpAny_pyIter_list p.isList ?_
  have I2 : Inv X pins σ H1 { s1 with heap := s1.heap.push { cls := .type "list_iterator", data := .fields #[.ref a, .int 0 0] } } := I1.kept (t' := s1.toks) fun b o e => Heap.get?_push_of_some _ e
  have f2 : ∀ b ∈ [s1.heap.objs.size], FpOk X pins H1 b := fun b hb => by
    have e : b = s1.heap.objs.size := List.mem_singleton.mp hb
    subst e
    exact I1.fpOk (Nat.le_refl _) (I1.hok.fresh (Nat.le_refl _))
  refine comp_run2 (RR := fun acc C => compPost (model X.prog X.w) X.A X.xe (some (assign (.Name y py) X.env)) (fun _ s' => SP X pins D₀ .next s') acc C) hx ok hcl hcl2 hg hk hc he I2 ⟨_, Heap.get?_push_size _ rfl, rfl, rfl⟩ f2 w0 lw ?_
  intro D C s' H' zs m I3 hn hDn hCn hCL hC0 hCc hCp fin
  show wpAny _ X.A (assign (.Name y py) X.env (.ref D)) _ _ _
  refine wpAny_assign_Name (store_ok2 (v := .ref D) I3 hN hi' (.inl hy) rfl (fun s3 I4 hsb => ?_) (.inr hy))
  obtain ⟨a, hsb, ha⟩ := hsb
  have haC : C ≠ a := by
    rcases ha with z | z
    · rw [z]; exact hCL
    · exact Ne.symm (hCc y a z)
  refine ⟨m, hn.sameBut hsb haC, fun h'' hs'' => ?_⟩
  exact ⟨_, _, I4.turned (t' := s3.toks) (it := C) (fun b o hb e => hs''.extBut b o hb e) hCn hCL (.inr hC0) hCc hCp, fin D hDn⟩
end
end L2

/-! own layer, part 52: try with `x = g(e)` in its except suite, where g looks at the caught exception -/
namespace L2
open PySem PySem.Spec PyProof.Rows
/-- as CX1, and the exception's context is None -/
def CX2 (P : Program) (w : World) : CXT := fun outer H s E e s' => ∃ (ea : Addr) (cls a0 : Value) (B : Heap) (H' : Hp), e = .ref ea ∧ s'.os = s.os ∧ AllBare s'.gens ∧ Un (frs outer) [] H H' s.heap s'.heap ∧ HOk P w H' s'.heap ∧
  Fly2 B outer ea cls a0 .none s'.heap ∧ (∀ b o, s.heap.get? b = some o → b ∉ frs outer → ∃ o', B.get? b = some o') ∧ (∀ b u, H' b = some u → ∃ o', B.get? b = some o') ∧ E cls none H'
section
variable {P : Program} {w : World} {K : PySem.W.Frag} {mg : Str → Option Value} {base : Heap} {N : List Str} {qual : Str} {scope : Scope} {f : Addr} {cd : Value} {A : Around} {outer : List Env} {s : Shared} {H : Hp} {E : XK}
theorem makes2 : Makes (cxOf (CX2 P w) P w K mg base N qual scope f cd A outer s H E) E := by
  intro pins σ H1 s1 h2 ea cls vs I hx hE
  have k1 : ∀ b o, s1.heap.get? b = some o → b ∉ frs (cxOf (CX2 P w) P w K mg base N qual scope f cd A outer s H E).stack → ∃ o', (PySem.W.hideAll s1.heap (frs (cxOf (CX2 P w) P w K mg base N qual scope f cd A outer s H E).stack)).get? b = some o' := fun b o e n => ⟨o, PySem.W.hideAll_get _ e n⟩
  have k2 : ∀ b u, H1 b = some u → ∃ o', (PySem.W.hideAll s1.heap (frs (cxOf (CX2 P w) P w K mg base N qual scope f cd A outer s H E).stack)).get? b = some o' := fun b u e => by
    obtain ⟨o, q⟩ := (I.hok b u e).got
    exact k1 b o q fun z => by rw [I.stkFree b z] at e; cases e
  refine made2 (B := PySem.W.hideAll s1.heap (frs (cxOf (CX2 P w) P w K mg base N qual scope f cd A outer s H E).stack)) (h := s1.heap) (outer := outer) I.ok.frames rfl (fun b o q => PySem.W.of_hideAll _ q) (PySem.W.funFrames_hide I.stack (hid_frs s1.heap _)) hx fun h' t fly us => ?_
  have us1 : s1.heap.UpToSlots h' := (Heap.UpToSlots.of_keeps hx.keeps).trans us
  have J := I.flown (s' := s1) (toks := s1.toks) Un.refl I.hok rfl I.bare (fun b o q => PySem.W.of_hideAll _ q) k1 k2 fly.1 (Inv.slots I.stack us1)
  refine ⟨ea, cls, _, _, H1, rfl, I.os, I.bare, J.base, J.hok, fly, fun b o e n => ?_, k2, hE⟩
  obtain ⟨o1, q⟩ := I.base.there b o e (fun z => nomatch z)
  refine k1 b o1 q fun z => ?_
  rcases List.mem_cons.mp (I.stkSub b z) with e1 | z
  · exact Nat.ne_of_lt (Nat.lt_of_lt_of_le (Heap.lt_size e) I.ok.above) e1
  · exact n z
/-- an exception of a callee goes on through a def's body -/
theorem pass2 : Passes (CX2 P w) (cxOf (CX2 P w) P w K mg base N qual scope f cd A outer s H E) E := by
  rintro pins σ H1 s1 e s2 I ⟨ea, cls, a0, B, H', rfl, os, bare, un, hok, fly, k1, k2, hE⟩
  refine leave2 (B := B) (outer := outer) I.ok.frames rfl fly fun h' fly' us => ?_
  have J := I.flown (toks := s2.toks) un hok os bare fly.1 k1 k2 fly'.1 (Inv.slots fly.2.2.1 us)
  refine ⟨ea, cls, a0, B, H', rfl, os.trans I.os, bare, J.base, J.hok, fly', fun b o e n => ?_, k2, hE⟩
  obtain ⟨o1, q⟩ := I.base.there b o e (fun z => nomatch z)
  refine k1 b o1 q fun z => ?_
  rcases List.mem_cons.mp (I.stkSub b z) with e1 | z
  · exact Nat.ne_of_lt (Nat.lt_of_lt_of_le (Heap.lt_size e) I.ok.above) e1
  · exact n z
theorem Fun.okY {x : Str} {st : Stmt} {fd : FuncData} {ps : List Str} {k : Nat} {sp : Sp} (F : Fun K x qual st f fd) (S : FnScope N ps (defScope st)) (len : ∀ vs H Q E, sp vs H Q E → vs.length = ps.length)
    (hbody : ∀ (cdv : Value) (A : Around) (outer : List Env) (s : Shared) (H : Hp) (vs : List V) (Q : VK) (E : XK), Room k (A.deeper (envOfC qual (defScope st) s.heap.objs.size f cdv)) → sp vs H Q E →
      ∃ t, PSs (cxOf (CX2 P w) P w K mg base N qual (defScope st) f cdv A outer s H E) (defBody st) t ∧ t { nx := fun _ H' => Q .non H', rt := Q } (start N vs) H) : FnOk P w K mg base (CX2 P w) (k + 1) f fd ps sp := by
  obtain ⟨oc, od, kV, doc, pm, an, cdv, ct, osl, rfl, lk, hcd⟩ := F.ex
  exact fn_of lk hcd S len fun A outer s H vs Q E hr hsp => hbody cdv A outer s H vs Q E hr hsp
/-- where no exception comes, none comes -/
theorem FnOk.calm {fd : FuncData} {ps : List Str} {k : Nat} {sp : Sp} {CX : CXT} (F : FnOk P w K mg base CX0 k f fd ps sp) : FnOk P w K mg base CX k f fd ps sp :=
  ⟨F.len, fun A outer s H args us vs Q E hr he hb hv hs => codeAny_mono (F.run A outer s H args us vs Q E hr he hb hv hs) fun r s' q => by
    cases r with
    | ok fl => cases fl <;> exact q
    | error e => exact False.elim q⟩
theorem FnOk.or {fd : FuncData} {ps : List Str} {k : Nat} {sp sp' : Sp} {CX : CXT} (F : FnOk P w K mg base CX k f fd ps sp) (G : FnOk P w K mg base CX k f fd ps sp') : FnOk P w K mg base CX k f fd ps (fun vs H Q E => sp vs H Q E ∨ sp' vs H Q E) :=
  ⟨fun vs H Q E h => h.elim (F.len vs H Q E) (G.len vs H Q E), fun A outer s H args us vs Q E hr he hb hv hs => hs.elim (F.run A outer s H args us vs Q E hr he hb hv) (G.run A outer s H args us vs Q E hr he hb hv)⟩
end
structure FdY (P : Program) (w : World) (K : PySem.W.Frag) (mg : Str → Option Value) (base : Heap) (n : Nat) (x : Str) (ps : List Str) (sp : Sp) : Prop where
  ex : ∃ (f : Addr) (fd : FuncData), FnOk P w K mg base (CX2 P w) n f fd ps sp ∧ Binds K fd ps [] ∧ PySem.W.keepIn K (.ref f) = true ∧ mg x = some (.ref f)
theorem pe_fnY {X : Cx} {n k : Nat} {x : Str} {ps : List Str} {sp : Sp} {E : XK} {e : Expr} {es : List Expr} {t : TA} {p pos : Pos} (F : FdY X.prog X.w X.K X.mg X.base n x ps sp) (hr : Room k X.A) (hg : Gl X x) (hp : Passes (CX2 X.prog X.w) X E) (ha : PA X (e :: es) t) (hn : n ≤ k := by decide)
    (hdb : (x == ("__debug__" : Str)) = false := by decide) (he : starEach (e :: es) X.env = (false, eval e X.env) :: starEach es X.env := by rfl) (hpl : (backTo pos (starEach es X.env)).any (·.1) = false := by rfl) :
    PE X (.Call (.Name x p) (e :: es) [] pos) (tCall sp [] E t) := by
  obtain ⟨f, fd, F1, F2, F3, F4⟩ := F.ex
  exact pe_call F1 (hr.mono hn) hg F4 F3 F2 .nil hp ha hdb he hpl
/-! ### what stands within a try -/
abbrev TB := (St → Hp → Prop) → XK → St → Hp → Prop
/-- it goes on to nx, or an exception comes, with all names as they were at the try -/
def PB (X : Cx) (body : List Stmt) (t : TB) : Prop := ∀ (pins : List (Addr × Obj)) (s : Shared) (σ : St) (H : Hp) (nx : St → Hp → Prop) (E : XK), Inv X pins σ H s → t nx E σ H →
  wpAny (model X.prog X.w) X.A (execs body X.env) (fun fl s1 => fl = .next ∧ ∃ σ' H', Inv X pins σ' H' s1 ∧ nx σ' H') (fun e s2 => ∃ H1 s1, Inv X pins σ H1 s1 ∧ CX2 X.prog X.w X.stack H1 s1 E e s2) s
def tBx (sp : Sp) (t : TA) : TB := fun nx E σ H => t σ H fun vs H1 => sp vs H1 (fun _ H2 => nx σ H2) E
section
variable {X : Cx} {n k : Nat} {x : Str} {ps : List Str} {sp : Sp} {e : Expr} {es : List Expr} {t : TA} {p pos : Pos}
/-- f(..), where an exception may come -/
theorem run_y {pins : List (Addr × Obj)} {σ : St} {H : Hp} {s : Shared} {Q : VK} {E : XK} (F : FdY X.prog X.w X.K X.mg X.base n x ps sp) (hr : Room k X.A) (hg : Gl X x) (ha : PA X.nox (e :: es) t) (I : Inv X pins σ H s) (h : t σ H fun vs H1 => sp vs H1 Q E) (hn : n ≤ k)
    (hdb : (x == ("__debug__" : Str)) = false) (he : starEach (e :: es) X.env = (false, eval e X.env) :: starEach es X.env) (hpl : (backTo pos (starEach es X.env)).any (·.1) = false) :
    wpAny (model X.prog X.w) X.A (eval (.Call (.Name x p) (e :: es) [] pos) X.env) (EP X pins σ Q) (fun e s2 => ∃ H1 s1, Inv X pins σ H1 s1 ∧ CX2 X.prog X.w X.stack H1 s1 E e s2) s := by
  obtain ⟨f, fd, F1, F2, F3, F4⟩ := F.ex
  refine wpAny_Call_Name_kw (ld_glob I hg F4 ?_ hdb)
  refine PySem.W.callWith_K (h₀ := X.base) I.ok.mod.kin F3 (wpAny_mono (ha pos pins s σ H _ (I.wish _) h) (fun us s1 ⟨vs, H1, I1, r, q⟩ => ⟨I1.unwish.kIn, ?_⟩) fun _ _ z => False.elim z) he hpl
  have I1 := I1.unwish
  have hlen : us.length = ps.length := by rw [← r.length]; exact F1.len _ _ _ _ q
  have hb' := F2 s1 us I1.kIn (by rw [List.append_nil]; exact hlen)
  rw [List.append_nil] at hb'
  refine wpAny_call (codeAny_mono (F1.run X.A X.stack s1 H1 ⟨us, []⟩ us vs _ _ (hr.mono hn) I1.env0 hb' r q) fun r s2 hq => ?_)
  cases r with
  | error e => exact ⟨H1, s1, I1, hq⟩
  | ok fl =>
    cases fl with
    | ret u => exact I1.after hq
    | next => exact False.elim hq
    | brk => exact False.elim hq
    | cont => exact False.elim hq
theorem pb_expr {epos : Pos} (F : FdY X.prog X.w X.K X.mg X.base n x ps sp) (hr : Room k X.A) (hg : Gl X x) (ha : PA X.nox (e :: es) t) (hn : n ≤ k := by decide) (hs : swapsWith (.Call (.Name x p) (e :: es) [] pos) none epos.line X.env = pure false := by rfl)
    (hdb : (x == ("__debug__" : Str)) = false := by decide) (he : starEach (e :: es) X.env = (false, eval e X.env) :: starEach es X.env := by rfl) (hpl : (backTo pos (starEach es X.env)).any (·.1) = false := by rfl) :
    PB X [.Expr (.Call (.Name x p) (e :: es) [] pos) epos] (tBx sp t) := by
  intro pins s σ H nx E I h
  exact wpAny_execs_cons (wpAny_Expr_any (thn (run_y F hr hg ha I h hn hdb he hpl) fun v s1 ⟨y, H1, I1, r1, q1⟩ => wpAny_execs_nil ⟨rfl, σ, H1, I1, q1⟩) I.quiet hs)
end
/-! ### a def that is called with the caught exception, in the except suite -/
abbrev SpH := Value → Addr → Hp → VK → Prop
structure FnH (P : Program) (w : World) (K : PySem.W.Frag) (mg : Str → Option Value) (base : Heap) (k : Nat) (f : Addr) (fd : FuncData) (x : Str) (sp : SpH) : Prop where
  run : ∀ (A : Around) (outer : List Env) (s : Shared) (H : Hp) (ea : Addr) (oe : Obj) (Q : VK), Room k A → Env0 P w K mg base (A.mark (some (.ref ea))) outer s H → BindsTo s fd ⟨[.ref ea], []⟩ [(x, .ref ea)] → s.heap.get? ea = some oe → Ctx0 oe → H ea = none → ea ∉ frs outer → sp oe.cls ea H Q →
    codeAny (model P w) (A.mark (some (.ref ea))) (.call (.ref f) ⟨[.ref ea], []⟩) (CR CX0 outer P w H s Q E0) s
section
variable {P : Program} {w : World} {K : PySem.W.Frag} {mg : Str → Option Value} {base : Heap}
theorem Fun.okH {x qual y : Str} {st : Stmt} {f : Addr} {fd : FuncData} {N : List Str} {k : Nat} {sp : SpH} (F : Fun K x qual st f fd) (S : FnScope N [y] (defScope st))
    (hbody : ∀ (cdv : Value) (A : Around) (outer : List Env) (s : Shared) (H : Hp) (ea : Addr) (oe : Obj) (Q : VK), Room k (A.deeper (envOfC qual (defScope st) s.heap.objs.size f cdv)) → Hx ((cxOf CX0 P w K mg base N qual (defScope st) f cdv A outer s H E0).marked ea) ea oe → sp oe.cls ea H Q →
      ∃ t, PSs ((cxOf CX0 P w K mg base N qual (defScope st) f cdv A outer s H E0).marked ea) (defBody st) t ∧ t { nx := fun _ H' => Q .non H', rt := Q } (start N [.ref ea]) H) : FnH P w K mg base (k + 1) f fd y sp := by
  obtain ⟨oc, od, kV, doc, pm, an, cdv, ct, osl, rfl, lk, hcd⟩ := F.ex
  refine ⟨fun A outer s H ea oe Q hr e0 hb ho hc hn hf hsp => ?_⟩
  have e1 : Env0 P w K mg base A outer s H := ⟨e0.frames, e0.mod, e0.bs, e0.bsz, e0.funs, e0.frf, e0.hok, e0.bare⟩
  have KX : K.In s.heap := e0.mod.kin.keeps fun b o e => (e0.bs b o e).1
  have lim : s.heap.NoLimit := e0.mod.nolimit.keeps fun b o e => (e0.bs b o e).1
  have hkind : ∀ z ∈ [y].zip [Value.ref ea], (defScope st).names.lookup z.1 = some .local ∨ ((defScope st).names.lookup z.1 = some .cell ∧ ((cellsFrom (s.heap.objs.size + 1) (defScope st).names []).lookup z.1).isSome = true) := fun ⟨n, v⟩ hy => by
    rcases S.par n (List.of_mem_zip hy).1 with q | q
    · exact .inl q
    · exact .inr ⟨q, PySem.W.cellsFrom_some _ _ _ (.inl q)⟩
  refine codeAny_call_function (show (A.mark (some (.ref ea))).depth < _ from hr.depth) (KX _ _ lk) rfl S.co S.gen rfl (PySem.W.codeRec_of KX hcd) (hb _ _ _ _ ?_)
  refine wpAny_newFunctionEnv_cells S.kind hkind fun env he s1 x => ?_
  subst he
  refine ⟨lim.keeps x.toInCall.keep, codeAny_func ?_⟩
  have hx : Hx ((cxOf CX0 P w K mg base N qual (defScope st) f cdv A outer s H E0).marked ea) ea oe := ⟨rfl, hc, ho, hn, hf, fun z => nomatch z⟩
  obtain ⟨t, ht, hq⟩ := hbody cdv A outer s H ea oe Q (hr.deeper _) hx hsp
  have I : Inv (cxOf CX0 P w K mg base N qual (defScope st) f cdv A outer s H E0) [] (start N [.ref ea]) H s1 := inv_start S hr.hd e1 rfl (.cons rfl .nil) x
  refine wpAny_mono (ht [] s1 (start N [.ref ea]) H _ (I.marked ea) hq) (fun fl s' hs => ?_) fun e s' hs => hs.elim
  have fin : ∀ {σ' : St} {H' : Hp} {v : V} {u : Value}, Inv ((cxOf CX0 P w K mg base N qual (defScope st) f cdv A outer s H E0).marked ea) [] σ' H' s' → RelV v u → Q v H' → CE outer P w H s Q u s' :=
    fun {σ' H' v u} J rv q => ⟨v, H', J.os, J.bare, J.base, J.hok, rv, q⟩
  cases fl with
  | ret u =>
    obtain ⟨v, σ', H', J, rv, q⟩ := hs
    exact fin J rv q
  | next =>
    obtain ⟨σ', H', J, q⟩ := hs
    exact fin (v := V.non) (u := Value.none) J rfl q
  | brk => obtain ⟨_, _, _, q⟩ := hs; exact False.elim q
  | cont => obtain ⟨_, _, _, q⟩ := hs; exact False.elim q
end
structure FdH (P : Program) (w : World) (K : PySem.W.Frag) (mg : Str → Option Value) (base : Heap) (n : Nat) (x y : Str) (sp : SpH) : Prop where
  ex : ∃ (f : Addr) (fd : FuncData), FnH P w K mg base n f fd y sp ∧ Binds K fd [y] [] ∧ PySem.W.keepIn K (.ref f) = true ∧ mg x = some (.ref f)
/-! ### the try -/
/-- within the suite: the exception is pinned -/
abbrev Cx.kept (X : Cx) (ea : Addr) (oe : Obj) : Cx := { X.marked ea with pn := (ea, oe) :: X.pn }
section
variable {X : Cx} {pins : List (Addr × Obj)} {σ : St} {H : Hp} {s : Shared} {ea : Addr} {oe : Obj}
theorem Inv.kept2 (I : Inv X pins σ H s) (h1 : s.heap.get? ea = some oe) (h2 : H ea = none) (h3 : ea ≠ X.env.locals) (h4 : ea ∉ X.fs) (h5 : Ctx0 oe) : Inv (X.kept ea oe) pins σ H s :=
  ⟨⟨I.ok.mod, I.ok.kind, I.ok.glob, I.ok.blt, I.ok.above, I.ok.inj, I.ok.has, I.ok.cab, (fun z => nomatch z), I.ok.frames, I.ok.stk, I.ok.exf, I.ok.bs, I.ok.bsz, I.ok.noex, I.ok.exfs, I.ok.funs, I.ok.frf⟩, I.os, I.bare, I.base, I.loc, I.cell, I.free, I.freeC, fun p hp => by
    rcases List.mem_cons.mp (show p ∈ (ea, oe) :: (X.pn ++ pins) from hp) with e | z
    · subst e
      obtain ⟨v, hv, _⟩ := h5
      exact ⟨h1, h2, h3, h4, fun w z => by rw [hv] at z; cases z⟩
    · exact I.pin p z, I.hok, I.len⟩
theorem Inv.unkept (J : Inv (X.kept ea oe) pins σ H s) (ok : X.Ok) : Inv X pins σ H s := ⟨ok, J.os, J.bare, J.base, J.loc, J.cell, J.free, J.freeC, fun p hp => J.pin p (List.mem_cons_of_mem _ hp), J.hok, J.len⟩
end
/-- g(e), e the caught exception -/
def tRef (sp : SpH) (ea : Addr) (cls : Value) (t : TA) : TE := fun σ H Q => t σ H fun vs H1 => vs = [.ref ea] ∧ sp cls ea H1 Q
theorem pe_ref {X : Cx} {ea : Addr} {oe : Obj} {k n : Nat} {x y : Str} {sp : SpH} {e : Expr} {t : TA} {p pos : Pos} (F : FdH X.prog X.w X.K X.mg X.base n x y sp) (hr : Room k X.A) (hc : Ctx0 oe) (hst : X.stack = X.env :: X.outer) (hfr : X.env.frame = some X.env.locals) (hg : Gl X x) (ha : PA (X.kept ea oe) [e] t) (hn : n ≤ k)
    (hdb : (x == ("__debug__" : Str)) = false) (he : starEach [e] X.env = [(false, eval e X.env)]) : PE (X.kept ea oe) (.Call (.Name x p) [e] [] pos) (tRef sp ea oe.cls t) := by
  obtain ⟨f, fd, F1, F2, F3, F4⟩ := F.ex
  intro pins s σ H Q I h
  refine wpAny_Call_Name_kw (ld_glob I hg F4 ?_ hdb)
  refine PySem.W.callWith_K (h₀ := X.base) I.ok.mod.kin F3 (thn (ha pos pins s σ H _ I h) fun us s1 ⟨vs, H1, I1, r, ev, q⟩ => ⟨I1.kIn, ?_⟩) he rfl
  subst ev
  obtain ⟨u, rfl, ru⟩ := r.one
  have ru : u = .ref ea := ru
  subst ru
  obtain ⟨p1, p2, p3, p4, _⟩ := I1.pin (ea, oe) List.mem_cons_self
  have p5 : ea ∉ frs X.stack := fun z => by
    rw [hst] at z
    have z : ea ∈ (X.env :: X.outer).filterMap (·.frame) := z
    rw [List.filterMap_cons, hfr] at z
    rcases List.mem_cons.mp z with z | z
    · exact p3 z
    · exact p4 z
  have hb' := F2 s1 [.ref ea] I1.kIn rfl
  refine wpAny_call (codeAny_mono (F1.run X.A X.stack s1 H1 ea oe Q (hr.mono hn) I1.env0 hb' p1 hc p2 p5 q) fun r s2 hq => ?_)
  cases r with
  | error e => exact False.elim hq
  | ok fl =>
    cases fl with
    | ret u => exact I1.after hq
    | next => exact False.elim hq
    | brk => exact False.elim hq
    | cont => exact False.elim hq
def tTryR (K : PySem.W.Frag) (CE : Addr) (i j : Nat) (sp : SpH) (tb : TB) : TS := fun D σ H => tb D.nx (fun cls _ H2 => PySem.W.exmOne K cls (.ref CE) = some true ∧ ∀ ea, H2 ea = none → sp cls ea H2 fun v H3 => D.nx (((σ.set i (some (.ref ea))).set j (some v)).set i none) H3) σ H
theorem ps_tryR {X : Cx} {k m : Nat} {CE : Addr} {sp : SpH} {g y n a c : Str} {i j : Nat} {gp np ap cpos spos yp hpos pos : Pos} {body : List Stmt} {tb : TB} (hb : PB X body tb) (F : FdH X.prog X.w X.K X.mg X.base m g c sp) (hr : Room k X.A) (hg : Gl X g)
    (hgy : Gl X y) (hmy : X.mg y = some (.ref CE)) (nd : X.N.Nodup) (hi : X.N[i]? = some n) (hl : X.env.scope.names.lookup n = some .local) (hj : X.N[j]? = some a) (hla : X.env.scope.names.lookup a = some .local) (hst : X.stack = X.env :: X.outer) (hfr : X.env.frame = some X.env.locals) (hm : m ≤ k := by decide)
    (hs : swapsWith (.Call (.Name g gp) [.Name n np] [] cpos) (some (.Name a ap)) spos.line X.env = pure false := by rfl) (hdb : (g == ("__debug__" : Str)) = false := by decide) (hdy : (y == ("__debug__" : Str)) = false := by decide) (hdn : (n == ("__debug__" : Str)) = false := by decide) (hcn : (n == ("__classdict__" : Str)) = false := by decide)
    (he : starEach [.Name n np] X.env = [(false, eval (.Name n np) X.env)] := by rfl) :
    PS X (.Try body [.ExceptHandler (some (.Name y yp)) (some n) [.Assign [.Name a ap] (.Call (.Name g gp) [.Name n np] [] cpos) spos] hpos] [] [] pos) (tTryR X.K CE i j sp tb) := by
  intro pins s σ H D I h
  refine wpAny_Try_except (wpAny_mono (hb pins s σ H _ _ I h) (fun fl s1 ⟨ef, σ', H', I1, q⟩ => ?_) fun ex s2 ⟨H1, s1, I1, hq⟩ => ?_)
  · subst ef
    exact wpAny_execs_nil ⟨σ', H', I1, q⟩
  obtain ⟨ea, cls, a0, B, H2, rfl, os, bare, un, hok, fly, k1, k2, hxm, hts⟩ := hq
  have hH2 : H2 ea = none := by
    cases z : H2 ea with
    | none => rfl
    | some u => obtain ⟨o', q'⟩ := k2 ea u z; rw [fly.2.1] at q'; cases q'
  have hts := hts ea hH2
  have hA : X.A.frames = some (X.env :: X.outer) := by rw [← hst]; exact I.ok.frames
  have ff := fly.2.2.1
  rw [hst] at fly
  refine note2 (B := B) hA hfr fly fun h3 held us3 => ?_
  refine land2 (s := { s2 with heap := h3 }) held fun h4 fly4 us4 => ?_
  have u4 := us3.trans us4
  have J4 := I1.flown (toks := s2.toks) un hok os bare fly.1 k1 k2 fly4.1 (Inv.slots ff u4)
  refine wpAny_handleBy_cons (codeAny_handlers_test ?_) (by intro q; cases q)
  refine ld_glob (X := X.marked ea) (J4.marked ea) hgy hmy ?_ hdy
  obtain ⟨ob, hob, hcl, _⟩ := fly4.obj
  have LT : PySem.W.Looks (model X.prog X.w) h4 (typeOf (.ref ea)) cls := by subst hcl; exact (PySem.W.Looks.ld hob).andThen .now
  refine (PySem.W.exm_one J4.kIn LT hxm).here ?_
  refine codeAny_handlers_suite_as ?_
  refine land2 (s := { s2 with heap := h4 }) fly4 fun h5 fly5 us5 => ?_
  obtain ⟨oe, heo, hec, hct⟩ := fly5.obj
  have J5 := I1.flown (toks := s2.toks) un hok os bare fly.1 k1 k2 fly5.1 (Inv.slots ff (u4.trans us5))
  have p5 : ea ∉ (X.env :: X.outer).filterMap (·.frame) := fun z => by
    obtain ⟨_, o', e', nf⟩ := fly5.2.2.1.mem z
    rw [heo] at e'
    cases e'
    obtain ⟨v, hv, _⟩ := hct
    exact nf v hv
  rw [List.filterMap_cons, hfr] at p5
  have p3 : ea ≠ X.env.locals := fun z => p5 (z ▸ List.mem_cons_self)
  have p4 : ea ∉ X.fs := fun z => p5 (List.mem_cons_of_mem _ z)
  have J6 : Inv (X.kept ea oe) pins σ H2 { s2 with heap := h5 } := J5.kept2 heo hH2 p3 p4 hct
  have il : i < σ.length := by rw [I.len]; exact (List.getElem?_eq_some_iff.mp hi).1
  have pn : PE (X.kept ea oe) (.Name n np) (tVar i) := pe_var hi (.inl hl) hdn hcn
  have PC := pe_ref (p := gp) (pos := cpos) F hr hct hst hfr hg (pa_cons pn pa_nil he) hm hdb he
  have PA1 : PS (X.kept ea oe) (.Assign [.Name a ap] (.Call (.Name g gp) [.Name n np] [] cpos) spos) _ := ps_set nd hj (.inl hla) PC hs (.inr hla)
  refine store_ok (X := X.kept ea oe) J6 nd hi (.inl hl) (v := .ref ea) rfl (fun s6 I6 => ?_) (.inr hl)
  have hq6 : tAsg (tRef sp ea oe.cls (tCons (tVar i) tNil)) (gName j) { nx := fun σ' H3 => D.nx (σ'.set i none) H3, rt := fun _ _ => False } (σ.set i (some (.ref ea))) H2 :=
    ⟨.ref ea, by rw [List.getElem?_set_self il], rfl, by rw [hec]; exact hts⟩
  refine wpAny_execs_cons (wpAny_mono (PA1 pins s6 _ _ _ I6 hq6) (fun fl s7 hs7 => ?_) fun _ _ z => False.elim z)
  cases fl with
  | next =>
    obtain ⟨σ', H7, I7, q7⟩ := hs7
    refine wpAny_execs_nil ?_
    obtain ⟨m, hn, hl7⟩ := id I7.loc
    refine wpAny_nameGoes_keeps hl hn (by rw [I.ok.kind]; rfl) fun h8 v hn8 sb => ?_
    exact ⟨_, _, (I7.unkept I.ok).gone nd hi hl7 hn8 sb, q7⟩
  | ret u => obtain ⟨_, _, _, _, _, q7⟩ := hs7; exact q7.elim
  | brk => obtain ⟨_, _, _, q7⟩ := hs7; exact q7.elim
  | cont => obtain ⟨_, _, _, q7⟩ := hs7; exact q7.elim
/-! ### isinstance of the caught exception -/
section
open PySem.W
variable {X : Cx} (K : PySem.W.Frag)
inductive cIsiH (ea : Addr) (cls : Value) (xs : List V) (H : Hp) (Q : VK) : Prop
  | mk (D : _) (y : _) (c : _) (b : _) (h1 : cls = .ref D) (h2 : XTy K D) (h3 : xs = [.ref ea, y]) (h4 : clsV y = some c) (h5 : kitOne K (.ref D) c = some b) (h6 : Q (.bl b) H) : cIsiH ea cls xs H Q
theorem isiH {ea : Addr} {oe : Obj} (hx : Hx X ea oe) (e : X.K = K := by rfl) : CallR X (.builtin "isinstance") (cIsiH K ea oe.cls) := by
  subst e
  intro pins s σ H xs us Q I r h
  obtain ⟨D, y, c, b, hD, T, rfl, hy, hk, q⟩ := h
  have hp : ExAt ea D s.heap := ⟨oe, hx.at I, hD⟩
  obtain ⟨u, w', rfl, rx, ry⟩ := vals2 r
  cases rx
  rw [clsV_rel ry hy]
  exact kia_one (kitx_exc T) I.kIn hp hk (fun z => nomatch z) fun tk => ⟨.bl b, H, I.tok _, rfl, q⟩
end
end L2

/-! own layer, part 53: what a refusal's word is -/
namespace L2
open PySem PySem.Spec PyProof.Rows PySem.W
def refWords : List Str := ["many", "points", "point", "number", "curve", "stretch", "deep", "few", "text", "row"]
/-- the class at D is a ValueError, and of the classes cs it is the one at n alone -/
structure RefK (K : Frag) (D : Addr) (cs : List Addr) (n : Nat) : Prop where
  ty : XTy K D
  ve : kitOne K (.ref D) (.type "ValueError") = some true
  of : ∀ i c, cs[i]? = some c → kitOne K (.ref D) (.ref c) = some (i == n)
def spRefH (K : Frag) (cs : List Addr) : SpH := fun cls _ H Q => ∃ D n w, cls = .ref D ∧ RefK K D cs n ∧ refWords[n]? = some w ∧ ∀ H', Same H H' → Q (.str w) H'
/-- the items of a list of pairs of a text and a truth -/
def WB (K : Frag) (H : Hp) (x : V) (p : Str × Bool) : Prop := ∃ a, x = .ref a ∧ SqT K H a [.str p.1, .bl p.2]
theorem WB.same {K : Frag} {H H' : Hp} {x : V} {p : Str × Bool} (h : WB K H x p) (e : Same H H') : WB K H' x p := let ⟨a, q, r⟩ := h; ⟨a, q, r.same e⟩
theorem WBs.same {K : Frag} {H H' : Hp} {xs : List V} {ps : List (Str × Bool)} (h : Paired (WB K H) xs ps) (e : Same H H') : Paired (WB K H') xs ps := Paired.mapP h fun _ _ q => WB.same q e
theorem WBs.snoc {K : Frag} {H : Hp} {xs : List V} {ps : List (Str × Bool)} {x y : V} {p r : Str × Bool} (h : Paired (WB K H) xs ps) (h1 : WB K H x p) (h2 : WB K H y r) : Paired (WB K H) (xs ++ [x, y]) (ps ++ [p, r]) := by
  induction h with
  | nil => exact .cons h1 (.cons h2 .nil)
  | cons a b ih => exact .cons a ih
def picked (ps : List (Str × Bool)) : List V := (ps.filter (·.2)).map fun p => .str p.1
theorem picked_snoc (ps : List (Str × Bool)) (p : Str × Bool) : picked (ps ++ [p]) = if p.2 = true then picked ps ++ [.str p.1] else picked ps := by
  unfold picked
  rw [List.filter_append]
  by_cases h : p.2 = true
  · rw [if_pos h, List.map_append]
    simp [h]
  · rw [if_neg h]
    simp [h]
theorem lc_pick {K : Frag} {a : Addr} {xs : List V} {ps : List (Str × Bool)} {σ : St} {H : Hp} {Fin : List V → Hp → Prop} (hS : SqL K H a xs) (hP : Paired (WB K H) xs ps) (hz : xs.length ≤ sizeLine) (fin : Fin (picked ps) H) :
    ∃ (n' : Nat) (W : Nat → List V → Hp → Prop), W 0 [] H ∧ LcW (Itl K a) n' 2 [] σ (gTup K 2 (gCons (gName 0) (gCons (gName 1) gNil))) (tB (tVar 1)) (tVar 0) Fin W := by
  have hl := hP.length
  have le : ∀ i, i ≤ xs.length → (picked (ps.take i)).length ≤ i := fun i hi => by
    unfold picked
    rw [List.length_map]
    exact Nat.le_trans (List.length_filter_le _ _) (by rw [List.length_take]; exact Nat.min_le_left _ _)
  refine ⟨xs.length, fun i zs H' => H' = H ∧ zs = picked (ps.take i), ⟨rfl, rfl⟩, ⟨?_, ?_, ?_⟩⟩
  · rintro i zs H' hi ⟨rfl, rfl⟩
    exact ⟨⟨xs, xs[i], hS, by simp [hi]⟩, Nat.lt_of_le_of_lt (le i (Nat.le_of_lt hi)) (Nat.lt_of_lt_of_le hi hz)⟩
  · rintro i zs H' x H1 hi ⟨rfl, rfl⟩ ⟨rfl, y⟩
    have hx := y xs hS
    have hi' : i < ps.length := by rw [← hl]; exact hi
    obtain ⟨q, hq, c, rfl, hT⟩ := Paired.get hP hx
    have et : ps.take (i + 1) = ps.take i ++ [q] := by rw [List.take_add_one, hq]; rfl
    refine ⟨c, _, rfl, hT, rfl, .str q.1, _, rfl, .bl q.2, _, rfl, rfl, ⟨.bl q.2, rfl, q.2, rfl, ?_⟩⟩
    have e := picked_snoc (ps.take i) q
    rw [← et] at e
    by_cases h : q.2 = true
    · rw [if_pos h] at e
      show if q.2 = true then _ else _
      rw [if_pos h]
      exact ⟨.str q.1, rfl, rfl, e.symm⟩
    · rw [if_neg h] at e
      show if q.2 = true then _ else _
      rw [if_neg h]
      exact ⟨rfl, e.symm⟩
  · rintro zs H' ⟨rfl, rfl⟩
    refine ⟨⟨xs, hS, Nat.le_refl _⟩, Nat.le_trans (le _ (Nat.le_refl _)) hz, ?_⟩
    rw [hl, List.take_length]
    exact fin
/-- of ten classes just one: one word -/
theorem one_word {n : Nat} {w : Str} (h : refWords[n]? = some w) : picked (List.zip refWords ((List.range 10).map fun i => i == n)) = [.str w] := by
  have hn : n < 10 := by
    have := (List.getElem?_eq_some_iff.mp h).1
    exact this
  have key : ∀ n : Fin 10, ∀ w, refWords[n.val]? = some w → picked (List.zip refWords ((List.range 10).map fun i => i == n.val)) = [.str w] := by
    intro n w h
    match n, h with
    | 0, h => cases h; rfl
    | 1, h => cases h; rfl
    | 2, h => cases h; rfl
    | 3, h => cases h; rfl
    | 4, h => cases h; rfl
    | 5, h => cases h; rfl
    | 6, h => cases h; rfl
    | 7, h => cases h; rfl
    | 8, h => cases h; rfl
    | 9, h => cases h; rfl
  exact key ⟨n, hn⟩ w h
end L2

/-! own layer, part 54: a list as the value of `a, b, .. = xs` -/
namespace L2
open PySem PySem.Spec PyProof.Rows
section
variable {prog : Program} {w : World} {A : Around} {E : Value → Shared → Prop}
end
end L2

/-! own layer, part 55: the table of a set, where its things are found again -/
namespace L2
open PySem PySem.Spec PyProof.Rows
namespace St
open SetTable
/-- rising -/
abbrev Ris (xs : Array Nat) : Prop := xs.toList.Pairwise (· < ·)
theorem Ris.lt {xs : Array Nat} (h : Ris xs) {i k x y : Nat} (hi : xs[i]? = some x) (hk : xs[k]? = some y) (hl : i < k) : x < y := by
  rw [← Array.getElem?_toList] at hi hk
  obtain ⟨h1, e1⟩ := List.getElem?_eq_some_iff.mp hi
  obtain ⟨h2, e2⟩ := List.getElem?_eq_some_iff.mp hk
  rw [← e1, ← e2]
  exact List.pairwise_iff_getElem.mp h i k h1 h2 hl
/-- what below tells: all ahead are less, none from there on -/
theorem below_go {xs : Array Nat} (hr : Ris xs) (j : Nat) : ∀ (fuel lo hi : Nat), hi ≤ xs.size → lo ≤ hi → hi - lo ≤ fuel → (∀ i x, i < lo → xs[i]? = some x → x < j) → (∀ i x, hi ≤ i → xs[i]? = some x → j ≤ x) →
    ∃ p, below.go xs j fuel lo hi = p ∧ p ≤ xs.size ∧ (∀ i x, i < p → xs[i]? = some x → x < j) ∧ ∀ i x, p ≤ i → xs[i]? = some x → j ≤ x := by
  intro fuel
  induction fuel with
  | zero =>
    intro lo hi h1 h2 h3 hA hB
    exact ⟨lo, rfl, by lia, hA, fun i x hi' => hB i x (by lia)⟩
  | succ fuel ih =>
    intro lo hi h1 h2 h3 hA hB
    unfold below.go
    by_cases hl : lo < hi
    · rw [if_pos hl]
      have hm : (lo + hi) / 2 < xs.size := by lia
      have g : xs[(lo + hi) / 2]? = some xs[(lo + hi) / 2] := Array.getElem?_eq_getElem hm
      have gd : xs.getD ((lo + hi) / 2) j = xs[(lo + hi) / 2] := by rw [Array.getD_eq_getD_getElem?, g]; rfl
      dsimp only
      rw [gd]
      by_cases hc : xs[(lo + hi) / 2] < j
      · rw [if_pos hc]
        refine ih ((lo + hi) / 2 + 1) hi h1 (by lia) (by lia) (fun i x hi' hx => ?_) hB
        rcases Nat.lt_or_ge i ((lo + hi) / 2) with z | z
        · exact Nat.lt_trans (hr.lt hx g z) hc
        · have e : i = (lo + hi) / 2 := by lia
          subst e
          rw [g] at hx
          cases hx
          exact hc
      · rw [if_neg hc]
        refine ih lo ((lo + hi) / 2) (by lia) (by lia) (by lia) hA (fun i x hi' hx => ?_)
        rcases Nat.lt_or_ge ((lo + hi) / 2) i with z | z
        · exact Nat.le_trans (Nat.not_lt.mp hc) (Nat.le_of_lt (hr.lt g hx z))
        · have e : i = (lo + hi) / 2 := by lia
          subst e
          rw [g] at hx
          cases hx
          exact Nat.not_lt.mp hc
    · rw [if_neg hl]
      exact ⟨lo, rfl, by lia, hA, fun i x hi' => hB i x (by lia)⟩
theorem below_ok {xs : Array Nat} (hr : Ris xs) (j : Nat) : below xs j ≤ xs.size ∧ (∀ i x, i < below xs j → xs[i]? = some x → x < j) ∧ ∀ i x, below xs j ≤ i → xs[i]? = some x → j ≤ x := by
  obtain ⟨p, e, h⟩ := below_go hr j xs.size 0 xs.size (Nat.le_refl _) (Nat.zero_le _) (by lia) (fun i x h => absurd h (Nat.not_lt_zero _)) (fun i x h hx => by
    have := (Array.getElem?_eq_some_iff.mp hx).1
    lia)
  unfold below
  rw [e]
  exact h
/-- a place that is taken is seen so -/
theorem slot_live {t : SetTable} (hr : Ris t.place) {i j : Nat} (h : t.place[i]? = some j) : t.slot j = .live i := by
  obtain ⟨_, b2, b3⟩ := below_ok hr j
  have e : below t.place j = i := by
    rcases Nat.lt_trichotomy (below t.place j) i with z | z | z
    · have hs : i < t.place.size := (Array.getElem?_eq_some_iff.mp h).1
      have g : t.place[below t.place j]? = some t.place[below t.place j] := Array.getElem?_eq_getElem (by lia)
      have h1 := b3 _ _ (Nat.le_refl _) g
      have h2 := hr.lt g h z
      lia
    · exact z
    · exact absurd (b2 i j z h) (Nat.lt_irrefl _)
  unfold slot
  rw [e]
  dsimp only
  rw [h]
  simp
theorem insert_list {α : Type} (xs : Array α) (p : Nat) (x : α) : (insertAt xs p x).toList = xs.toList.take p ++ x :: xs.toList.drop p := by
  unfold insertAt
  simp [Array.toList_append, Array.toList_push, Array.toList_extract, List.extract_eq_drop_take]
  exact List.take_of_length_le (by rw [List.length_drop, Array.length_toList]; exact Nat.le_refl _)
theorem insert_at {α : Type} {xs : Array α} {p : Nat} {x : α} (hp : p ≤ xs.size) {i : Nat} : (insertAt xs p x)[i]? = if i < p then xs[i]? else if i = p then some x else xs[i - 1]? := by
  rw [← Array.getElem?_toList, insert_list]
  have hl : (xs.toList.take p).length = p := by rw [List.length_take, Array.length_toList]; lia
  by_cases h1 : i < p
  · rw [if_pos h1, List.getElem?_append_left (by rw [hl]; exact h1), List.getElem?_take_of_lt h1, Array.getElem?_toList]
  · rw [if_neg h1, List.getElem?_append_right (by rw [hl]; lia), hl]
    by_cases h2 : i = p
    · subst h2
      rw [if_pos rfl, Nat.sub_self]
      rfl
    · rw [if_neg h2]
      obtain ⟨k, hk⟩ : ∃ k, i - p = k + 1 := ⟨i - p - 1, by lia⟩
      rw [hk, List.getElem?_cons_succ, List.getElem?_drop, Array.getElem?_toList]
      congr 1
      lia
theorem Ris.put {xs : Array Nat} (hr : Ris xs) {j : Nat} (hn : ∀ i : Nat, xs[i]? ≠ some j) : Ris (insertAt xs (below xs j) j) := by
  obtain ⟨b1, b2, b3⟩ := below_ok hr j
  show List.Pairwise _ _
  rw [insert_list, List.pairwise_append]
  refine ⟨hr.sublist (List.take_sublist _ _), ?_, ?_⟩
  · rw [List.pairwise_cons]
    refine ⟨fun y hy => ?_, hr.sublist (List.drop_sublist _ _)⟩
    obtain ⟨i, hi⟩ := List.getElem?_of_mem hy
    rw [List.getElem?_drop, Array.getElem?_toList] at hi
    have h1 := b3 _ y (Nat.le_add_right _ _) hi
    have h2 : y ≠ j := fun z => hn _ (z ▸ hi)
    lia
  · intro a ha b hb
    obtain ⟨i, hi⟩ := List.getElem?_of_mem ha
    have hil : i < below xs j := by
      have := (List.getElem?_eq_some_iff.mp hi).1
      rw [List.length_take] at this
      lia
    rw [List.getElem?_take_of_lt hil, Array.getElem?_toList] at hi
    have h1 := b2 i a hil hi
    rcases List.mem_cons.mp hb with z | z
    · rw [z]; exact h1
    · obtain ⟨k, hk⟩ := List.getElem?_of_mem z
      rw [List.getElem?_drop, Array.getElem?_toList] at hk
      have := b3 _ b (Nat.le_add_right _ _) hk
      lia
/-! ### ways -/
theorem adv_mask {t u : SetTable} (h : t.mask = u.mask) (p : Probe) : t.advance p = u.advance p := by unfold advance; rw [h]
theorem advs_mask {t u : SetTable} (h : t.mask = u.mask) : ∀ n p, advs t n p = advs u n p
  | 0, _ => rfl
  | n + 1, p => by show advs t n (t.advance p) = advs u n (u.advance p); rw [adv_mask h, advs_mask h n]
theorem start_mask {t u : SetTable} (h : t.mask = u.mask) (x : Int) : t.probeStart x = u.probeStart x := by unfold probeStart; rw [h]
/-- the place j is met from p on behind taken ones alone -/
def Way (t : SetTable) (occ : Nat → Prop) (p : Probe) (j : Nat) : Prop := ∃ m, (advs t m p).j = j ∧ ∀ i, i < m → occ (advs t i p).j
theorem Way.mono {t : SetTable} {o1 o2 : Nat → Prop} {p : Probe} {j : Nat} (h : Way t o1 p j) (k : ∀ s, o1 s → o2 s) : Way t o2 p j := let ⟨m, e, a⟩ := h; ⟨m, e, fun i hi => k _ (a i hi)⟩
theorem Way.mask {t u : SetTable} {o : Nat → Prop} {p : Probe} {j : Nat} (h : Way t o p j) (e : t.mask = u.mask) : Way u o p j := by
  obtain ⟨m, e1, a⟩ := h
  exact ⟨m, by rw [← advs_mask e]; exact e1, fun i hi => by rw [← advs_mask e]; exact a i hi⟩
theorem advs_in (t : SetTable) : ∀ (c j r i pert : Nat), c ≤ r → advs t c { j := j, more := r, i := i, perturb := pert, dummy := none } = { j := j + c, more := r - c, i := i, perturb := pert, dummy := none }
  | 0, j, r, i, pert, _ => rfl
  | c + 1, j, r, i, pert, h => by
    show advs t c (t.advance _) = _
    have e : t.advance { j := j, more := r, i := i, perturb := pert, dummy := none } = { j := j + 1, more := r - 1, i := i, perturb := pert, dummy := none } := by
      unfold advance
      rw [if_pos (by show 0 < r; lia)]
    rw [e, advs_in t c (j + 1) (r - 1) i pert (by lia)]
    congr 1 <;> lia
theorem way_run {t : SetTable} {occ : Nat → Prop} {i pert c : Nat} (hc : c ≤ runEnd t.mask i - i) (h : ∀ d, d < c → occ (i + d)) : Way t occ (base t.mask i pert) (i + c) :=
  ⟨c, by unfold base; rw [advs_in t c i _ i pert hc], fun d hd => by unfold base; rw [advs_in t d i _ i pert (by lia)]; exact h d hd⟩
theorem way_on {t : SetTable} {occ : Nat → Prop} {i pert j : Nat} (h : ∀ d, d ≤ runEnd t.mask i - i → occ (i + d)) (k : Way t occ (base t.mask (leap t.mask i pert).1 (leap t.mask i pert).2) j) : Way t occ (base t.mask i pert) j := by
  obtain ⟨m, e, a⟩ := k
  have er : advs t (runEnd t.mask i - i + 1) (base t.mask i pert) = base t.mask (leap t.mask i pert).1 (leap t.mask i pert).2 := advs_run t _ _ _ _
  refine ⟨runEnd t.mask i - i + 1 + m, by rw [advs_add, er]; exact e, fun d hd => ?_⟩
  rcases Nat.lt_or_ge d (runEnd t.mask i - i + 1) with z | z
  · have := h d (by lia)
    unfold base
    rw [advs_in t d i _ i pert (by lia)]
    exact this
  · obtain ⟨c, rfl⟩ : ∃ c, d = runEnd t.mask i - i + 1 + c := ⟨d - (runEnd t.mask i - i + 1), by lia⟩
    rw [advs_add, er]
    exact a c (by lia)
theorem run_31 {i : Nat} (h : i < 32) : i ≤ runEnd 31 i ∧ runEnd 31 i < 32 := by unfold runEnd; split <;> lia
/-- taken in a table of 32 places -/
def Tk (owner : Array (Option Nat)) (s : Nat) : Prop := s < 32 ∧ owner.getD s (some 0) ≠ none
theorem free_way {t : SetTable} (hm : t.mask = 31) {owner : Array (Option Nat)} : ∀ (fuel i pert j : Nat), i < 32 → layClean.free 31 owner fuel i pert = some j → Way t (Tk owner) (base t.mask i pert) j := by
  intro fuel
  induction fuel with
  | zero => intro i pert j _ h; cases h
  | succ fuel ih =>
    intro i pert j hi h
    have hrun := run_31 hi
    unfold layClean.free at h
    split at h
    · next k hk =>
      cases h
      have hmem := List.mem_of_find?_eq_some hk
      have hkl := List.mem_range.mp hmem
      refine way_run (by rw [hm]; lia) fun d hd => ⟨by lia, ?_⟩
      have := List.find?_eq_some_iff_getElem.mp hk
      obtain ⟨_, n, hn, e, hbef⟩ := this
      rw [List.getElem_range] at e
      subst e
      have := hbef d hd
      rw [List.getElem_range] at this
      intro z
      rw [z] at this
      cases this
    · next hk =>
      refine way_on (fun d hd => ?_) ?_
      · rw [List.find?_eq_none] at hk
        rw [hm] at hd
        have := hk d (List.mem_range.mpr (by lia))
        refine ⟨by lia, fun z => ?_⟩
        rw [z] at this
        exact this rfl
      · have h' : layClean.free 31 owner fuel (leap 31 i pert).1 (leap 31 i pert).2 = some j := h
        have := ih _ _ _ (Nat.mod_lt _ (by decide)) h'
        rw [hm] at this ⊢
        exact this
/-- each one lies where it is found again -/
def WO (t : SetTable) (hs : List Int) (owner : Array (Option Nat)) : Prop := ∀ j i, owner.getD j none = some i → ∃ h, hs[i]? = some h ∧ Way t (Tk owner) (base t.mask (bits h % 32) (bits h)) j
theorem tk_set {owner : Array (Option Nat)} {j k s : Nat} (h : Tk owner s) : Tk (owner.setIfInBounds j (some k)) s := by
  refine ⟨h.1, fun z => ?_⟩
  rw [Array.getD_eq_getD_getElem?, Array.getElem?_setIfInBounds] at z
  split at z
  · split at z <;> cases z
  · rw [← Array.getD_eq_getD_getElem?] at z
    exact h.2 z
theorem stp_way {t : SetTable} (hm : t.mask = 31) {hs : List Int} {owner owner' : Array (Option Nat)} {k k' : Nat} {h : Int} (w : WO t hs owner) (hk : hs[k]? = some h) (e : stp (some (owner, k)) h = some (owner', k')) : WO t hs owner' := by
  have e' : (do let j ← layClean.free 31 owner (turns 31) (bits h % (31 + 1)) (bits h); pure (owner.setIfInBounds j (some k), k + 1)) = some (owner', k') := e
  cases ef : layClean.free 31 owner (turns 31) (bits h % (31 + 1)) (bits h) with
  | none => rw [ef] at e'; cases e'
  | some j =>
    rw [ef] at e'
    have e2 : some (owner.setIfInBounds j (some k), k + 1) = some (owner', k') := e'
    cases e2
    intro s i hsi
    rw [Array.getD_eq_getD_getElem?, Array.getElem?_setIfInBounds] at hsi
    by_cases hjs : j = s
    · rw [if_pos hjs] at hsi
      split at hsi
      · have ei : some k = some i := hsi
        cases ei
        refine ⟨h, hk, ?_⟩
        subst hjs
        exact (free_way hm _ _ _ _ (Nat.mod_lt _ (by decide)) ef).mono fun _ => tk_set
      · cases hsi
    · rw [if_neg hjs, ← Array.getD_eq_getD_getElem?] at hsi
      obtain ⟨g, g1, g2⟩ := w s i hsi
      exact ⟨g, g1, g2.mono fun _ => tk_set⟩
theorem fold_way {t : SetTable} (hm : t.mask = 31) {hs0 : List Int} : ∀ (hs : List Int) {owner : Array (Option Nat)} {k : Nat}, Own owner k → WO t hs0 owner → (∀ i h, hs[i]? = some h → hs0[k + i]? = some h) → k + hs.length ≤ 32 →
    ∃ owner', hs.foldl stp (some (owner, k)) = some (owner', k + hs.length) ∧ Own owner' (k + hs.length) ∧ WO t hs0 owner'
  | [], owner, k, ho, w, _, _ => ⟨owner, rfl, ho, w⟩
  | h :: hs, owner, k, ho, w, hh, hl => by
    rw [List.length_cons] at hl
    obtain ⟨o1, e1, ho1⟩ := stp_ok ho (by lia) h
    have w1 := stp_way hm w (hh 0 h rfl) e1
    obtain ⟨o2, e2, ho2, w2⟩ := fold_way hm hs ho1 w1 (fun i g hg => by rw [show k + 1 + i = k + (i + 1) by lia]; exact hh (i + 1) g hg) (by lia)
    refine ⟨o2, ?_, ?_, w2⟩
    · rw [List.foldl_cons, e1, e2, List.length_cons, show k + 1 + hs.length = k + (hs.length + 1) by lia]
    · rw [List.length_cons, show k + (hs.length + 1) = k + 1 + hs.length by lia]; exact ho2
theorem wo_none (t : SetTable) (hs : List Int) : WO t hs (Array.replicate 32 none) := fun j i h => by
  rw [Array.getD_eq_getD_getElem?, Array.getElem?_replicate] at h
  split at h <;> cases h
theorem lv_first (owner : Array (Option Nat)) : ∀ l : List Nat, (l.filterMap (lv owner)).map (·.1) = l.filter fun j => (owner.getD j none).isSome
  | [] => rfl
  | a :: l => by
    rw [List.filterMap_cons, List.filter_cons]
    cases e : owner.getD a none with
    | none =>
      have : lv owner a = none := by unfold lv; rw [e]; rfl
      rw [this]
      simp only [Option.isSome_none, Bool.false_eq_true, if_false]
      exact lv_first owner l
    | some v =>
      have : lv owner a = some (a, v) := by unfold lv; rw [e]; rfl
      rw [this]
      simp only [Option.isSome_some, if_true, List.map_cons]
      rw [lv_first owner l]
/-- laid anew: as laid_ok, and each thing is found again -/
theorem laid_way (hashes : Array Int) (hn : hashes.size ≤ 32) (finger moves : Nat) (led plain : Bool) : ∃ t order, laid 31 finger moves led plain hashes = some (t, order) ∧ t.mask = 31 ∧ t.dummies = #[] ∧ t.place.size = hashes.size ∧ order.toList.Perm (List.range hashes.size) ∧ Ris t.place ∧
    ∀ i k : Nat, order[i]? = some k → ∃ (j : Nat) (h : Int), t.place[i]? = some j ∧ hashes[k]? = some h ∧ Way t (fun s => ∃ q : Nat, t.place[q]? = some s) (t.probeStart h) j := by
  have hm0 : (SetTable.fresh 0 0 false).mask = 7 := rfl
  obtain ⟨t0, ht0⟩ : ∃ t0 : SetTable, t0.mask = 31 := ⟨{ (SetTable.fresh 0 0 false) with mask := 31 }, rfl⟩
  obtain ⟨owner, e, ho, w⟩ := fold_way ht0 hashes.toList (hs0 := hashes.toList) own_none (wo_none t0 _) (fun i h hh => by rw [Nat.zero_add]; exact hh) (by rw [Array.length_toList]; lia)
  have hc : layClean 31 hashes = some owner := by
    unfold layClean
    have e' : hashes.foldl stp (some (Array.replicate 32 none, 0)) = some (owner, 0 + hashes.toList.length) := by rw [← Array.foldl_toList]; exact e
    have e2 : hashes.foldl (init := some (Array.replicate (31 + 1) none, 0)) (fun acc h => do
        let (owner, k) ← acc
        let j ← layClean.free 31 owner (turns 31) (bits h % (31 + 1)) (bits h)
        pure (owner.setIfInBounds j (some k), k + 1)) = some (owner, 0 + hashes.toList.length) := e'
    rw [e2]; rfl
  have hp := ho.2
  rw [Nat.zero_add, Array.length_toList] at hp
  obtain ⟨t, ht⟩ : ∃ t : SetTable, t = { mask := 31, place := (((List.range 32).filterMap (lv owner)).map (·.1)).toArray, dummies := #[], finger, led, moves, plain } := ⟨_, rfl⟩
  have htm : t.mask = 31 := by rw [ht]
  have hpl : t.place.toList = ((List.range 32).filterMap (lv owner)).map (·.1) := by rw [ht]
  have occ : ∀ s, Tk owner s → ∃ q : Nat, t.place[q]? = some s := fun s hs => by
    have h1 : ∃ v, owner.getD s none = some v := by
      have h2 := hs.2
      rw [Array.getD_eq_getD_getElem?] at h2
      have hlt : s < owner.size := by rw [ho.1]; exact hs.1
      rw [Array.getElem?_eq_getElem hlt] at h2
      cases hv : owner[s] with
      | none => rw [hv] at h2; exact absurd rfl h2
      | some v => exact ⟨v, by rw [Array.getD_eq_getD_getElem?, Array.getElem?_eq_getElem hlt, hv]; rfl⟩
    obtain ⟨v, hv⟩ := h1
    have hmem : s ∈ t.place.toList := by
      rw [hpl, lv_first]
      exact List.mem_filter.mpr ⟨List.mem_range.mpr hs.1, by rw [hv]; rfl⟩
    obtain ⟨q, hq⟩ := List.getElem?_of_mem hmem
    exact ⟨q, by rw [← Array.getElem?_toList]; exact hq⟩
  refine ⟨t, (((List.range 32).filterMap (lv owner)).map (·.2)).toArray, ?_, htm, by rw [ht], ?_, hp, ?_, fun i k hk => ?_⟩
  · unfold laid
    rw [hc, ht]
    rfl
  · have := hp.length_eq
    rw [List.length_map, List.length_range] at this
    rw [← Array.length_toList, hpl, List.length_map]; exact this
  · show List.Pairwise _ _
    rw [hpl, lv_first]
    exact List.Pairwise.sublist List.filter_sublist List.pairwise_lt_range
  · rw [← Array.getElem?_toList] at hk
    have hk : (((List.range 32).filterMap (lv owner)).map (·.2))[i]? = some k := hk
    rw [List.getElem?_map] at hk
    cases hg : ((List.range 32).filterMap (lv owner))[i]? with
    | none => rw [hg] at hk; cases hk
    | some x =>
      obtain ⟨j, k'⟩ := x
      rw [hg] at hk
      have ek : k' = k := Option.some.inj hk
      obtain ⟨j', _, hj'⟩ := List.mem_filterMap.mp (List.mem_of_getElem? hg)
      unfold lv at hj'
      cases hv : owner.getD j' none with
      | none => rw [hv] at hj'; cases hj'
      | some v =>
        rw [hv] at hj'
        have e3 : (j', v) = (j, k') := Option.some.inj hj'
        have ej : j' = j := congrArg Prod.fst e3
        have ev : v = k := (congrArg Prod.snd e3).trans ek
        rw [ej, ev] at hv
        obtain ⟨h, h1, h2⟩ := w j k hv
        refine ⟨j, h, ?_, by rw [← Array.getElem?_toList]; exact h1, ?_⟩
        · rw [← Array.getElem?_toList, hpl, List.getElem?_map, hg]; rfl
        · have h3 := (h2.mono occ).mask (u := t) (by rw [htm]; exact ht0)
          rw [ht0] at h3
          unfold probeStart
          rw [htm]
          exact h3
end St
end L2

/-! own layer, part 56: a number put into a set in which it may be already -/
namespace L2
open PySem PySem.Spec PyProof.Rows
namespace St
open SetTable
abbrev Occ (t : SetTable) (s : Nat) : Prop := ∃ q : Nat, t.place[q]? = some s
/-- an empty place is met first, or a thing of the same hash -/
theorem go_way {t : SetTable} (hd : t.dummies = #[]) {ha : Nat → Int} {h : Int} : ∀ (fuel k : Nat) (p : Probe), k < fuel → p.dummy = none → Hit t k p →
    (∃ c j, probe.go t ha h fuel p = some (.empty j none) ∧ (advs t c p).j = j ∧ t.slot j = .empty ∧ ∀ l, l < c → Occ t (advs t l p).j) ∨
    ∃ c j i k', probe.go t ha h fuel p = some (.candidate j i (advs t (c + 1) p)) ∧ t.slot j = .live i ∧ t.place[i]? = some j ∧ (advs t (c + 1) p).dummy = none ∧ Hit t k' (advs t (c + 1) p) ∧ k' < k ∧ ∀ l, l < c + 1 → Occ t (advs t l p).j
  | fuel + 1, k, p, hk, hp, hh => by
    unfold probe.go
    rcases slot_cases hd p.j with z | ⟨i, z, zp⟩
    · rw [z]
      exact .inl ⟨0, p.j, by simp only [hp], rfl, z, fun l hl => absurd hl (Nat.not_lt_zero _)⟩
    · rw [z]
      have hk0 : ∃ k', k = k' + 1 := by
        cases k with
        | zero => unfold Hit at hh; rw [show advs t 0 p = p from rfl, z] at hh; cases hh
        | succ k' => exact ⟨k', rfl⟩
      obtain ⟨k', rfl⟩ := hk0
      have hh' : Hit t k' (t.advance p) := hh
      by_cases hq : (ha i == h) = true
      · refine .inr ⟨0, p.j, i, k', ?_, z, zp, adv_dummy t hp, hh', by lia, fun l hl => ?_⟩
        · simp only [hq]
          rfl
        · obtain rfl : l = 0 := by lia
          exact ⟨i, zp⟩
      · have hq' : (ha i == h) = false := by simpa using hq
        simp only [hq']
        have front : ∀ {c : Nat}, (∀ l, l < c → Occ t (advs t l (t.advance p)).j) → ∀ l, l < c + 1 → Occ t (advs t l p).j := fun {c} hc l hl => by
          cases l with
          | zero => exact ⟨i, zp⟩
          | succ l => exact hc l (by lia)
        rcases go_way hd fuel k' (t.advance p) (by lia) (adv_dummy t hp) hh' with ⟨c, j, e, r0, r1, r2⟩ | ⟨c, j, i', k2, e, r1, r2, r3, r4, r5, r6⟩
        · exact .inl ⟨c + 1, j, e, r0, r1, front r2⟩
        · exact .inr ⟨c + 1, j, i', k2, e, r1, r2, r3, r4, by lia, front r6⟩
/-- the thing at i0 is met, or another one of the same hash ahead -/
theorem go_there {t : SetTable} (hr : Ris t.place) {ha : Nat → Int} {h : Int} {i0 j0 : Nat} (h0 : t.place[i0]? = some j0) (hh : (ha i0 == h) = true) : ∀ (fuel r : Nat) (p : Probe), r < fuel → p.dummy = none → (advs t r p).j = j0 → (∀ l, l < r → Occ t (advs t l p).j) →
    ∃ j i next, probe.go t ha h fuel p = some (.candidate j i next) ∧ t.slot j = .live i ∧ t.place[i]? = some j ∧ (i = i0 ∨ ∃ r', r' < r ∧ next.dummy = none ∧ (advs t r' next).j = j0 ∧ ∀ l, l < r' → Occ t (advs t l next).j)
  | fuel + 1, 0, p, _, hp, hj, _ => by
    have hj : p.j = j0 := hj
    have z : t.slot p.j = .live i0 := by rw [hj]; exact slot_live hr h0
    unfold probe.go
    rw [z]
    refine ⟨p.j, i0, t.advance p, ?_, z, by rw [hj]; exact h0, .inl rfl⟩
    simp only [hh]
    rfl
  | fuel + 1, r + 1, p, hk, hp, hj, ho => by
    obtain ⟨i, hi⟩ := ho 0 (Nat.succ_pos _)
    have hi : t.place[i]? = some p.j := hi
    have z : t.slot p.j = .live i := slot_live hr hi
    unfold probe.go
    rw [z]
    have ho' : ∀ l, l < r → Occ t (advs t l (t.advance p)).j := fun l hl => ho (l + 1) (by lia)
    by_cases hq : (ha i == h) = true
    · refine ⟨p.j, i, t.advance p, ?_, z, hi, .inr ⟨r, Nat.lt_succ_self _, adv_dummy t hp, hj, ho'⟩⟩
      simp only [hq]
      rfl
    · have hq' : (ha i == h) = false := by simpa using hq
      simp only [hq']
      obtain ⟨j, i', next, e, r1, r2, r3⟩ := go_there hr h0 hh fuel r (t.advance p) (by lia) (adv_dummy t hp) hj ho'
      refine ⟨j, i', next, e, r1, r2, ?_⟩
      rcases r3 with z | ⟨r', q1, q2⟩
      · exact .inl z
      · exact .inr ⟨r', by lia, q2⟩
section
variable {prog : Program} {w : World} {K : Type} [DecidableEq K] {knd : KeyKind prog w K} {A : Around} {E : Value → Shared → Prop} {s : Shared}
/-- things of a set that are numbers -/
def Nms (knd : KeyKind prog w K) (h : Heap) (l : List Value) : Prop := ∀ v ∈ l, ∃ b k', v = .ref b ∧ IsN knd h k' b
theorem unseen2 {ks : List K} {x : Addr} {Q : Bool → Shared → Prop} (hx : IsN knd s.heap ks x) {l : List Value} (hl : Nms knd s.heap l) (h : Q false s) : wpAny (model prog w) A (searchCouldBeSeen (.ref x) l) Q E s := by
  unfold searchCouldBeSeen
  refine wpAny_bind ?_
  refine wpAny_forIn_list _ (fun rest r s' => r.1 = none ∧ s' = s ∧ Nms knd s.heap rest) _ ?_ ?_ _ _ ⟨rfl, rfl, hl⟩
  · rintro v rest r s' ⟨hr, rfl, hall⟩
    obtain ⟨b, k', rfl, hb⟩ := hall v List.mem_cons_self
    have hrest : Nms knd s'.heap rest := fun u hu' => hall u (List.mem_cons_of_mem _ hu')
    have hc : ((match (Value.ref x), (Value.ref b) with | .ref a, .ref b => a == b | _, _ => false) || (carriedByValue (.ref x) && carriedByValue (.ref b))) = (x == b) := by
      show ((x == b) || (false && false)) = _
      simp
    show wpAny _ _ (if ((match (Value.ref x), (Value.ref b) with | .ref a, .ref b => a == b | _, _ => false) || (carriedByValue (.ref x) && carriedByValue (.ref b))) = true then _ else _) _ _ _
    rw [hc]
    by_cases hxb : (x == b) = true
    · rw [if_pos hxb]
      exact wpAny_pure ⟨rfl, rfl, hrest⟩
    rw [if_neg hxb]
    refine wpAny_bind (wpAny_eqIsQuiet_tuple hx.key ?_)
    simp only [Bool.not_true, Bool.false_eq_true, if_false]
    refine wpAny_bind (wpAny_eqIsQuiet_tuple hb.key ?_)
    simp only [Bool.not_true, Bool.false_eq_true, if_false]
    refine wpAny_bind (ofClass_n hx ?_)
    simp only [Bool.false_eq_true, if_false]
    refine wpAny_bind (ofClass_n hb ?_)
    simp only [Bool.false_eq_true, if_false]
    exact wpAny_pure ⟨rfl, rfl, hrest⟩
  · rintro ⟨r1, r2⟩ s' ⟨hr, rfl, _⟩
    simp only at hr
    subst hr
    exact wpAny_pure h
variable {S : Addr} {o : Obj} {es : Array (Int × Value)} {ep : Nat} {t : SetTable}
theorem nms_of {ks : List K} (hes : ∀ e ∈ es.toList, ∃ b k', e.2 = Value.ref b ∧ IsN knd s.heap k' b) {h : Int} : Nms knd s.heap (List.map (fun x => x.snd) (Array.filter (fun x => x.fst == h) es).toList) := fun v hv => by
  obtain ⟨e0, he0, rfl⟩ := List.mem_map.mp hv
  rw [Array.toList_filter] at he0
  exact hes e0 (List.mem_filter.mp he0).1
theorem same_self (t : SetTable) : t.sameMemory t.moves t.mask = some true := by unfold sameMemory; rw [if_pos (beq_self_eq_true _)]
/-- one look at a candidate -/
theorem look_one (ho : s.heap.get? S = some o) (hd : o.data = .set es ep t) (hf : t.fits es.size = true) {x b : Addr} {ks kb : List K} (hx : IsN knd s.heap ks x) (hb : IsN knd s.heap kb b) (hes : ∀ e ∈ es.toList, ∃ b k', e.2 = Value.ref b ∧ IsN knd s.heap k' b)
    (hu : A.units < cLine) {h h1 : Int} {F j i : Nat} {next : Probe} (r1 : t.slot j = .live i) (hei : es[i]? = some (h1, Value.ref b)) {Q : SetFound → Shared → Prop} (yes : kb = ks → Q (.there none) s) (no : kb ≠ ks → wpAny (model prog w) A (setSearchFrom S (.ref x) h true F (some next)) Q E s) :
    wpAny (model prog w) A (do
      if !t.led then
        if ← searchCouldBeSeen (.ref x) ((es.filter (·.1 == h)).toList.map (·.2)) then unsupported "set:the-search-would-show-the-table"
      let some (_, y) := es[i]? | unsupported "internal:set-entry"
      let equal ← holding [y] (eqBool y (.ref x))
      let (es', _, t') ← setState S
      if true && equal then return .there none
      let some same := t'.sameMemory t.moves t.mask | unsupported "set.changed-during-lookup:is-the-new-block-at-the-old-address"
      let still ← match (if same then t'.slot j else .empty) with
        | .live i' => match es'[i']? with
          | some (_, y') => do pure (if ← isSame y' y then some i' else none)
          | none => pure none
        | _ => pure none
      match still with
      | none => rule "set.search.anew"; setSearchFrom S (.ref x) h true F none
      | some i' => if equal then return .there (some i') else setSearchFrom S (.ref x) h true F (some next)) Q E s := by
  have rest : wpAny (model prog w) A (do
      let some (_, y) := es[i]? | unsupported "internal:set-entry"
      let equal ← holding [y] (eqBool y (.ref x))
      let (es', _, t') ← setState S
      if true && equal then return .there none
      let some same := t'.sameMemory t.moves t.mask | unsupported "set.changed-during-lookup:is-the-new-block-at-the-old-address"
      let still ← match (if same then t'.slot j else .empty) with
        | .live i' => match es'[i']? with
          | some (_, y') => do pure (if ← isSame y' y then some i' else none)
          | none => pure none
        | _ => pure none
      match still with
      | none => rule "set.search.anew"; setSearchFrom S (.ref x) h true F none
      | some i' => if equal then return .there (some i') else setSearchFrom S (.ref x) h true F (some next)) Q E s := by
    rw [hei]
    dsimp only
    refine wpAny_bind (wpAny_holding (wpAny_eqBool_tuple hu hb.key hx.key ?_))
    refine wpAny_bind (wpAny_setState_of ho hd hf ?_)
    by_cases hk : kb = ks
    · rw [decide_eq_true hk]
      simp only [Bool.and_self, if_true]
      exact wpAny_pure (yes hk)
    · rw [decide_eq_false hk]
      simp only [Bool.and_false, Bool.false_eq_true, if_false, same_self, if_true, r1, hei]
      refine wpAny_bind (wpAny_isSame_ref_self ?_)
      simp only [if_true]
      refine wpAny_bind (wpAny_pure ?_)
      simp only [Bool.false_eq_true, if_false]
      exact no hk
  rcases Bool.eq_false_or_eq_true t.led with hl | hl
  · simp only [hl, Bool.not_true, Bool.false_eq_true, if_false]
    exact rest
  · simp only [hl, Bool.not_false, if_true]
    refine wpAny_bind (unseen2 hx (nms_of (ks := ks) hes) ?_)
    simp only [Bool.false_eq_true, if_false]
    exact rest
/-- a new one: the first empty place on its way is told -/
theorem search_new (ho : s.heap.get? S = some o) (hd : o.data = .set es ep t) (hf : t.fits es.size = true) (hm : t.mask = 7 ∨ t.mask = 31) (hdm : t.dummies = #[]) {x : Addr} {ks : List K} (hx : IsN knd s.heap ks x)
    (hes : ∀ e ∈ es.toList, ∃ b k', e.2 = Value.ref b ∧ IsN knd s.heap k' b ∧ k' ≠ ks) (hu : A.units < cLine) {h : Int} {Q : SetFound → Shared → Prop} (hQ : ∀ j, t.slot j = .empty → Way t (Occ t) (t.probeStart h) j → Q (.free j false) s) :
    ∀ (k F c0 : Nat) (stand : Option Probe), k < F → k < 10 * turns t.mask → stand.getD (t.probeStart h) = advs t c0 (t.probeStart h) → (∀ l, l < c0 → Occ t (advs t l (t.probeStart h)).j) → (stand.getD (t.probeStart h)).dummy = none → Hit t k (stand.getD (t.probeStart h)) → wpAny (model prog w) A (setSearchFrom S (.ref x) h true F stand) Q E s := by
  have hes' : ∀ e ∈ es.toList, ∃ b k', e.2 = Value.ref b ∧ IsN knd s.heap k' b := fun e he => let ⟨b, k', q1, q2, _⟩ := hes e he; ⟨b, k', q1, q2⟩
  have hps : t.place.size = es.size := by
    unfold fits at hf
    rw [Bool.and_eq_true] at hf
    exact eq_of_beq hf.1
  intro k
  induction k using Nat.strongRecOn with
  | ind k ih =>
    intro F c0 stand hF hk hst hoc hdn hh
    obtain ⟨F', rfl⟩ : ∃ F', F = F' + 1 := ⟨F - 1, by lia⟩
    unfold setSearchFrom
    refine wpAny_bind (wpAny_setState_of ho hd hf ?_)
    dsimp only
    have hgw : t.gaveWay = false := by
      unfold gaveWay
      rcases hm with z | z <;> rw [z] <;> rfl
    rw [hgw]
    simp only [Bool.false_eq_true, if_false]
    have more : ∀ {c : Nat}, (∀ l, l < c → Occ t (advs t l (stand.getD (t.probeStart h))).j) → ∀ l, l < c0 + c → Occ t (advs t l (t.probeStart h)).j := fun {c} hc l hl => by
      rcases Nat.lt_or_ge l c0 with z | z
      · exact hoc l z
      · obtain ⟨d, rfl⟩ : ∃ d, l = c0 + d := ⟨l - c0, by lia⟩
        have := hc d (by lia)
        rw [hst, ← advs_add] at this
        exact this
    split
    · next met heq =>
      rcases go_way hdm (10 * turns t.mask) k _ hk hdn hh with ⟨c, j, e, r0, r1, r2⟩ | ⟨c, j, i, k', e, r1, r2, r3, r4, r5, r6⟩
      · have e2 := Option.some.inj (e.symm.trans heq)
        subst e2
        refine wpAny_pure (hQ j r1 ⟨c0 + c, ?_, more r2⟩)
        rw [advs_add, ← hst]; exact r0
      · have e2 := Option.some.inj (e.symm.trans heq)
        subst e2
        dsimp only
        have hil : i < es.size := by
          have := (Array.getElem?_eq_some_iff.mp r2).1
          lia
        obtain ⟨h0, y, hei⟩ : ∃ h0 y, es[i]? = some (h0, y) := ⟨es[i].1, es[i].2, Array.getElem?_eq_getElem hil⟩
        obtain ⟨b, kb, eb, hb, hne⟩ := hes (h0, y) (List.mem_of_getElem? (by rw [Array.getElem?_toList]; exact hei))
        have eb : y = .ref b := eb
        subst eb
        refine look_one ho hd hf hx hb hes' hu r1 hei (fun z => absurd z hne) fun _ => ?_
        refine ih k' r5 F' (c0 + (c + 1)) (some _) (by lia) (by lia) ?_ (more r6) r3 r4
        show advs t (c + 1) (stand.getD (t.probeStart h)) = _
        rw [hst, ← advs_add]
    · next heq =>
      exfalso
      rcases go_way hdm (10 * turns t.mask) k _ hk hdn hh with ⟨c, j, e, _⟩ | ⟨c, j, i, k', e, _⟩
      · exact heq _ e
      · exact heq _ e
/-- one that is there is found -/
theorem search_old (ho : s.heap.get? S = some o) (hd : o.data = .set es ep t) (hf : t.fits es.size = true) (hm : t.mask = 7 ∨ t.mask = 31) (hr : Ris t.place) {x : Addr} {ks : List K} (hx : IsN knd s.heap ks x)
    (hes : ∀ e ∈ es.toList, ∃ b k', e.2 = Value.ref b ∧ IsN knd s.heap k' b) (hu : A.units < cLine) {h : Int} {i0 j0 : Nat} {b0 : Addr} (h0 : t.place[i0]? = some j0) (he0 : es[i0]? = some (h, Value.ref b0)) (hb0 : IsN knd s.heap ks b0) {Q : SetFound → Shared → Prop} (hQ : Q (.there none) s) :
    ∀ (r F : Nat) (stand : Option Probe), r < F → r < 10 * turns t.mask → (stand.getD (t.probeStart h)).dummy = none → (advs t r (stand.getD (t.probeStart h))).j = j0 → (∀ l, l < r → Occ t (advs t l (stand.getD (t.probeStart h))).j) → wpAny (model prog w) A (setSearchFrom S (.ref x) h true F stand) Q E s := by
  have hps : t.place.size = es.size := by
    unfold fits at hf
    rw [Bool.and_eq_true] at hf
    exact eq_of_beq hf.1
  intro r
  induction r using Nat.strongRecOn with
  | ind r ih =>
    intro F stand hF hk hdn hj hoc
    obtain ⟨F', rfl⟩ : ∃ F', F = F' + 1 := ⟨F - 1, by lia⟩
    unfold setSearchFrom
    refine wpAny_bind (wpAny_setState_of ho hd hf ?_)
    dsimp only
    have hgw : t.gaveWay = false := by
      unfold gaveWay
      rcases hm with z | z <;> rw [z] <;> rfl
    rw [hgw]
    simp only [Bool.false_eq_true, if_false]
    have hh : ∀ {ha : Nat → Int}, (∀ i, ha i = (es[i]?.map (·.1)).getD 0) → (ha i0 == h) = true := fun {ha} e => by
      rw [e, he0]
      simp
    split
    · next met heq =>
      obtain ⟨j, i, next, e, r1, r2, r3⟩ := go_there hr h0 (hh fun _ => rfl) (10 * turns t.mask) r _ hk hdn hj hoc
      have e2 := Option.some.inj (e.symm.trans heq)
      subst e2
      dsimp only
      have hil : i < es.size := by
        have := (Array.getElem?_eq_some_iff.mp r2).1
        lia
      obtain ⟨h1, y, hei⟩ : ∃ h1 y, es[i]? = some (h1, y) := ⟨es[i].1, es[i].2, Array.getElem?_eq_getElem hil⟩
      obtain ⟨b, kb, eb, hb⟩ := hes (h1, y) (List.mem_of_getElem? (by rw [Array.getElem?_toList]; exact hei))
      have eb : y = .ref b := eb
      subst eb
      refine look_one ho hd hf hx hb hes hu r1 hei (fun _ => hQ) fun hne => ?_
      rcases r3 with z | ⟨r', q1, q2, q3, q4⟩
      · subst z
        rw [he0] at hei
        cases hei
        exact absurd (hb.key.inj hb0.key) hne
      · exact ih r' q1 F' (some next) (by lia) (by lia) q2 q3 q4
    · next heq =>
      exfalso
      obtain ⟨j, i, next, e, _⟩ := go_there hr h0 (hh fun _ => rfl) (10 * turns t.mask) r _ hk hdn hj hoc
      exact heq _ e
end
end St
end L2

/-! own layer, part 57: set of a list of numbers, alike ones too -/
namespace L2
open PySem PySem.Spec PyProof.Rows
namespace St
open SetTable
theorem fm_at {α β : Type} {f : α → Option β} : ∀ {l : List α} {i : Nat}, (∀ x ∈ l, ∃ y, f x = some y) → (l.filterMap f)[i]? = l[i]?.bind f
  | [], i, _ => by simp
  | a :: l, i, h => by
    obtain ⟨y, hy⟩ := h a List.mem_cons_self
    rw [List.filterMap_cons_some hy]
    cases i with
    | zero => rw [List.getElem?_cons_zero, List.getElem?_cons_zero]; exact hy.symm
    | succ i => rw [List.getElem?_cons_succ, List.getElem?_cons_succ]; exact fm_at fun x hx => h x (List.mem_cons_of_mem _ hx)
section
variable {prog : Program} {w : World} {K : Type} [DecidableEq K] (knd : KeyKind prog w K) (G : Addr → Prop)
/-- the table t of the things es: the numbers of the keys, each where it is found again -/
structure Bdy (h : Heap) (keys : List (List K)) (es : Array (Int × Value)) (t : SetTable) : Prop where
  dm : t.dummies = #[]
  ps : t.place.size = es.size
  len : es.size = keys.length
  ris : Ris t.place
  ent : ∀ (i : Nat) (e : Int × Value), es[i]? = some e → ∃ (b : Addr) (k : List K) (j : Nat), e = (tupleKeyHash knd k, Value.ref b) ∧ IsN knd h k b ∧ k ∈ keys ∧ G b ∧ t.place[i]? = some j ∧ Way t (Occ t) (t.probeStart e.1) j
  key : ∀ k ∈ keys, ∃ (i : Nat) (b : Addr), es[i]? = some (tupleKeyHash knd k, Value.ref b) ∧ IsN knd h k b
def SetM (h : Heap) (S : Addr) (keys : List (List K)) : Prop := ∃ o es ep t, h.get? S = some o ∧ o.ExactSet ∧ o.data = .set es ep t ∧ (t.mask = 7 ∧ es.size ≤ 4 ∨ t.mask = 31) ∧ Bdy knd G h keys es t
variable {knd} {G}
theorem Bdy.keep {h h' : Heap} {keys : List (List K)} {es : Array (Int × Value)} {t : SetTable} (x : Bdy knd G h keys es t) (k : ∀ b o ks, IsN knd h ks b → h.get? b = some o → h'.get? b = some o) : Bdy knd G h' keys es t :=
  ⟨x.dm, x.ps, x.len, x.ris, fun i e he => let ⟨b, ks, j, q1, q2, q3⟩ := x.ent i e he; ⟨b, ks, j, q1, q2.keep fun o eo => k b o ks q2 eo, q3⟩, fun ks hk => let ⟨i, b, q1, q2⟩ := x.key ks hk; ⟨i, b, q1, q2.keep fun o eo => k b o ks q2 eo⟩⟩
theorem Bdy.nums {h : Heap} {keys : List (List K)} {es : Array (Int × Value)} {t : SetTable} (x : Bdy knd G h keys es t) : ∀ e ∈ es.toList, ∃ b k', e.2 = Value.ref b ∧ IsN knd h k' b ∧ k' ∈ keys := fun e he => by
  obtain ⟨i, hi⟩ := List.getElem?_of_mem he
  rw [Array.getElem?_toList] at hi
  obtain ⟨b, k, j, rfl, q2, q3, _⟩ := x.ent i e hi
  exact ⟨b, k, rfl, q2, q3⟩
variable {A : Around} {E : Value → Shared → Prop} {s : Shared}
/-- a table laid anew -/
theorem Bdy.again {h : Heap} {keys : List (List K)} {es es2 : Array (Int × Value)} {t t2 : SetTable} {order : Array Nat} (x : Bdy knd G h keys es t) (eo : order.toList.Perm (List.range es.size)) (e2 : es2 = order.filterMap (es[·]?)) (d2 : t2.dummies = #[]) (p2 : t2.place.size = es.size) (r2 : Ris t2.place)
    (w2 : ∀ i k : Nat, order[i]? = some k → ∃ (j : Nat) (g : Int), t2.place[i]? = some j ∧ (es.map (·.1))[k]? = some g ∧ Way t2 (Occ t2) (t2.probeStart g) j) : es2.toList.Perm es.toList ∧ Bdy knd G h keys es2 t2 := by
  have hall : ∀ k ∈ order.toList, ∃ y, es[k]? = some y := fun k hk => ⟨_, Array.getElem?_eq_getElem (List.mem_range.mp (eo.mem_iff.mp hk))⟩
  have at2 : ∀ i : Nat, es2[i]? = order[i]?.bind (es[·]?) := fun i => by
    rw [← Array.getElem?_toList, e2, Array.toList_filterMap, fm_at hall, Array.getElem?_toList]
  have hperm : es2.toList.Perm es.toList := by
    rw [e2, Array.toList_filterMap]
    have := eo.filterMap (fun i => es[i]?)
    rw [filterMap_getElem?_range] at this
    exact this
  have hsz : es2.size = es.size := by
    have := hperm.length_eq
    rw [Array.length_toList, Array.length_toList] at this
    exact this
  refine ⟨hperm, d2, by rw [p2, hsz], by rw [hsz]; exact x.len, r2, fun i e he => ?_, fun k hk => ?_⟩
  · rw [at2] at he
    cases ho : order[i]? with
    | none => rw [ho] at he; cases he
    | some k =>
      rw [ho] at he
      have he : es[k]? = some e := he
      obtain ⟨b, ks, _, q1, q2, q3, q4, _⟩ := x.ent k e he
      obtain ⟨j, g, w1, w2', w3⟩ := w2 i k ho
      rw [Array.getElem?_map, he] at w2'
      have eg : e.1 = g := Option.some.inj w2'
      exact ⟨b, ks, j, q1, q2, q3, q4, w1, by rw [eg]; exact w3⟩
  · obtain ⟨i, b, q1, q2⟩ := x.key k hk
    have hm : (tupleKeyHash knd k, Value.ref b) ∈ es2.toList := hperm.mem_iff.mpr (List.mem_of_getElem? (by rw [Array.getElem?_toList]; exact q1))
    obtain ⟨i2, hi2⟩ := List.getElem?_of_mem hm
    rw [Array.getElem?_toList] at hi2
    exact ⟨i2, b, hi2, q2⟩
/-- one more -/
theorem Bdy.more {h : Heap} {keys : List (List K)} {es : Array (Int × Value)} {t t1 : SetTable} {x : Addr} {ks : List K} {j p : Nat} (B : Bdy knd G h keys es t) (hx : IsN knd h ks x) (hG : G x) (he : t.slot j = .empty) (hw : Way t (Occ t) (t.probeStart (tupleKeyHash knd ks)) j) (e1 : t1 = (t.put j).1) (ep : p = (t.put j).2) :
    t1.mask = t.mask ∧ Bdy knd G h (ks :: keys) (insertAt es p (tupleKeyHash knd ks, Value.ref x)) t1 := by
  have hput : t1 = { t with place := insertAt t.place (below t.place j) j } := by
    rw [e1]
    unfold put
    have hz : has t.dummies j = false := by rw [B.dm]; unfold has; rfl
    simp only [hz, Bool.false_eq_true, if_false]
  have ep : p = below t.place j := by rw [ep]; rfl
  have hn : ∀ i : Nat, t.place[i]? ≠ some j := fun i z => by rw [slot_live B.ris z] at he; cases he
  have hple : p ≤ t.place.size := by rw [ep]; exact (below_ok B.ris j).1
  have hple' : p ≤ es.size := by rw [← B.ps]; exact hple
  have hmk : t1.mask = t.mask := by rw [hput]
  have pl : ∀ i : Nat, t1.place[i]? = if i < p then t.place[i]? else if i = p then some j else t.place[i - 1]? := fun i => by
    rw [hput]
    show (insertAt t.place (below t.place j) j)[i]? = _
    rw [← ep, insert_at hple]
  have up : ∀ s, Occ t s → Occ t1 s := fun s ⟨q, hq⟩ => by
    rcases Nat.lt_or_ge q p with z | z
    · exact ⟨q, by rw [pl, if_pos z]; exact hq⟩
    · exact ⟨q + 1, by rw [pl, if_neg (by lia), if_neg (by lia)]; exact hq⟩
  have mv : ∀ {g : Int} {r : Nat}, Way t (Occ t) (t.probeStart g) r → Way t1 (Occ t1) (t1.probeStart g) r := fun {g r} z => by
    have := (z.mono up).mask (u := t1) hmk.symm
    rw [start_mask hmk.symm g] at this
    exact this
  refine ⟨hmk, ?_, ?_, ?_, ?_, fun i e he => ?_, fun k hk => ?_⟩
  · rw [hput]; exact B.dm
  · rw [hput]
    show (insertAt _ _ _).size = _
    rw [insert_size, insert_size, B.ps]
  · rw [insert_size, B.len]; rfl
  · rw [hput]
    exact B.ris.put hn
  · rw [insert_at hple'] at he
    rcases Nat.lt_trichotomy i p with z | z | z
    · rw [if_pos z] at he
      obtain ⟨b, k, r, q1, q2, q3, q4, q5, q6⟩ := B.ent i e he
      exact ⟨b, k, r, q1, q2, List.mem_cons_of_mem _ q3, q4, by rw [pl, if_pos z]; exact q5, mv q6⟩
    · rw [if_neg (by lia), if_pos z] at he
      cases he
      exact ⟨x, ks, j, rfl, hx, List.mem_cons_self, hG, by rw [pl, if_neg (by lia), if_pos z], mv hw⟩
    · rw [if_neg (by lia), if_neg (by lia)] at he
      obtain ⟨b, k, r, q1, q2, q3, q4, q5, q6⟩ := B.ent (i - 1) e he
      exact ⟨b, k, r, q1, q2, List.mem_cons_of_mem _ q3, q4, by rw [pl, if_neg (by lia), if_neg (by lia)]; exact q5, mv q6⟩
  · rcases List.mem_cons.mp hk with z | z
    · subst z
      exact ⟨p, x, by rw [insert_at hple', if_neg (Nat.lt_irrefl _), if_pos rfl], hx⟩
    · obtain ⟨i, b, q1, q2⟩ := B.key k z
      rcases Nat.lt_or_ge i p with y | y
      · exact ⟨i, b, by rw [insert_at hple', if_pos y]; exact q1, q2⟩
      · exact ⟨i + 1, b, by rw [insert_at hple', if_neg (by lia), if_neg (by lia)]; exact q1, q2⟩
theorem add_tail2 {S : Addr} {o : Obj} {es : Array (Int × Value)} {ep : Nat} {t : SetTable} (ho : s.heap.get? S = some o) (hcl : o.ExactSet) (hd : o.data = .set es ep t) {es1 : Array (Int × Value)} {t1 : SetTable} {keys : List (List K)}
    (hmk : t1.mask = 7 ∧ es1.size ≤ 5 ∨ t1.mask = 31) (B : Bdy knd G s.heap keys es1 t1) (h17 : es1.size ≤ 17) {m : Nat} (hm : m = es1.size) {Q : Bool → Shared → Prop}
    (h : ∀ h', Heap.SameBut S s.heap h' → SetM knd G h' S keys → Q true { s with heap := h' }) :
    wpAny (model prog w) A (do storeSet S es1 t1; if (!false && t1.tooFull) = true then do { setRelay S (grown m); pure true } else pure true) Q E s := by
  refine wpAny_bind (wpAny_storeSet_of ho hd ?_ (Nat.le_trans h17 (by decide)))
  have hg1 : (s.heap.update S (Obj.putSet es1 t1)).get? S = some { o with data := .set es1 (ep + 1) t1 } := by
    have := Heap.get?_update_self (Obj.putSet es1 t1) ho (by rw [putSet_of _ _ hd]; rfl)
    rw [putSet_of _ _ hd] at this; exact this
  have sb1 : Heap.SameBut S s.heap (s.heap.update S (Obj.putSet es1 t1)) := Heap.SameBut.update ..
  generalize s.heap.update S (Obj.putSet es1 t1) = h1 at hg1 sb1 ⊢
  have other : ∀ {g g' : Heap} {o' : Obj} {es' ep' t'}, g.get? S = some o' → o'.data = .set es' ep' t' → Heap.SameBut S g g' → ∀ b oo ks, IsN knd g ks b → g.get? b = some oo → g'.get? b = some oo := fun {g g' o' es' ep' t'} e1 e2 sb b oo ks hN e => by
    have hne : b ≠ S := by
      rintro rfl
      obtain ⟨o2, items, n, q1, q2, q3, _⟩ := hN
      rw [e1] at q1
      cases q1
      rw [e2] at q3
      cases q3
    exact (sb.2 b hne).trans e
  have B1 : Bdy knd G h1 keys es1 t1 := B.keep (other ho hd sb1)
  have hfl : SetTable.fill t1 = es1.size := by unfold SetTable.fill; rw [B.dm, B.ps]; rfl
  by_cases hfull : t1.tooFull = true
  · have hf5 : es1.size * 5 ≥ t1.mask * 3 := by
      unfold tooFull at hfull
      rw [hfl] at hfull
      exact of_decide_eq_true hfull
    have hm7 : t1.mask = 7 ∧ es1.size = 5 := by
      rcases hmk with z | z
      · rw [z.1] at hf5; exact ⟨z.1, by lia⟩
      · rw [z] at hf5; lia
    simp only [hfull, Bool.not_false, Bool.and_self, if_true]
    refine wpAny_bind ?_
    unfold setRelay
    have hfit1 : t1.fits es1.size = true := by
      unfold fits
      rw [hfl, B.ps, hm7.1, hm7.2]; rfl
    refine wpAny_bind (wpAny_setState_of (s := { s with heap := h1 }) (o := { o with data := .set es1 (ep + 1) t1 }) hg1 rfl hfit1 ?_)
    dsimp only
    have hgr : grown m = 20 := by rw [hm, hm7.2]; rfl
    have hsa : sizeAbove 20 = 32 := by decide
    rw [hgr, hsa, if_neg (by decide)]
    have hrl : t1.relaid (es1.map (·.1)) 20 = laid 31 t1.finger (t1.movedTo 31) t1.led t1.plain (es1.map (·.1)) := by
      unfold relaid
      rw [hsa]
    obtain ⟨t2, order, el, et1, et2, et3, eo, er, ew⟩ := laid_way (es1.map (·.1)) (by rw [Array.size_map]; lia) t1.finger (t1.movedTo 31) t1.led t1.plain
    rw [Array.size_map] at et3 eo
    obtain ⟨hperm, B2⟩ := B1.again eo rfl et2 et3 er ew
    have hsz2 : (order.filterMap (es1[·]?)).size = es1.size := by
      have := hperm.length_eq
      rw [Array.length_toList, Array.length_toList] at this
      exact this
    rw [hrl, el]
    refine wpAny_bind ?_
    show wpAny _ _ (if ((order.filterMap (es1[·]?)).size != es1.size) = true then _ else pure (order.filterMap (es1[·]?), t2)) _ _ _
    rw [if_neg (by rw [hsz2]; simp)]
    refine wpAny_pure ?_
    generalize order.filterMap (es1[·]?) = es2 at hperm hsz2 B2 ⊢
    refine wpAny_storeSet_of (s := { s with heap := h1 }) (o := { o with data := .set es1 (ep + 1) t1 }) hg1 rfl ?_ (by rw [hsz2]; exact Nat.le_trans h17 (by decide))
    have hg2 : (h1.update S (Obj.putSet es2 t2)).get? S = some { o with data := .set es2 (ep + 1 + 1) t2 } := by
      have := Heap.get?_update_self (Obj.putSet es2 t2) hg1 (by rw [putSet_of (es := es1) (ep := ep + 1) (t := t1) _ _ rfl]; rfl)
      rw [putSet_of (es := es1) (ep := ep + 1) (t := t1) _ _ rfl] at this; exact this
    have sb2 : Heap.SameBut S h1 (h1.update S (Obj.putSet es2 t2)) := Heap.SameBut.update ..
    exact wpAny_pure (h (h1.update S (Obj.putSet es2 t2)) ⟨sb2.1.trans sb1.1, fun b hb => (sb2.2 b hb).trans (sb1.2 b hb)⟩ ⟨_, _, _, _, hg2, hcl, rfl, .inr et1, B2.keep (other (es' := es1) (ep' := ep + 1) (t' := t1) hg1 rfl sb2)⟩)
  · have hfull' : t1.tooFull = false := by simpa using hfull
    simp only [hfull', Bool.and_false, Bool.false_eq_true, if_false]
    refine wpAny_pure (h h1 sb1 ⟨_, _, _, _, hg1, hcl, rfl, ?_, B1⟩)
    rcases hmk with z | z
    · refine .inl ⟨z.1, ?_⟩
      unfold tooFull at hfull'
      rw [hfl, z.1] at hfull'
      have hf' := of_decide_eq_false hfull'
      lia
    · exact .inr z
/-- the keys with one more, if it is none of them -/
def kAdd (ks : List K) (keys : List (List K)) : List (List K) := if ks ∈ keys then keys else ks :: keys
theorem add_m {S x : Addr} {ks : List K} {keys : List (List K)} {Q : Bool → Shared → Prop} (hS : SetM knd G s.heap S keys) (hx : IsN knd s.heap ks x) (hGx : G x) (hl : keys.length ≤ 16) (hu : A.units < cLine)
    (h : ∀ b h', Heap.SameBut S s.heap h' → SetM knd G h' S (kAdd ks keys) → Q b { s with heap := h' }) : wpAny (model prog w) A (setAddHashed S (.ref x) (tupleKeyHash knd ks)) Q E s := by
  obtain ⟨o, es, ep, t, ho, hcl, hd, hmk, B⟩ := id hS
  have hn := B.len
  have hm : t.mask = 7 ∨ t.mask = 31 := hmk.elim (fun z => .inl z.1) .inr
  have hsz : es.size ≤ t.mask := by rcases hmk with z | z <;> lia
  have hfl : SetTable.fill t = es.size := by unfold SetTable.fill; rw [B.dm, B.ps]; rfl
  have hfit : t.fits es.size = true := by
    unfold fits
    rw [hfl, B.ps]
    simp
    exact hsz
  unfold setAddHashed setAddHashedIn
  refine wpAny_holding (wpAny_bind (wpAny_setState_of ho hd hfit ?_))
  dsimp only
  have hbs : byScan (.ref x) es = false := rfl
  rw [hbs]
  simp only [Bool.false_eq_true, if_false]
  obtain ⟨k, hk1, hk2⟩ := start_hit hm B.dm (by rw [B.ps]; exact hsz) (tupleKeyHash knd ks)
  have hkF : k < 100000 := by
    unfold turns at hk1
    rcases hm with z | z <;> rw [z] at hk1 <;> lia
  by_cases hin : ks ∈ keys
  · obtain ⟨i0, b0, he0, hb0⟩ := B.key ks hin
    obtain ⟨b, k', j0, q1, q2, q3, q4, q5, q6⟩ := B.ent i0 _ he0
    obtain ⟨m, m1, m2⟩ := q6
    have hmk' : m < k := by
      refine Nat.lt_of_not_le fun hle => ?_
      unfold Hit at hk2
      rcases Nat.lt_or_ge k m with z | z
      · obtain ⟨q, hq⟩ := m2 k z
        rw [slot_live B.ris hq] at hk2
        cases hk2
      · have e : k = m := by lia
        rw [e, m1, slot_live B.ris q5] at hk2
        cases hk2
    refine wpAny_bind (m := setSearch S (.ref x) (tupleKeyHash knd ks) true) (search_old ho hd hfit hm B.ris hx (fun e he => let ⟨b, k', q1, q2, _⟩ := B.nums e he; ⟨b, k', q1, q2⟩) hu q5 he0 hb0 ?_ m 100000 none (by lia) (by lia) rfl m1 m2)
    dsimp only
    refine wpAny_pure (h false s.heap (Heap.SameBut.refl ..) ?_)
    unfold kAdd
    rw [if_pos hin]
    exact hS
  · have hes : ∀ e ∈ es.toList, ∃ b k', e.2 = Value.ref b ∧ IsN knd s.heap k' b ∧ k' ≠ ks := fun e he => by
      obtain ⟨b, k, q1, q2, q3⟩ := B.nums e he
      exact ⟨b, k, q1, q2, fun z => hin (z ▸ q3)⟩
    refine wpAny_bind (m := setSearch S (.ref x) (tupleKeyHash knd ks) true) (search_new ho hd hfit hm B.dm hx hes hu (fun j hj hw => ?_) k 100000 0 none hkF hk1 rfl (fun l hl => absurd hl (Nat.not_lt_zero _)) rfl hk2)
    dsimp only
    refine wpAny_bind (wpAny_setState_of ho hd hfit ?_)
    dsimp only
    obtain ⟨hmk1, B1⟩ := B.more hx hGx hj hw rfl rfl
    generalize (t.put j).1 = t1 at hmk1 B1 ⊢
    generalize (t.put j).2 = p at B1 ⊢
    have hsz1 : (insertAt es p (tupleKeyHash knd ks, Value.ref x)).size = es.size + 1 := insert_size _ _ _
    have tail := add_tail2 (knd := knd) (G := G) (A := A) (E := E) (Q := Q) ho hcl hd (es1 := insertAt es p (tupleKeyHash knd ks, Value.ref x)) (t1 := t1) (keys := ks :: keys) (by rw [hmk1, hsz1]; rcases hmk with z | z; exact .inl ⟨z.1, by lia⟩; exact .inr z) B1 (by rw [hsz1]; lia) (m := es.size + 1) (by rw [hsz1]) (fun h' sb hM => h true h' sb (by unfold kAdd; rw [if_neg hin]; exact hM))
    split
    · refine wpAny_bind (hashByValue_n hx ?_)
      simp only [if_true]
      exact tail
    · refine wpAny_bind (wpAny_pure ?_)
      simp only [if_true]
      exact tail
end
end St
end L2

/-! own layer, part 58: set of a list of numbers, and its length, as rules -/
namespace L2
open PySem PySem.Spec PyProof.Rows
namespace St
section
variable {prog : Program} {w : World} {K : Type} [DecidableEq K] {knd : KeyKind prog w K} {G : Addr → Prop} {A : Around} {R : Result → Shared → Prop} {I : Addr} {fp wr : List Addr} {GG : Array GenState → Array GenState → Prop} {n : Nat} {P : Nat → Value → Prop} {St : Nat → Shared → Prop}
theorem SetM.stay {h h' : Heap} {S : Addr} {keys : List (List K)} (x : SetM knd G h S keys) (k : ∀ b o, b = S ∨ G b → h.get? b = some o → h'.get? b = some o) : SetM knd G h' S keys := by
  obtain ⟨o, es, ep, t, h1, h2, h3, h4, B⟩ := x
  refine ⟨o, es, ep, t, k _ _ (.inl rfl) h1, h2, h3, h4, B.dm, B.ps, B.len, B.ris, fun i e he => ?_, fun ks hk => ?_⟩
  · obtain ⟨b, ks, j, q1, q2, q3, q4, q5⟩ := B.ent i e he
    exact ⟨b, ks, j, q1, q2.keep fun o eo => k b o (.inr q4) eo, q3, q4, q5⟩
  · obtain ⟨i, b, q1, q2⟩ := B.key ks hk
    obtain ⟨b', _, _, e, _, _, q4, _⟩ := B.ent i _ q1
    have eb : b = b' := Value.ref.inj (congrArg Prod.snd e)
    exact ⟨i, b, q1, q2.keep fun o eo => k b o (.inr (eb ▸ q4)) eo⟩
def kD (key : Nat → List K) : Nat → List (List K)
  | 0 => []
  | i + 1 => kAdd (key i) (kD key i)
theorem kD_length (key : Nat → List K) : ∀ i, (kD key i).length ≤ i
  | 0 => Nat.le_refl _
  | i + 1 => by
    have := kD_length key i
    show (kAdd _ _).length ≤ _
    unfold kAdd
    split
    · lia
    · rw [List.length_cons]; lia
theorem kD_mem {key : Nat → List K} {k : List K} : ∀ {i}, k ∈ kD key i ↔ ∃ j, j < i ∧ key j = k
  | 0 => ⟨(fun h => nomatch h), (fun ⟨_, h, _⟩ => absurd h (Nat.not_lt_zero _))⟩
  | i + 1 => by
    show k ∈ kAdd (key i) (kD key i) ↔ _
    unfold kAdd
    split
    · next h =>
      rw [kD_mem (i := i)]
      refine ⟨fun ⟨j, h1, h2⟩ => ⟨j, by lia, h2⟩, fun ⟨j, h1, h2⟩ => ?_⟩
      rcases Nat.lt_or_ge j i with z | z
      · exact ⟨j, z, h2⟩
      · obtain rfl : j = i := by lia
        rw [← h2]
        exact kD_mem.mp h
    · rw [List.mem_cons, kD_mem (i := i)]
      refine ⟨fun h => ?_, fun ⟨j, h1, h2⟩ => ?_⟩
      · rcases h with z | ⟨j, h1, h2⟩
        · exact ⟨i, Nat.lt_succ_self _, z.symm⟩
        · exact ⟨j, by lia, h2⟩
      · rcases Nat.lt_or_ge j i with z | z
        · exact .inr ⟨j, z, h2⟩
        · obtain rfl : j = i := by lia
          exact .inl h2.symm
/-- all of them are unlike just if there are as many -/
theorem kD_all {key : Nat → List K} : ∀ {n}, (kD key n).length = n ↔ ∀ i j, i < n → j < n → key i = key j → i = j
  | 0 => ⟨fun _ i _ h => absurd h (Nat.not_lt_zero _), fun _ => rfl⟩
  | n + 1 => by
    have hl := kD_length key n
    have ih := kD_all (key := key) (n := n)
    show (kAdd (key n) (kD key n)).length = n + 1 ↔ _
    unfold kAdd
    split
    · next h =>
      refine ⟨fun z => by lia, fun z => ?_⟩
      obtain ⟨j, h1, h2⟩ := kD_mem.mp h
      have := z j n (by lia) (Nat.lt_succ_self _) h2
      lia
    · next h =>
      rw [List.length_cons]
      refine ⟨fun z i j hi hj e => ?_, fun z => ?_⟩
      · have z' := ih.mp (by lia)
        rcases Nat.lt_or_ge i n with a | a
        · rcases Nat.lt_or_ge j n with b | b
          · exact z' i j a b e
          · obtain rfl : j = n := by lia
            exact absurd (kD_mem.mpr ⟨i, a, e⟩) h
        · obtain rfl : i = n := by lia
          rcases Nat.lt_or_ge j i with b | b
          · exact absurd (kD_mem.mpr ⟨j, b, e.symm⟩) h
          · lia
      · have := ih.mpr fun i j hi hj e => z i j (by lia) (by lia) e
        lia
theorem loop_m (W : WalksS prog w A.in1 I fp wr GG n P St) (S : Addr) (hSf : S ∉ fp) (key : Nat → List K) (adr : Nat → Addr) (hval : ∀ i v, P i v → v = Value.ref (adr i)) (hG : ∀ i, i < n → G (adr i)) (hGw : ∀ b, G b → b ∉ wr ∧ b ≠ S)
    (hn : n ≤ 17) (hu : A.units + 1 < cLine) (left i : Nat) (s : Shared) (hk : i + left = n) (hst : St i s) (hN : ∀ j, j < n → IsN knd s.heap (key j) (adr j)) (hS : SetM knd G s.heap S (kD key i))
    (hR : ∀ s', Moved (S :: wr) GG s s' → SetM knd G s'.heap S (kD key n) → R (.ok (.ret .none)) s') : codeAny (model prog w) A (.builtin "set.update.loop" ⟨[.ref S, .ref I], []⟩) R s := by
  have grow : ∀ {a b : Shared}, Moved wr GG a b → Moved (S :: wr) GG a b := fun m => m.mono fun _ => List.mem_cons_of_mem _
  have stay : ∀ {a b : Shared}, Moved wr GG a b → ∀ c o, c = S ∨ G c → a.heap.get? c = some o → b.heap.get? c = some o := fun m c o hc => m.heap c o (hc.elim (fun z => z ▸ mt (W.sub _) hSf) fun z => (hGw c z).1)
  induction left generalizing i s with
  | zero =>
    obtain rfl : i = n := by lia
    refine turn_of (show wpAny (model prog w) A.in1 (pyNext (Value.ref I) >>= _) _ _ s from wpAny_bind (W.done s _ _ hst fun s' m => ?_))
    exact wpAny_pure (hR s' (grow m) (hS.stay (stay m)))
  | succ left ih =>
    have hlt : i < n := by lia
    refine turn_of (show wpAny (model prog w) A.in1 (pyNext (Value.ref I) >>= _) _ _ s from wpAny_bind (W.item i s _ _ hlt hst fun v s' hP hst' m => ?_))
    obtain rfl := hval i v hP
    have hN' : ∀ j, j < n → IsN knd s'.heap (key j) (adr j) := fun j hj => (hN j hj).keep fun o e => stay m _ o (.inr (hG j hj)) e
    have hS' : SetM knd G s'.heap S (kD key i) := hS.stay (stay m)
    refine wpAny_bind (m := holding [Value.ref (adr i)] (setAdd S (Value.ref (adr i)))) (wpAny_holding ?_)
    unfold setAdd
    refine wpAny_holding (wpAny_bind (wpAny_pyHash_tuple hu (hN' i hlt).key ?_))
    refine add_m (knd := knd) (G := G) (s := { s' with toks := s'.toks + ((key i).length + 1) }) hS' (hN' i hlt) (hG i hlt) (by have := kD_length key i; lia) hu fun bb h' sb hS2 => ?_
    have other : ∀ c o, c ≠ S → s'.heap.get? c = some o → h'.get? c = some o := fun c o hc e => (sb.2 c hc).trans e
    refine wpAny_pure ⟨plainId_quiet F.plain_set_update_loop _, ih (i + 1) _ (by lia) (W.frame _ s' _ _ hst' (Nat.le_add_right _ _) fun b hb o e => other b o (fun z => hSf (z ▸ hb)) e) (fun j hj => (hN' j hj).keep fun o e => other _ o (hGw _ (hG j hj)).2 e) hS2 fun s'' m2 hS3 => ?_⟩
    exact hR s'' (((grow m).then_heap (Nat.le_add_right _ _) fun b o hb e => other b o (fun z => hb (z ▸ List.mem_cons_self)) e).trans W.gtrans m2) hS3
end
section
variable {prog : Program} {w : World} {K : Type} [DecidableEq K] {knd : KeyKind prog w K} {A : Around} {E : Value → Shared → Prop} {s : Shared}
theorem init_m {l : Addr} {items : Array Value} (led : Bool) (key : Nat → List K) (adr : Nat → Addr) (hh : A.handled = none) (hl : s.heap.IsList l items) (hv : ∀ (i : Nat) (v : Value), items[i]? = some v → v = Value.ref (adr i)) (hN : ∀ j, j < items.size → IsN knd s.heap (key j) (adr j))
    (hb : items.size ≤ 17) (hu : A.units + 20 < cLine) {Q : Fin → Shared → Prop} {E' : Value → Shared → Prop}
    (h : ∀ (h' : Heap) (tk : Nat), SetM knd (fun b => b < s.heap.objs.size) h' s.heap.objs.size (kD key items.size) → (∀ b o, s.heap.get? b = some o → h'.get? b = some o) → Q (.done (.ret .none)) { s with heap := h', toks := tk }) :
    wpAny (model prog w) A (Builtin.«set.__init__» ⟨[.ref s.heap.objs.size, .ref l], []⟩) Q E' { s with heap := s.heap.push (nS led) } := by
  have lS : l < s.heap.objs.size := by obtain ⟨_, e, _⟩ := hl; exact Heap.lt_size e
  obtain ⟨⟨_, od, _, osl⟩, el, hc, nl, hd⟩ := id hl
  simp only at hc hd; subst hc hd
  have el1 : (s.heap.push (nS led)).get? l = some { cls := .type "list", dict := od, data := .seq items nl, slots := osl } := Heap.get?_push_of_some _ el
  have eS : (s.heap.push (nS led)).get? s.heap.objs.size = some (nS led) := Heap.get?_push_size _ rfl
  have hl1 : (s.heap.push (nS led)).IsList l items := ⟨_, el1, rfl, nl, rfl⟩
  have t1 := F.sub_list_set; have t2 := F.sub_list_frozenset; have t3 : (Value.type "list" == Value.type "dict") = false := by decide
  unfold Builtin.«set.__init__» noKeywords Builtin.Frozenset.updateFrom
  generalize hPI : pyIter = PI; wp_walk; subst hPI
  have zS : (s.heap.push (nS led)).objs.size = s.heap.objs.size + 1 := Heap.size_push ..
  refine wpAny_pyIter_list hl1 (wpAny_bind (wpAny_runValue ?_))
  have up : ∀ b o, s.heap.get? b = some o → ((s.heap.push (nS led)).push (nI l)).get? b = some o := fun b o e => Heap.get?_push_of_some _ (Heap.get?_push_of_some _ e)
  have lI : l ≠ (s.heap.push (nS led)).objs.size := by rw [zS]; exact Nat.ne_of_lt (Nat.lt_succ_of_lt lS)
  have empty : Bdy knd (fun b => b < s.heap.objs.size) ((s.heap.push (nS led)).push (nI l)) (kD key 0) #[] (.fresh 0 0 led) := ⟨rfl, rfl, rfl, List.Pairwise.nil, fun i e he => by simp at he, fun k hk => nomatch hk⟩
  refine loop_m (knd := knd) (G := fun b => b < s.heap.objs.size) ((Walks.list (A := A.in1) hh _ l lI items).toS) s.heap.objs.size ?_ key adr (fun i v hP => hv i v hP) (fun i hi => ?_) (fun b hb => ⟨?_, Nat.ne_of_lt hb⟩) hb (by lia) items.size 0 _ (Nat.zero_add _)
    ⟨⟨_, Heap.get?_push_size _ rfl, rfl, rfl⟩, hl1.push _⟩ (fun j hj => (hN j hj).keep fun o e => up _ _ e) ⟨_, _, _, _, Heap.get?_push_of_some _ eS, ⟨rfl, rfl, rfl⟩, rfl, .inl ⟨rfl, Nat.zero_le _⟩, empty⟩ ?_
  · rw [zS]; intro hm
    rcases List.mem_cons.mp hm with z | z
    · exact absurd z (Nat.ne_of_lt (Nat.lt_succ_self _))
    · exact absurd (List.mem_singleton.mp z) (Nat.ne_of_gt lS)
  · obtain ⟨_, _, _, e, _⟩ := hN i hi; exact Heap.lt_size e
  · rw [zS]; intro hm
    exact absurd (List.mem_singleton.mp hm) (Nat.ne_of_lt (Nat.lt_succ_of_lt hb))
  rintro ⟨h', g', d', tk', os'⟩ m hS'
  obtain rfl : g' = s.gens := m.gens
  obtain rfl : d' = s.drawn := m.drawn
  obtain rfl : os' = s.os := m.os
  refine wpAny_pure (wpAny_pure (h h' tk' hS' fun b o e => ?_))
  have lb := Heap.lt_size e
  refine m.heap b o (fun hm => ?_) (up b o e)
  rw [zS] at hm
  rcases List.mem_cons.mp hm with z | z
  · exact absurd z (Nat.ne_of_lt lb)
  · exact absurd (List.mem_singleton.mp z) (Nat.ne_of_lt (Nat.lt_succ_of_lt lb))
/-- set(l), l a list of numbers -/
theorem call_setM {l : Addr} {items : Array Value} {Q : Value → Shared → Prop} (key : Nat → List K) (adr : Nat → Addr) (hh : A.handled = none) (hl : s.heap.IsList l items) (hv : ∀ (i : Nat) (v : Value), items[i]? = some v → v = Value.ref (adr i)) (hN : ∀ j, j < items.size → IsN knd s.heap (key j) (adr j))
    (hb : items.size ≤ 17) (hu : A.units + 40 < cLine)
    (h : ∀ (h' : Heap) (tk : Nat), SetM knd (fun b => b < s.heap.objs.size) h' s.heap.objs.size (kD key items.size) → (∀ b o, s.heap.get? b = some o → h'.get? b = some o) → Q (.ref s.heap.objs.size) { s with heap := h', toks := tk }) :
    wpAny (model prog w) A (call (.type "set") [.ref l]) Q E s := by
  obtain ⟨_, _, hmro⟩ := F.called_set.mro
  have m1 := F.called_set.made; have m2 := F.called_set.sub; have m3 := F.called_set.notType; have m4 := F.called_set.canCreate; have m5 := F.typeCall_set_1 (.ref l)
  refine wpAny_call (codeAny_of_tree (show wpAny _ _ (callAny (.type "set") _) _ _ _ from wpAny_pure ⟨Code.quiet_builtin _ (by decide +kernel), codeAny_builtin F.entry_type_call ?_⟩))
  rw [Around.under_plain (weight_type_call_type "set" [.ref l] []) rfl]
  repeat any_goals first | assumption | wp_step
  refine codeAny_mono (code_set_new_1 (.ref l) (E := E) (Q₁ := fun v s₁ => v = .ref s.heap.objs.size ∧ ∃ led, s₁ = { s with heap := s.heap.push (nS led) }) fun led => ⟨rfl, led, rfl⟩) fun r s₁ hr => ?_
  rcases r with e | fl
  · exact hr
  cases fl with
  | ret v =>
    obtain ⟨e1, led, e2⟩ := hr
    subst e1 e2
    have hT : Shared.TypeIs { s with heap := s.heap.push (nS led) } (.ref s.heap.objs.size) "set" := ⟨_, Heap.get?_push_size _ rfl, rfl⟩
    have m6 := F.called_set.init.lookup; have m7 := F.called_set.init.bind (.ref s.heap.objs.size)
    repeat any_goals first | assumption | wp_step
    refine codeAny_mono (codeAny_call_builtin (R := wants (fun r s₂ => r = .none ∧ Q (.ref s.heap.objs.size) s₂) E) F.called_set.init.plain F.entry_set_init (check_set_init_1 hT ?_)) fun r₂ s₂ hr₂ => ?_
    · refine init_m (knd := knd) led key adr ?_ hl hv hN hb ?_ fun h' tk hS hk => ?_
      · simp [hh]
      · simp only [Around.in1]; lia
      · exact ⟨rfl, h h' tk hS hk⟩
    · rcases r₂ with e | fl₂
      · exact hr₂
      cases fl₂ with
      | ret _ =>
        obtain ⟨e3, q⟩ := hr₂
        subst e3
        repeat any_goals first | assumption | wp_step
      | _ => exact hr₂.elim
  | _ => exact hr.elim
end
end St
section
variable {X : Cx}
/-- how many unlike ones there are: as many as there are numbers just if no two are alike -/
inductive rSetD (K : PySem.W.Frag) (xs : List V) (H : Hp) (Q : VK) : Prop
  | mk (l : Addr) (ys : List V) (qs : List Rat) (h1 : xs = [.ref l]) (h2 : SqL K H l ys) (h3 : NumsT H ys qs) (h4 : qs.length ≤ 17) (h5 : ∀ p n, n ≤ qs.length → (n = qs.length ↔ qs.Nodup) → H p = none → Q (.ref p) (upd H p (SetO p n))) : rSetD K xs H Q
theorem call_setD (hc : X.calm = true) (hu : X.A.units + 64 < cLine) : CallR X (.type "set") (rSetD X.K) := by
  intro pins s σ H xs us Q I r h
  obtain ⟨l, ys, qs, rfl, hq, hn, h17, q⟩ := h
  obtain ⟨u, rfl, rfl⟩ := vals1 r
  obtain ⟨its, rv, p, hz⟩ := I.list hq
  have hl := rv.length
  have hyl := hn.length
  have hsz : its.toArray.size = qs.length := by rw [List.size_toArray]; lia
  let adr : Nat → Addr := fun j => match ys[j]? with | some (.ref r) => r | _ => 0
  have had : ∀ j, j < qs.length → ∃ r, ys[j]? = some (.ref r) ∧ adr j = r ∧ H r = some (nT (qs.getD j 0)) := fun j hj => by
    have g : qs[j]? = some (qs.getD j 0) := by rw [List.getD_eq_getElem?_getD, List.getElem?_eq_getElem hj]; rfl
    obtain ⟨y, hy, r, rfl, hr⟩ := Paired.get' hn g
    exact ⟨r, hy, by show (match ys[j]? with | some (.ref r) => r | _ => 0) = r; rw [hy], hr⟩
  refine St.call_setM (knd := mixKind X.prog X.w) (fun j => kQ (qs.getD j 0)) adr (I.ok.hd hc) p.isList (fun i v hv => ?_) (fun j hj => ?_) (by lia) (by lia) fun h' tk hS hk => ?_
  · have hv' : its[i]? = some v := by simpa using hv
    have hi : i < its.length := (List.getElem?_eq_some_iff.mp hv').1
    obtain ⟨r, hy, hr, _⟩ := had i (by lia)
    obtain ⟨u, hu1, ru⟩ := rv.get hy
    rw [hv'] at hu1
    cases hu1
    rw [hr]; exact ru
  · rw [hsz] at hj
    obtain ⟨r, _, hr, hH⟩ := had j hj
    rw [hr]
    exact isN_of I.hok hH
  · have hnd : (St.kD (fun j => kQ (qs.getD j 0)) its.toArray.size).length = qs.length ↔ qs.Nodup := by
      rw [hsz, St.kD_all]
      refine ⟨fun z => ?_, fun z i j hi hj e => ?_⟩
      · refine List.pairwise_iff_getElem.mpr fun i j hi hj hlt e => ?_
        have := z i j hi hj (by rw [List.getD_eq_getElem?_getD, List.getD_eq_getElem?_getD, List.getElem?_eq_getElem hi, List.getElem?_eq_getElem hj, e])
        lia
      · have e' := kQ_inj e
        have g1 : qs[i]? = some (qs.getD i 0) := by rw [List.getD_eq_getElem?_getD, List.getElem?_eq_getElem hi]; rfl
        have g2 : qs[j]? = some (qs.getD j 0) := by rw [List.getD_eq_getElem?_getD, List.getElem?_eq_getElem hj]; rfl
        exact (List.getElem?_inj hi z).mp (by rw [g1, g2, e'])
    have hle := St.kD_length (fun j => kQ (qs.getD j 0)) its.toArray.size
    generalize hkk : St.kD (fun j => kQ (qs.getD j 0)) its.toArray.size = kk at hS hnd hle
    obtain ⟨o, es, ep, t, h1, h2, h3, h4, B⟩ := hS
    have h7 := B.len
    have hfit : SetTable.fits t es.size = true := by
      unfold SetTable.fits SetTable.fill
      rw [B.dm, B.ps]
      rcases h4 with z | z <;> simp <;> lia
    have new : ObjOk X.prog X.w (upd H s.heap.objs.size (SetO s.heap.objs.size kk.length)) h' s.heap.objs.size (SetO s.heap.objs.size kk.length) := by
      refine ⟨⟨o, es, ep, t, h1, h2, h3, hfit, h7⟩, ⟨o, h1⟩, fun g1 g2 hg hk => ?_⟩
      obtain ⟨o, es, ep, t, k1, k2, k3, k4, k5⟩ := hg
      exact ⟨o, es, ep, t, hk o k1, k2, k3, k4, k5⟩
    exact ⟨.ref s.heap.objs.size, _, I.laid (t' := tk) hk (Nat.le_refl _) new, rfl, q _ _ (by lia) hnd (I.hok.fresh (Nat.le_refl _))⟩
theorem setD (K : PySem.W.Frag) (hc : X.calm = true) (hu : X.A.units + 64 < cLine) (e : X.K = K := by rfl) : CallR X (.type "set") (rSetD K) := by subst e; exact call_setD hc hu
end
end L2

/-! own layer, part 62: isinstance of any plain thing, and several types; a promise of CX2 as one of CX1 -/
namespace L2
open PySem PySem.Spec PyProof.Rows
section
open PySem.W
variable {X : Cx} (K : PySem.W.Frag)
/-- the type of a plain thing -/
inductive TyP (K : PySem.W.Frag) (H : Hp) : V → Value → Prop where
  | non : TyP K H .non (.type "NoneType")
  | bl (x : Bool) : TyP K H (.bl x) (.type "bool")
  | int (i : Int) : TyP K H (.int i) (.type "int")
  | str (x : Str) : TyP K H (.str x) (.type "str")
  | lst {a : Addr} {xs : List V} (e : SqL K H a xs) : TyP K H (.ref a) (.type "list")
  | tup {a : Addr} {xs : List V} (e : SqT K H a xs) : TyP K H (.ref a) (.type "tuple")
  | dK {a : Addr} {kvs : List (Key × V)} (e : H a = some (.dK kvs)) : TyP K H (.ref a) (.type "dict")
  | dT {a : Addr} {kvs : List (List Key × V)} (e : H a = some (.dT kvs)) : TyP K H (.ref a) (.type "dict")
inductive cIsiTX (xs : List V) (H : Hp) (Q : VK) : Prop
  | mk (x : _) (t : _) (tp : _) (ys : _) (cs : _) (b : _) (h1 : xs = [x, .ref tp]) (h2 : TyP K H x t) (h3 : H tp = some (.tup ys)) (h4 : ys.map clsV = cs.map some) (h5 : kitAny K t cs = some b) (h6 : Q (.bl b) H) : cIsiTX xs H Q
theorem isiTX (e : X.K = K := by rfl) : CallR X (.builtin "isinstance") (cIsiTX K) := by
  subst e
  intro pins s σ H xs us Q I r h
  obtain ⟨x, t, tp, ys, cs, b, rfl, ty, htp, hys, hk, q⟩ := h
  obtain ⟨u, w', rfl, rx, ry⟩ := vals2 r
  cases ry
  obtain ⟨_, its, rv, ⟨cc, dd, dt, sl⟩, e1, e2, n, e3⟩ := I.hok tp _ htp
  have e2 : cc = .type "tuple" := e2
  have e3 : dt = .seq its.toArray n := e3
  subst e2 e3
  rw [clsV_rels rv hys] at e1
  have fin : ∀ tk, EP X pins σ Q (.bool b) { s with toks := tk } := fun tk => ⟨.bl b, H, I.tok _, rfl, q⟩
  cases ty with
  | non => cases (show u = Value.none from rx); exact kia_tup kitx_none I.kIn True.intro e1 hk (fun z => nomatch z) fin
  | bl y => cases (show u = Value.bool y from rx); exact kia_tup kitx_bool I.kIn True.intro e1 hk (fun z => nomatch z) fin
  | int i => obtain ⟨t, q⟩ := (show ∃ t, u = Value.int i t from rx); cases q; exact kia_tup kitx_int I.kIn True.intro e1 hk (fun z => nomatch z) fin
  | str y => obtain ⟨t, q⟩ := (show ∃ t, u = Value.str y t from rx); cases q; exact kia_tup kitx_str I.kIn True.intro e1 hk (fun z => nomatch z) fin
  | @lst a xs hz =>
    cases (show u = Value.ref a from rx)
    obtain ⟨_, _, ⟨o, _, o1, o2, _⟩, _⟩ := I.list hz
    exact kia_tup kitx_list I.kIn ⟨o, o1, o2⟩ e1 hk (fun z => nomatch z) fin
  | @tup a xs hz =>
    cases (show u = Value.ref a from rx)
    obtain ⟨_, _, ⟨o, o1, o2, _⟩, _⟩ := I.tuple hz
    exact kia_tup kitx_tuple I.kIn ⟨o, o1, o2⟩ e1 hk (fun z => nomatch z) fin
  | @dK a kvs ea =>
    cases (show u = Value.ref a from rx)
    obtain ⟨_, _, vs, _, p⟩ := (show ObjOk X.prog X.w H s.heap a (.dK kvs) from I.hok a _ ea)
    obtain ⟨o, es, ep, h1, h2, _⟩ := p
    exact kia_tup kitx_dict I.kIn ⟨o, h1, h2.1⟩ e1 hk (fun z => nomatch z) fin
  | @dT a kvs ea =>
    cases (show u = Value.ref a from rx)
    obtain ⟨_, _, vs, _, p⟩ := (show ObjOk X.prog X.w H s.heap a (.dT kvs) from I.hok a _ ea)
    obtain ⟨o, es, ep, h1, h2, _⟩ := p
    exact kia_tup kitx_dict I.kIn ⟨o, h1, h2.1⟩ e1 hk (fun z => nomatch z) fin
end
/-! the items of a long list, each told by its kind: no long unfolding -/
theorem se_c {c k pos es env} : starEach (.Constant c k pos :: es) env = (false, eval (.Constant c k pos) env) :: starEach es env := by rfl
theorem se_t {xs k pos es env} : starEach (.Tuple xs k pos :: es) env = (false, eval (.Tuple xs k pos) env) :: starEach es env := by rfl
theorem se_l {xs pos es env} : starEach (.List xs pos :: es) env = (false, eval (.List xs pos) env) :: starEach es env := by rfl
theorem se_u {op x pos es env} : starEach (.UnaryOp op x pos :: es) env = (false, eval (.UnaryOp op x pos) env) :: starEach es env := by rfl
theorem se_n {x pos es env} : starEach (.Name x pos :: es) env = (false, eval (.Name x pos) env) :: starEach es env := by rfl
end L2

namespace L2
open PySem PySem.Spec PyProof.Rows
/-! ### long lists of constants: the judgement is kept closed while they are put together -/
section
variable {X : Cx} {e : Expr} {es : List Expr} {te : TE} {t : TA} {pos : Pos}
@[irreducible] def PEk (X : Cx) (e : Expr) (te : TE) : Prop := PE X e te
@[irreducible] def PAk (X : Cx) (es : List Expr) (t : TA) : Prop := PA X es t
theorem pek (h : PE X e te) : PEk X e te := by unfold PEk; exact h
theorem PEk.to (h : PEk X e te) : PE X e te := by unfold PEk at h; exact h
theorem PAk.to (h : PAk X es t) : PA X es t := by unfold PAk at h; exact h
theorem pak_nil : PAk X [] tNil := by unfold PAk; exact pa_nil
theorem pak_cons (ha : PEk X e te) (hr : PAk X es t) (hs : starEach (e :: es) X.env = (false, eval e X.env) :: starEach es X.env) : PAk X (e :: es) (tCons te t) := by unfold PAk; exact pa_cons ha.to hr.to hs
theorem pek_int {i j pos} : PEk X (.Constant (.int i) j pos) (tC (.int i)) := pek pe_int
theorem pek_bl {b j pos} : PEk X (.Constant (.bool b) j pos) (tC (.bl b)) := pek pe_bl
theorem pek_non {j pos} : PEk X (.Constant .none j pos) (tC .non) := pek pe_non
theorem pek_str {x j pos} : PEk X (.Constant (.str x) j pos) (tC (.str x)) := pek pe_str
theorem pek_neg {i j p pos} : PEk X (.UnaryOp .USub (.Constant (.int i) j p) pos) (tUn (rU fun i => .int (-i)) (tC (.int i))) := pek (pe_un un_neg pe_int)
theorem pek_tup {x1} (h : PAk X es t) : PEk X (.Tuple es x1 pos) (tTup t) := pek (pe_tup h.to)
theorem pek_lst (h : PAk X es t) : PEk X (.List es pos) (tLst t) := pek (pe_lst h.to)
theorem pek_ix {a b : Expr} {ta tb : TE} {r : R2} (hr : IxR X r) (ha : PEk X a ta) (hb : PEk X b tb) (hs : PlainIx b) : PEk X (.Subscript a b pos) (tOp r ta tb) := pek (pe_ix hr ha.to hb.to hs)
theorem ps_setk {i : Nat} {x : Str} {pos' : Pos} (hN : X.N.Nodup) (hi : X.N[i]? = some x) (hx : Loc X.env.scope x) (he : PEk X e te) (hs : swapsWith e (some (.Name x pos')) pos.line X.env = pure false := by rfl) (hf : X.fn x = true ∨ X.env.scope.names.lookup x = some .local := by first | exact .inl rfl | exact .inr rfl | assumption) :
    PS X (.Assign [.Name x pos'] e pos) (tAsg te (gName i)) := ps_set hN hi hx he.to hs hf
end
end L2

/-! own layer, part 65: a statement that raises nothing, within a def that raises; a slice with a step -/
namespace L2
open PySem PySem.Spec PyProof.Rows
theorem PS.nox {X : Cx} {st : Stmt} {t : TS} (h : PS X.nox st t) : PS X st t := fun pins s σ H D I hw => wpAny_mono (h pins s σ H D (I.wish _) hw) (fun _ _ q => q.unwish) fun _ _ z => z.elim
/-! ### xs[::k] of a list, k is 1 or -1 -/
section
variable {X : Cx} {e k : Expr} {te tk : TE}
theorem pick_one (its : List Value) : slicePick its.toArray none none (some 1) = its.toArray := by
  have e : slicePick its.toArray none none (some 1) = slicePick its.toArray none none none := rfl
  rw [e, slicePick_cut]
  have e1 : HT.sIx its.length 0 none = 0 := rfl
  have e2 : HT.sIx its.length its.length none = its.length := rfl
  rw [e1, e2, List.drop_zero, Nat.sub_zero, List.take_length]
inductive stpQ (K : PySem.W.Frag) (x : V) (Q : VK) (st : Option Int) (H2 : Hp) : Prop
  | mk (a : Addr) (xs : List V) (b : Bool) (h1 : x = .ref a) (h2 : st = some (if b = true then 1 else -1)) (h3 : SqL K H2 a xs) (h4 : ∀ p, H2 p = none → Q (.ref p) (upd H2 p (.lst (if b = true then xs else xs.reverse)))) : stpQ K x Q st H2
def tStp (K : PySem.W.Frag) (te tk : TE) : TE := fun σ H Q => te σ H fun x H1 => tPart tk σ H1 (stpQ K x Q)
theorem pe_stp (K : PySem.W.Frag) {p2 pos : Pos} (he : PE X e te) (hk : PE X k tk) (e0 : X.K = K := by rfl) : PE X (.Subscript e (.Slice none none (some k) p2) pos) (tStp K te tk) := by
  subst e0
  intro pins s σ H Q I h
  refine Subscript_ (thn (he pins s σ H _ I h) fun v s1 ⟨x, H1, I1, r1, q1⟩ => ?_)
  refine wpAny_Slice (thn (po_none pins s1 σ H1 (fun l H2 => l = none ∧ H2 = H1) I1 ⟨rfl, rfl⟩) fun vl s2 ⟨l, H2, I2, pl, el⟩ => thn (po_none pins s2 σ H2 (fun l H3 => l = none ∧ H3 = H2) I2 ⟨rfl, rfl⟩) fun vu s3 ⟨u, H3, I3, pu, eu⟩ => ?_)
  obtain ⟨rfl, rfl⟩ := el
  obtain ⟨rfl, rfl⟩ := eu
  refine thn (po_some hk pins s3 σ H3 _ I3 q1) fun vk s4 ⟨st, H4, I4, pk, ek⟩ => ?_
  obtain ⟨a, xs, b, rfl, rfl, hx, q⟩ := ek
  cases r1
  have I5 : Inv X pins σ H4 { s4 with heap := s4.heap.push { cls := .type "slice", data := .fields #[vl, vu, vk] } } := I4.kept (t' := s4.toks) fun b ob q => Heap.get?_push_of_some _ q
  obtain ⟨its, r, ht, hz⟩ := I5.list hx
  have hlen := r.length
  refine tail_any (ops := [.ref a, .ref s4.heap.objs.size]) ht.isList.typeIs slot_list_getitem.lookup ?_ (by with_unfolding_all rfl)
  cases b with
  | false =>
    refine wpAny_getItem_list_slice ht.isList (Heap.IsSliceOf.new ..) pl pu pk (by simp) ?_ (by rw [List.size_toArray] <;> lia)
    rw [show (if false = true then (1 : Int) else -1) = -1 from rfl, PySem.W.krv_pick]
    refine ⟨.ref _, _, I5.laid (t' := s4.toks) (o := .lst xs.reverse) (fun b ob q => Heap.get?_push_of_some _ q) (Nat.le_refl _) ?_, rfl, q _ (I5.hok.fresh (Nat.le_refl _))⟩
    exact ⟨by rw [List.length_reverse]; exact hz, _, 0, vals_rev r, Heap.get?_push_size _ rfl⟩
  | true =>
    refine wpAny_getItem_list_slice ht.isList (Heap.IsSliceOf.new ..) pl pu pk (by simp) ?_ (by rw [List.size_toArray] <;> lia)
    rw [show (if true = true then (1 : Int) else -1) = 1 from rfl, pick_one]
    refine ⟨.ref _, _, I5.laid (t' := s4.toks) (o := .lst xs) (fun b ob q => Heap.get?_push_of_some _ q) (Nat.le_refl _) ?_, rfl, q _ (I5.hok.fresh (Nat.le_refl _))⟩
    exact ⟨hz, _, 0, r, Heap.get?_push_size _ rfl⟩
end
end L2

namespace Pf
open PySem L2
def top (i : Nat) : Stmt := PySem.Challenge.pw_onecurve_k26_changes_refused.main.body.getD i (.Pass ⟨0, 0, 0, 0⟩)
theorem exE1 {a1 : Type} {p : a1 → Prop} {G : Prop} (h : ∃ x1, p x1) (f : ∀ x1, p x1 → G) : G := Exists.elim h f
theorem exE2 {a1 a2 : Type} {p : a1 → a2 → Prop} {G : Prop} (h : ∃ x1 x2, p x1 x2) (f : ∀ x1 x2, p x1 x2 → G) : G := Exists.elim h fun x1 h => exE1 h (f x1)
theorem exE3 {a1 a2 a3 : Type} {p : a1 → a2 → a3 → Prop} {G : Prop} (h : ∃ x1 x2 x3, p x1 x2 x3) (f : ∀ x1 x2 x3, p x1 x2 x3 → G) : G := Exists.elim h fun x1 h => exE2 h (f x1)
theorem exE4 {a1 a2 a3 a4 : Type} {p : a1 → a2 → a3 → a4 → Prop} {G : Prop} (h : ∃ x1 x2 x3 x4, p x1 x2 x3 x4) (f : ∀ x1 x2 x3 x4, p x1 x2 x3 x4 → G) : G := Exists.elim h fun x1 h => exE3 h (f x1)
theorem anE2 {A1 A2 G : Prop} (h : A1 ∧ A2) (f : A1 → A2 → G) : G := f h.1 h.2
theorem anE3 {A1 A2 A3 G : Prop} (h : A1 ∧ A2 ∧ A3) (f : A1 → A2 → A3 → G) : G := anE2 h.2 (f h.1)
theorem anE4 {A1 A2 A3 A4 G : Prop} (h : A1 ∧ A2 ∧ A3 ∧ A4) (f : A1 → A2 → A3 → A4 → G) : G := anE3 h.2 (f h.1)
theorem anE5 {A1 A2 A3 A4 A5 G : Prop} (h : A1 ∧ A2 ∧ A3 ∧ A4 ∧ A5) (f : A1 → A2 → A3 → A4 → A5 → G) : G := anE4 h.2 (f h.1)
theorem anE6 {A1 A2 A3 A4 A5 A6 G : Prop} (h : A1 ∧ A2 ∧ A3 ∧ A4 ∧ A5 ∧ A6) (f : A1 → A2 → A3 → A4 → A5 → A6 → G) : G := anE5 h.2 (f h.1)
/-- the told numbers of a point, of points -/
def tellP (ps : List Rat) : List Told := (List.range (ps.length - 1)).map fun k : Nat => (⟨ps.getD 0 0, (k : Int), ps.getD (k + 1) 0⟩ : Told)
def tell (pss : List (List Rat)) : List Told := (pss.map tellP).flatten
theorem tellP_length (ps : List Rat) : (tellP ps).length = ps.length - 1 := by unfold tellP; rw [List.length_map, List.length_range]
theorem tell_snoc (pss : List (List Rat)) (ps : List Rat) : tell (pss ++ [ps]) = tell pss ++ tellP ps := by
  unfold tell
  rw [List.map_append, List.flatten_append]
  simp
theorem tell_length_le : ∀ pss : List (List Rat), (∀ ps ∈ pss, ps.length ≤ 3) → (tell pss).length ≤ 2 * pss.length
  | [], _ => Nat.le_refl _
  | p :: r, h => by
    have ih := tell_length_le r fun ps hp => h ps (List.mem_cons_of_mem _ hp)
    have hp := h p List.mem_cons_self
    have e : tell (p :: r) = tellP p ++ tell r := rfl
    rw [e, List.length_append, tellP_length, List.length_cons]
    lia
def P23 (pss : List (List Rat)) : Prop := ∀ ps ∈ pss, ps.length = 2 ∨ ps.length = 3
theorem P23.take {pss : List (List Rat)} (h : P23 pss) (i : Nat) : ∀ ps ∈ pss.take i, ps.length ≤ 3 := fun ps hp => by
  have := h ps (List.mem_of_mem_take hp); lia
theorem getD_some {l : List Rat} {i : Nat} (h : i < l.length) : l[i]? = some (l.getD i 0) := by rw [List.getD_eq_getElem?_getD, List.getElem?_eq_getElem h]; rfl

/-- how many are no less than x -/
def cnt (x : Rat) : List Rat → Nat
  | [] => 0
  | y :: r => (if x ≤ y then 1 else 0) + cnt x r
theorem cnt_le (x : Rat) : ∀ l, cnt x l ≤ l.length
  | [] => Nat.le_refl _
  | y :: r => by
    have := cnt_le x r
    show (if x ≤ y then 1 else 0) + cnt x r ≤ r.length + 1
    split <;> lia
theorem rat_up (x : Rat) : x ≤ x + 1 := by grind
theorem rat_no (x : Rat) : ¬ x + 1 ≤ x := by grind
theorem cnt_next (x : Rat) : ∀ l, cnt (x + 1) l ≤ cnt x l
  | [] => Nat.le_refl _
  | y :: r => by
    have := cnt_next x r
    show (if x + 1 ≤ y then 1 else 0) + cnt (x + 1) r ≤ (if x ≤ y then 1 else 0) + cnt x r
    by_cases h : x + 1 ≤ y
    · rw [if_pos h, if_pos (Rat.le_trans (rat_up x) h)]; lia
    · rw [if_neg h]; lia
theorem cnt_lt {x : Rat} : ∀ {l}, x ∈ l → cnt (x + 1) l < cnt x l
  | y :: r, h => by
    show (if x + 1 ≤ y then 1 else 0) + cnt (x + 1) r < (if x ≤ y then 1 else 0) + cnt x r
    rcases List.mem_cons.mp h with z | z
    · subst z
      have := cnt_next x r
      rw [if_neg (rat_no x), if_pos Rat.le_refl]; lia
    · have := cnt_lt z
      by_cases h : x + 1 ≤ y
      · rw [if_pos h, if_pos (Rat.le_trans (rat_up x) h)]; lia
      · rw [if_neg h]; lia
theorem rb_nat {j : Nat} (h : j ≤ 100) : RB 7 ((j : Nat) : Rat) := ⟨by rw [Rat.num_natCast]; unfold Bd; lia, by rw [Rat.den_natCast]; unfold Bd; decide⟩

inductive spPointsT (K : PySem.W.Frag) (n : Nat) (vs : List V) (H : Hp) (Q : VK) (E_3 : XK) : Prop
  | mk (a : Addr) (most : Int) (h1 : vs = [.ref a, .int most]) (h2 : Pen H a) (h3 : 1 ≤ most) (h4 : most ≤ 100) (h5 : ∀ (r : Addr) (H' : Hp) (xs : List V) (pss : List (List Rat)), Mv a H H' → Pen H' a → SqT K H' r xs → PtsT K H' xs pss → P23 pss → (∀ ps ∈ pss, ∀ q ∈ ps, RB (n + 8) q) → 1 ≤ pss.length → (pss.length : Int) ≤ most → ((tell pss).length : Int) ≤ most → (pss.map fun ps => ps.getD 0 0).Nodup → Q (.ref r) H') : spPointsT K n vs H Q E_3
inductive spToldT (K : PySem.W.Frag) (vs : List V) (H : Hp) (Q : VK) (E_3 : XK) : Prop
  | mk (r : Addr) (xs : List V) (pss : List (List Rat)) (h1 : vs = [.ref r]) (h2 : SqT K H r xs) (h3 : PtsT K H xs pss) (h4 : P23 pss) (h5 : pss.length ≤ 100) (h6 : ∀ (p : Addr) (H' : Hp) (ys : List V), Same H H' → H p = none → H' p = some (.lst ys) → TlsT K H' ys (tell pss) → Q (.ref p) H') : spToldT K vs H Q E_3
theorem tell_ge : ∀ {pss : List (List Rat)}, P23 pss → pss.length ≤ (tell pss).length
  | [], _ => Nat.le_refl _
  | p :: r, h => by
    have ih := tell_ge (pss := r) fun ps hp => h ps (List.mem_cons_of_mem _ hp)
    have hp := h p List.mem_cons_self
    have e : tell (p :: r) = tellP p ++ tell r := rfl
    rw [e, List.length_append, tellP_length, List.length_cons]
    lia

inductive spPtsOf (K : PySem.W.Frag) (vs : List V) (H : Hp) (Q : VK) (E_3 : XK) : Prop
  | mk (b : Bool) (r : Addr) (xs : List V) (pss : List (List Rat)) (h1 : vs = [.ref r]) (h2 : Sq b K H r xs) (h3 : PtsT K H xs pss) (h4 : P23 pss) (h5 : 1 ≤ pss.length) (h6 : (pss.map fun ps => ps.getD 0 0).Nodup) (h7 : (tell pss).length ≤ 12) (h8 : ∀ (p : Addr) (H' : Hp), Same H H' → SqT K H' p xs → (b = false → p = r) → Q (.ref p) H') : spPtsOf K vs H Q E_3
theorem Sq.len {b : Bool} {K : PySem.W.Frag} {H : Hp} {r : Addr} {xs : List V} (h : Sq b K H r xs) : SqL K H r xs ∨ SqT K H r xs := by
  cases b
  · exact .inr h
  · exact .inl h
inductive spUnlikeD (K : PySem.W.Frag) (vs : List V) (H : Hp) (Q : VK) (E_3 : XK) : Prop
  | mk (l : Addr) (ys : List V) (qs : List Rat) (h1 : vs = [.ref l]) (h2 : SqL K H l ys) (h3 : NumsT H ys qs) (h4 : qs.length ≤ 17) (h5 : ∀ H', Same H H' → Q (.bl (decide qs.Nodup)) H') : spUnlikeD K vs H Q E_3

/-- is it a whole number -/
inductive Wh (K : PySem.W.Frag) (H : Hp) : V → Bool → Prop where
  | int (i : Int) : Wh K H (.int i) true
  | bl (b : Bool) : Wh K H (.bl b) false
  | oth {x : V} {t : Value} (ty : TyX K H x t) (h : PySem.W.kitOne K t (.type "int") = some false) : Wh K H x false
/-- is it a number -/
inductive Nb (K : PySem.W.Frag) (H : Hp) : V → Bool → Prop where
  | no {x : V} {t : Value} (ty : TyX K H x t) (h : PySem.W.kitOne K t (.type "tuple") = some false) : Nb K H x false
  | len {a : Addr} {xs : List V} (h : SqT K H a xs) (hl : xs.length ≠ 2) : Nb K H (.ref a) false
  | one {a : Addr} {p q : V} (h : SqT K H a [p, q]) (w : Wh K H p false) : Nb K H (.ref a) false
  | two {a : Addr} {i : Int} {q : V} (h : SqT K H a [.int i, q]) (w : Wh K H q false) : Nb K H (.ref a) false
  | nums {a : Addr} {i j : Int} {b : Bool} (h : SqT K H a [.int i, .int j]) (e : b = (decide (1 ≤ j) && decide ((Int.gcd i j : Int) = 1))) : Nb K H (.ref a) b
/-- is it a point -/
inductive Pb (K : PySem.W.Frag) (H : Hp) : V → Bool → Prop where
  | no {x : V} {t : Value} (ty : TyX K H x t) (h : PySem.W.kitOne K t (.type "tuple") = some false) : Pb K H x false
  | len {a : Addr} {xs : List V} (h : SqT K H a xs) (h2 : xs.length ≠ 2) (h3 : xs.length ≠ 3) : Pb K H (.ref a) false
  | all {a : Addr} {xs : List V} {bs : List Bool} (h : SqT K H a xs) (h23 : xs.length = 2 ∨ xs.length = 3) (hb : Paired (Nb K H) xs bs) : Pb K H (.ref a) (bs.all id)
theorem TyX.same {K : PySem.W.Frag} {H H' : Hp} {x : V} {t : Value} (h : TyX K H x t) (e : Same H H') : TyX K H' x t := by
  cases h with
  | of ty => exact .of (by
      cases ty with
      | non => exact .non
      | bl x => exact .bl x
      | int i => exact .int i
      | str x => exact .str x
      | flt x => exact .flt x
      | lst q => exact .lst (e _ _ q)
      | frz q => exact .frz (e _ _ q)
      | tup q => exact .tup (e _ _ q)
      | dK q => exact .dK (e _ _ q)
      | dT q => exact .dT (e _ _ q)
      | ins q a b c d f => exact .ins (e _ _ q) a b c d f)
  | tup q => exact .tup (q.same e)
  | lst q => exact .lst (Same.seq e q)
theorem Wh.same {K : PySem.W.Frag} {H H' : Hp} {x : V} {b : Bool} (h : Wh K H x b) (e : Same H H') : Wh K H' x b := by
  cases h with
  | int i => exact .int i
  | bl b => exact .bl b
  | oth ty k => exact .oth (TyX.same ty e) k
theorem Nb.same {K : PySem.W.Frag} {H H' : Hp} {x : V} {b : Bool} (h : Nb K H x b) (e : Same H H') : Nb K H' x b := by
  cases h with
  | no ty k => exact .no (TyX.same ty e) k
  | len q l => exact .len (q.same e) l
  | one q w => exact .one (q.same e) (w.same e)
  | two q w => exact .two (q.same e) (w.same e)
  | nums q k => exact .nums (q.same e) k
theorem Pb.same {K : PySem.W.Frag} {H H' : Hp} {x : V} {b : Bool} (h : Pb K H x b) (e : Same H H') : Pb K H' x b := by
  cases h with
  | no ty k => exact .no (TyX.same ty e) k
  | len q l2 l3 => exact .len (q.same e) l2 l3
  | all q l hb => exact .all (q.same e) l (Paired.mapP hb fun _ _ z => z.same e)
theorem Nb.of {K : PySem.W.Frag} {H : Hp} {x : V} {q : Rat} (h : NumV K H x q) : Nb K H x true := by
  obtain ⟨r, rfl, hS⟩ := h
  refine .nums hS ?_
  have h1 : 1 ≤ (q.den : Int) := by have := q.den_pos; lia
  have h2 : (Int.gcd q.num (q.den : Int) : Int) = 1 := by
    have := q.reduced
    show ((Nat.gcd q.num.natAbs (q.den : Int).natAbs : Nat) : Int) = 1
    rw [Int.natAbs_natCast]
    exact_mod_cast this
  rw [decide_eq_true h1, decide_eq_true h2]
  rfl
theorem Nb.all {K : PySem.W.Frag} {H : Hp} {xs : List V} {qs : List Rat} (h : Nums K H xs qs) : Paired (Nb K H) xs (List.replicate qs.length true) := by
  induction h with
  | nil => exact .nil
  | cons a _ ih => exact .cons (Nb.of a) ih
theorem all_true (n : Nat) : (List.replicate n true).all id = true := by
  induction n with
  | zero => rfl
  | succ n ih => rw [List.replicate_succ, List.all_cons, ih]; rfl
theorem Pb.of {K : PySem.W.Frag} {H : Hp} {x : V} {ps : List Rat} (h : PtV K H x ps) (h23 : ps.length = 2 ∨ ps.length = 3) : Pb K H x true := by
  obtain ⟨a, rfl, xs, hS, hn⟩ := h
  have := Pb.all hS (by rw [hn.length]; exact h23) (Nb.all hn)
  rw [all_true] at this
  exact this
inductive spWhO (K : PySem.W.Frag) (vs : List V) (H : Hp) (Q : VK) (E_3 : XK) : Prop
  | mk (x : _) (b : _) (h1 : vs = [x]) (h2 : Wh K H x b) (h3 : Q (.bl b) H) : spWhO K vs H Q E_3
inductive spNbO (K : PySem.W.Frag) (vs : List V) (H : Hp) (Q : VK) (E_3 : XK) : Prop
  | mk (x : _) (b : _) (h1 : vs = [x]) (h2 : Nb K H x b) (h3 : Q (.bl b) H) : spNbO K vs H Q E_3
inductive spPbO (K : PySem.W.Frag) (vs : List V) (H : Hp) (Q : VK) (E_3 : XK) : Prop
  | mk (x : _) (b : _) (h1 : vs = [x]) (h2 : Pb K H x b) (h3 : ∀ H', Same H H' → Q (.bl b) H') : spPbO K vs H Q E_3

/-- what points_of refuses: with NoPoints -/
inductive BadPts (K : PySem.W.Frag) (H : Hp) : V → Prop where
  | no {x : V} {t : Value} (ty : TyP K H x t) (h : PySem.W.kitAny K t [.type "list", .type "tuple"] = some false) : BadPts K H x
  | nil {b : Bool} {r : Addr} (h : Sq b K H r []) : BadPts K H (.ref r)
  | pt {b : Bool} {r : Addr} {xs : List V} {bs : List Bool} (h : Sq b K H r xs) (hp : Paired (Pb K H) xs bs) (hb : bs.all id = false) (h17 : xs.length ≤ 17) : BadPts K H (.ref r)
  | twice {b : Bool} {r : Addr} {xs : List V} {pss : List (List Rat)} (h : Sq b K H r xs) (hp : PtsT K H xs pss) (h23 : P23 pss) (hnd : ¬ (pss.map fun ps => ps.getD 0 0).Nodup) (h17 : pss.length ≤ 17) : BadPts K H (.ref r)
/-- .. with TooMany -/
def ManyPts (K : PySem.W.Frag) (H : Hp) (x : V) : Prop := ∃ (b : Bool) (r : Addr) (xs : List V) (pss : List (List Rat)), x = .ref r ∧ Sq b K H r xs ∧ PtsT K H xs pss ∧ P23 pss ∧ 1 ≤ pss.length ∧ (pss.map fun ps => ps.getD 0 0).Nodup ∧ 12 < (tell pss).length ∧ pss.length ≤ 17
inductive spPtsX (K : PySem.W.Frag) (CP CM : Addr) (vs : List V) (H : Hp) (E_2 : VK) (E : XK) : Prop
  | mk (x : V) (h1 : vs = [x]) (h2 : ((BadPts K H x ∧ ∀ H', Same H H' → E (.ref CP) none H') ∨ (ManyPts K H x ∧ ∀ H', Same H H' → E (.ref CM) none H'))) : spPtsX K CP CM vs H E_2 E

theorem TyP.same {K : PySem.W.Frag} {H H' : Hp} {x : V} {t : Value} (h : TyP K H x t) (e : Same H H') : TyP K H' x t := by
  cases h with
  | non => exact .non
  | bl x => exact .bl x
  | int i => exact .int i
  | str x => exact .str x
  | lst q => exact .lst (Same.seq e q)
  | tup q => exact .tup (q.same e)
  | dK q => exact .dK (e _ _ q)
  | dT q => exact .dT (e _ _ q)
theorem pbs_of {K : PySem.W.Frag} {H : Hp} {xs : List V} {pss : List (List Rat)} (h : PtsT K H xs pss) (h23 : P23 pss) : Paired (Pb K H) xs (List.replicate pss.length true) := by
  induction h with
  | nil => exact .nil
  | cons a _ ih => exact .cons (Pb.of a.pt (h23 _ List.mem_cons_self)) (ih fun ps hp => h23 ps (List.mem_cons_of_mem _ hp))

theorem slice_to {K : PySem.W.Frag} {H : Hp} {r : Addr} {xs : List V} {v : Nat} {Q : VK} (hS : SqT K H r xs) (hv : v ≤ xs.length) (h : ∀ (p : Addr) (H' : Hp), Same H H' → SqT K H' p (xs.take v) → Q (.ref p) H') : rSlTA K (.ref r) none (some (v : Int)) H Q := by
  by_cases e : v = xs.length
  · refine .inr ⟨r, xs, rfl, hS, ⟨rfl, by rw [HT.sIx_nat]; lia⟩, h r H (Same.refl _) ?_⟩
    rw [List.take_of_length_le (by lia)]; exact hS
  · refine .inl ⟨r, xs, rfl, hS, by rw [HT.sIx_nat]; lia, fun p hp => ?_⟩
    rw [cut_to]
    exact h p _ (Same.new hp) (SqT.of upd_same)
theorem slice_from {K : PySem.W.Frag} {H : Hp} {r : Addr} {xs : List V} {v : Nat} {Q : VK} (hS : SqT K H r xs) (hv : v ≤ xs.length) (h : ∀ (p : Addr) (H' : Hp), Same H H' → SqT K H' p (xs.drop v) → Q (.ref p) H') : rSlTA K (.ref r) (some (v : Int)) none H Q := by
  by_cases e : v = 0
  · subst e
    refine .inr ⟨r, xs, rfl, hS, ⟨by rw [HT.sIx_nat]; lia, rfl⟩, h r H (Same.refl _) ?_⟩
    rw [List.drop_zero]; exact hS
  · by_cases e0 : xs.length = 0
    · lia
    · refine .inl ⟨r, xs, rfl, hS, by rw [HT.sIx_nat]; lia, fun p hp => ?_⟩
      rw [cut_from]
      exact h p _ (Same.new hp) (SqT.of upd_same)
theorem cat_pts {K : PySem.W.Frag} {H : Hp} {a b : Addr} {xs ys : List V} {Q : VK} (ha : SqT K H a xs) (hb : SqT K H b ys) (hl : xs.length + ys.length ≤ sizeLine) (h : ∀ (p : Addr) (H' : Hp), Same H H' → SqT K H' p (xs ++ ys) → Q (.ref p) H') : rCatTA K (.ref a) (.ref b) H Q := by
  by_cases ex : xs = []
  · subst ex
    exact .inr ⟨a, b, ys, rfl, rfl, ha, hb, h b H (Same.refl _) hb⟩
  · refine .inl ⟨a, b, xs, ys, rfl, rfl, ha, hb, ex, hl, fun ey => ?_, fun _ p hp => h p _ (Same.new hp) (SqT.of upd_same)⟩
    subst ey
    exact h a H (Same.refl _) (by rw [List.append_nil]; exact ha)
theorem paired_drop {α β : Type} {F : α → β → Prop} : ∀ {l₁ : List α} {l₂ : List β} (i : Nat), Paired F l₁ l₂ → Paired F (l₁.drop i) (l₂.drop i)
  | _, _, i, .nil => by rw [List.drop_nil, List.drop_nil]; exact .nil
  | _, _, 0, .cons h t => .cons h t
  | _, _, i + 1, .cons _ t => paired_drop i t

theorem lc_filtT {K : PySem.W.Frag} {a : Addr} {js : List Nat} {xs : List V} {tc : TT} {te : TE} {σ : St} {H : Hp} {Fin : List V → Hp → Prop} (Pv : Nat → List V → Hp → Prop) (h0 : Pv 0 [] H)
    (hl : ∀ i zs H, i ≤ xs.length → Pv i zs H → SqT K H a xs ∧ zs.length ≤ i) (hz : xs.length ≤ sizeLine)
    (hs : ∀ i x zs H, xs[i]? = some x → Pv i zs H → tc ((cS 1 js σ).set 0 (some x)) H fun b H3 => if b = true then te ((cS 1 js σ).set 0 (some x)) H3 fun y H4 => Pv (i + 1) (zs ++ [y]) H4 else Pv (i + 1) zs H3) (fin : ∀ zs H', Pv xs.length zs H' → Fin zs H') :
    ∃ (n' : Nat) (W : Nat → List V → Hp → Prop), W 0 [] H ∧ LcW (Itt K a) n' 1 js σ (gName 0) tc te Fin W := by
  refine ⟨xs.length, Pv, h0, ⟨?_, ?_, ?_⟩⟩
  · intro i zs H' hi p
    obtain ⟨h1, h2⟩ := hl i zs H' (Nat.le_of_lt hi) p
    exact ⟨⟨xs, xs[i], h1, by simp [hi]⟩, by lia⟩
  · rintro i zs H' x H1 hi p ⟨rfl, y⟩
    exact hs i x zs _ (y xs (hl i zs _ (Nat.le_of_lt hi) p).1) p
  · intro zs H' p
    obtain ⟨h1, h2⟩ := hl _ zs H' (Nat.le_refl _) p
    exact ⟨⟨xs, h1, Nat.le_refl _⟩, by lia, fin zs H' p⟩
theorem paired_set {α β : Type} {F : α → β → Prop} : ∀ {l₁ : List α} {l₂ : List β} (i : Nat) {x : α} {y : β}, Paired F l₁ l₂ → F x y → Paired F (l₁.set i x) (l₂.set i y)
  | _, _, _, _, _, .nil, _ => .nil
  | _, _, 0, _, _, .cons _ t, h => .cons h t
  | _, _, i + 1, _, _, .cons g t, h => .cons g (paired_set i t h)
theorem p23_set {pss : List (List Rat)} {m : Nat} {ps : List Rat} (h : P23 pss) (h2 : ps.length = 2 ∨ ps.length = 3) : P23 (pss.set m ps) := fun qs hq => by
  rcases List.mem_or_eq_of_mem_set hq with z | z
  · exact h qs z
  · subst z; exact h2
theorem nd_set {pss : List (List Rat)} {m : Nat} {ps qs : List Rat} (h : pss[m]? = some ps) (he : qs.getD 0 0 = ps.getD 0 0) (hnd : (pss.map fun ps => ps.getD 0 0).Nodup) : ((pss.set m qs).map fun ps => ps.getD 0 0).Nodup := by
  rw [List.map_set, he]
  have e : (pss.map fun ps => ps.getD 0 0)[m]? = some (ps.getD 0 0) := by rw [List.getElem?_map, h]; rfl
  obtain ⟨hm, e⟩ := List.getElem?_eq_some_iff.mp e
  rw [← e, List.set_getElem_self]
  exact hnd
/-- unlike places, so one point each -/
theorem nd_inj {pss : List (List Rat)} {i j : Nat} {ps qs : List Rat} (hnd : (pss.map fun ps => ps.getD 0 0).Nodup) (h1 : pss[i]? = some ps) (h2 : pss[j]? = some qs) (he : ps.getD 0 0 = qs.getD 0 0) : i = j := by
  have g1 : (pss.map fun ps => ps.getD 0 0)[i]? = some (ps.getD 0 0) := by rw [List.getElem?_map, h1]; rfl
  have g2 : (pss.map fun ps => ps.getD 0 0)[j]? = some (ps.getD 0 0) := by rw [List.getElem?_map, h2, he]; rfl
  obtain ⟨b1, g1⟩ := List.getElem?_eq_some_iff.mp g1
  obtain ⟨b2, g2⟩ := List.getElem?_eq_some_iff.mp g2
  rcases Nat.lt_trichotomy i j with z | z | z
  · exact absurd (g1.trans g2.symm) (List.pairwise_iff_getElem.mp hnd i j b1 b2 z)
  · exact z
  · exact absurd (g2.trans g1.symm) (List.pairwise_iff_getElem.mp hnd j i b2 b1 z)
theorem pt_cut {K : PySem.W.Frag} {H : Hp} {us : List V} {ps : List Rat} {t p : Addr} (n : Nat) (hS : SqT K H t (us.take (n + 1))) (hn : Nums K H us ps) (h0 : us[0]? = some (.ref p)) (hp : H p = some (nT (ps.getD 0 0))) : PtT K H (.ref t) (ps.take (n + 1)) := by
  refine ⟨t, _, p, rfl, hS, Paired.take _ hn, ?_, ?_⟩
  · rw [List.getElem?_take, if_pos (by lia)]; exact h0
  · cases ps with
    | nil => exact hp
    | cons a r => exact hp

abbrev Ms := Rat × Int
def MsV (K : PySem.W.Frag) (H : Hp) (v : V) (t : Ms) : Prop := ∃ a rx, v = .ref a ∧ SqT K H a [rx, .int t.2] ∧ NumV K H rx t.1
abbrev Mss (K : PySem.W.Frag) (H : Hp) : List V → List Ms → Prop := Paired (MsV K H)
theorem msv_same {K : PySem.W.Frag} {H H' : Hp} {x : V} {t : Ms} (h : MsV K H x t) (e : Same H H') : MsV K H' x t := let ⟨a, rx, h1, h2, h3⟩ := h; ⟨a, rx, h1, h2.same e, h3.same e⟩
theorem mss_same {K : PySem.W.Frag} {H H' : Hp} {xs : List V} {ts : List Ms} (h : Mss K H xs ts) (e : Same H H') : Mss K H' xs ts := Paired.mapP h fun _ _ z => msv_same z e
def mD (t : Ms) : PyData := .tuple [nD t.1, .int t.2]
theorem msv_rds {K : PySem.W.Frag} {H : Hp} {v : V} {t : Ms} (h : MsV K H v t) : Rds K H v (mD t) := by
  obtain ⟨a, rx, rfl, h2, h3⟩ := h
  refine .tup h2 rfl fun i x d e1 e2 => ?_
  match i with
  | 0 => simp at e1 e2; subst e1; subst e2; exact h3.rds
  | 1 => simp at e1 e2; subst e1; subst e2; exact .int _
  | i + 2 => simp at e1
theorem mDs_lay : ∀ qs : List Ms, PyData.canLayAll0 (qs.map mD) = true
  | [] => rfl
  | q :: r => by
    show (PyData.canLay0 (mD q) && PyData.canLayAll0 (r.map mD)) = true
    rw [mDs_lay r]; rfl
theorem mDs_depth : ∀ qs : List Ms, PyData.depthAll (qs.map mD) ≤ 2
  | [] => Nat.zero_le _
  | q :: r => by
    have ih := mDs_depth r
    show max (PyData.depth (mD q)) (PyData.depthAll (r.map mD)) ≤ 2
    exact Nat.max_le.mpr ⟨Nat.le_refl _, ih⟩
theorem mDs_shL (qs : List Ms) : SeqAt.shaped (.list (qs.map mD)) = true := by
  show (PyData.canLayAll0 (qs.map mD) && decide (PyData.depthAll (qs.map mD) + 1 ≤ 64)) = true
  rw [mDs_lay, Bool.true_and]
  exact decide_eq_true (by have := mDs_depth qs; lia)

theorem mD_eqv (a b : Ms) : PyData.eqv (mD a) (mD b) = decide (a = b) := by
  show (PyData.eqv (nD a.1) (nD b.1) && ((a.2 == b.2) && true)) = _
  rw [nD_eqv, Bool.and_true, Bool.eq_iff_iff]
  simp [Prod.ext_iff]
theorem any_mD (q : Ms) : ∀ qs : List Ms, ((qs.map mD).any fun y => PyData.eqv y (mD q)) = decide (q ∈ qs)
  | [] => by simp
  | c :: r => by
    rw [List.map_cons, List.any_cons, mD_eqv, any_mD q r, Bool.eq_iff_iff]
    simp only [Bool.or_eq_true, decide_eq_true_eq, List.mem_cons]
    constructor
    · rintro (h | h)
      · exact .inl h.symm
      · exact .inr h
    · rintro (h | h)
      · exact .inl h.symm
      · exact .inr h
theorem mD_shaped (q : Ms) : SeqAt.shaped (mD q) = true := rfl
theorem inM {K : PySem.W.Frag} {H : Hp} {x : V} {a : Addr} {xs : List V} {q : Ms} {qs : List Ms} {Q : VK} {neg : Bool} (h1 : MsV K H x q) (s2 : SqL K H a xs) (n2 : Mss K H xs qs) (h : Q (.bl (if neg then !decide (q ∈ qs) else decide (q ∈ qs))) H) : rInD K neg x (.ref a) H Q := by
  have rd : ∀ (i : Nat) x d, xs[i]? = some x → (qs.map mD)[i]? = some d → Rds K H x d := fun i x d e1 e2 => by
    obtain ⟨q, hq, hn⟩ := Paired.get n2 e1
    rw [List.getElem?_map, hq] at e2
    cases e2
    exact msv_rds hn
  exact inD_of ⟨a, _, _, rfl, .lst s2 (by rw [n2.length, List.length_map]) rd, msv_rds h1, mDs_shL _, mD_shaped _, by rw [any_mD]; exact h⟩

def clsOf3 (m p t : Addr) : Nat → Addr
  | 0 => m
  | 1 => p
  | _ => t
/-- points as they should be -/
structure Pok (K : PySem.W.Frag) (H : Hp) (r : Addr) (xs : List V) (pss : List (List Rat)) : Prop where
  S : SqT K H r xs
  P : PtsT K H xs pss
  h23 : P23 pss
  h1 : 1 ≤ pss.length
  nd : (pss.map fun ps => ps.getD 0 0).Nodup
  h12 : (tell pss).length ≤ 12
theorem Pok.same {K : PySem.W.Frag} {H H' : Hp} {r : Addr} {xs : List V} {pss : List (List Rat)} (h : Pok K H r xs pss) (e : Same H H') : Pok K H' r xs pss := ⟨h.S.same e, PtsT.same h.P e, h.h23, h.h1, h.nd, h.h12⟩
theorem Pok.mv {K : PySem.W.Frag} {p : Addr} {H H' : Hp} {r : Addr} {xs : List V} {pss : List (List Rat)} (h : Pok K H r xs pss) (pn : Pen H p) (m : Mv p H H') : Pok K H' r xs pss := ⟨h.S.mv pn m, PtsT.mv h.P pn m, h.h23, h.h1, h.nd, h.h12⟩
theorem Pok.len {K : PySem.W.Frag} {H : Hp} {r : Addr} {xs : List V} {pss : List (List Rat)} (h : Pok K H r xs pss) : pss.length ≤ 12 := Nat.le_trans (tell_ge h.h23) h.h12
/-- what comes of one more, put in -/
inductive NewR (K : PySem.W.Frag) (H : Hp) (pss : List (List Rat)) : V → Nat → Prop where
  | pt {y : V} (h : Pb K H y false) : NewR K H pss y 1
  | twice {y : V} {ps : List Rat} (h : PtT K H y ps) (h23 : ps.length = 2 ∨ ps.length = 3) (hm : ps.getD 0 0 ∈ pss.map fun ps => ps.getD 0 0) : NewR K H pss y 1
  | many {y : V} {ps : List Rat} (h : PtT K H y ps) (h23 : ps.length = 2 ∨ ps.length = 3) (hm : ps.getD 0 0 ∉ pss.map fun ps => ps.getD 0 0) (ht : 12 < (tell (pss ++ [ps])).length) : NewR K H pss y 0
theorem NewR.same {K : PySem.W.Frag} {H H' : Hp} {pss : List (List Rat)} {y : V} {n : Nat} (h : NewR K H pss y n) (e : Same H H') : NewR K H' pss y n := by
  cases h with
  | pt h => exact .pt (h.same e)
  | twice h a b => exact .twice (h.same e) a b
  | many h a b c => exact .many (h.same e) a b c
theorem p23_snoc {pss : List (List Rat)} {ps : List Rat} (h : P23 pss) (h2 : ps.length = 2 ∨ ps.length = 3) : P23 (pss ++ [ps]) := fun qs hq => by
  rcases List.mem_append.mp hq with z | z
  · exact h qs z
  · rw [List.mem_singleton.mp z]; exact h2
theorem put_bad {K : PySem.W.Frag} {H : Hp} {r l : Addr} {xs : List V} {pss : List (List Rat)} {y : V} {n : Nat} (h : Pok K H r xs pss) (hy : NewR K H pss y n) (hS : Sq true K H l (xs ++ [y])) : n = 1 ∧ BadPts K H (.ref l) ∨ n = 0 ∧ ManyPts K H (.ref l) := by
  have hl := h.len
  have hxl := h.P.length
  cases hy with
  | pt hb =>
    refine .inl ⟨rfl, .pt hS (Paired.append (pbs_of h.P h.h23) (.cons hb .nil)) ?_ (by rw [List.length_append, List.length_singleton]; lia)⟩
    rw [List.all_append]
    show (_ && (false && true)) = false
    rw [Bool.false_and, Bool.and_false]
  | @twice ps hp h2 hm =>
    refine .inl ⟨rfl, .twice hS (Paired.snoc h.P hp) (p23_snoc h.h23 h2) (fun hn => ?_) (by rw [List.length_append, List.length_singleton]; lia)⟩
    rw [List.map_append, List.nodup_append] at hn
    exact hn.2.2 _ hm _ (List.mem_cons_self ..) rfl
  | @many ps hp h2 hm ht =>
    refine .inr ⟨rfl, true, l, _, _, rfl, hS, Paired.snoc h.P hp, p23_snoc h.h23 h2, by rw [List.length_append, List.length_singleton]; lia, ?_, ht, by rw [List.length_append, List.length_singleton]; lia⟩
    rw [List.map_append, List.nodup_append]
    refine ⟨h.nd, List.pairwise_singleton .., fun a ha b hb e => ?_⟩
    rw [List.map_singleton, List.mem_singleton] at hb
    exact hm (by rw [← hb, ← e]; exact ha)
inductive spPutX (K : PySem.W.Frag) (cl : Nat → Addr) (vs : List V) (H : Hp) (E_2 : VK) (E : XK) : Prop
  | mk (r : Addr) (y : V) (xs : List V) (pss : List (List Rat)) (n : Nat) (h1 : vs = [.ref r, y]) (h2 : Pok K H r xs pss) (h3 : NewR K H pss y n) (h4 : ∀ H', Same H H' → E (.ref (cl n)) none H') : spPutX K cl vs H E_2 E
inductive spPtAtX (K : PySem.W.Frag) (cl : Nat → Addr) (vs : List V) (H : Hp) (Q : VK) (E : XK) : Prop
  | mk (r : Addr) (x : V) (xs : List V) (pss : List (List Rat)) (q : Rat) (h1 : vs = [.ref r, x]) (h2 : Pok K H r xs pss) (h3 : NumV K H x q) (h4 : ((q ∉ (pss.map fun ps => ps.getD 0 0) ∧ E (.ref (cl 2)) none H) ∨ (∃ (m : Nat) (ps : List Rat) (v : V), pss[m]? = some ps ∧ xs[m]? = some v ∧ ps.getD 0 0 = q ∧ Q v H))) : spPtAtX K cl vs H Q E
/-- what comes of a point taken out -/
def TkR (pss : List (List Rat)) (q : Rat) (n : Nat) : Prop := (n = 2 ∧ q ∉ pss.map fun ps => ps.getD 0 0) ∨ (n = 1 ∧ pss.length = 1 ∧ q ∈ pss.map fun ps => ps.getD 0 0)
inductive spTakenX (K : PySem.W.Frag) (cl : Nat → Addr) (vs : List V) (H : Hp) (E_2 : VK) (E : XK) : Prop
  | mk (r : Addr) (x : V) (xs : List V) (pss : List (List Rat)) (q : Rat) (n : Nat) (h1 : vs = [.ref r, x]) (h2 : Pok K H r xs pss) (h3 : NumV K H x q) (h4 : TkR pss q n) (h5 : E (.ref (cl n)) none H) : spTakenX K cl vs H E_2 E
theorem place_at {pss : List (List Rat)} {q : Rat} (h : q ∈ pss.map fun ps => ps.getD 0 0) : ∃ (m : Nat) (ps : List Rat), pss[m]? = some ps ∧ ps.getD 0 0 = q := by
  obtain ⟨ps, hm, e⟩ := List.mem_map.mp h
  obtain ⟨m, hm, e2⟩ := List.getElem_of_mem hm
  exact ⟨m, ps, by rw [List.getElem?_eq_getElem hm, e2], e⟩
/-- what comes of a point put in another's stead -/
inductive RepR (K : PySem.W.Frag) (H : Hp) (pss : List (List Rat)) (m : Nat) (ps : List Rat) : V → Nat → Prop where
  | pt {y : V} (h : Pb K H y false) : RepR K H pss m ps y 1
  | many {y : V} {qs : List Rat} (h : PtT K H y qs) (h0 : qs.getD 0 0 = ps.getD 0 0) (h23 : qs.length = 2 ∨ qs.length = 3) (ht : 12 < (tell (pss.set m qs)).length) : RepR K H pss m ps y 0
theorem RepR.same {K : PySem.W.Frag} {H H' : Hp} {pss : List (List Rat)} {m : Nat} {ps : List Rat} {y : V} {n : Nat} (h : RepR K H pss m ps y n) (e : Same H H') : RepR K H' pss m ps y n := by
  cases h with
  | pt h => exact .pt (h.same e)
  | many h a b c => exact .many (h.same e) a b c
theorem rep_bad {K : PySem.W.Frag} {H : Hp} {r l : Addr} {xs : List V} {pss : List (List Rat)} {m : Nat} {ps : List Rat} {y : V} {n : Nat} (h : Pok K H r xs pss) (hm : pss[m]? = some ps) (hy : RepR K H pss m ps y n) (hS : Sq true K H l (xs.set m y)) : n = 1 ∧ BadPts K H (.ref l) ∨ n = 0 ∧ ManyPts K H (.ref l) := by
  have hl := h.len
  have hxl := h.P.length
  have hml := (List.getElem?_eq_some_iff.mp hm).1
  cases hy with
  | pt hb =>
    refine .inl ⟨rfl, .pt hS (paired_set m (pbs_of h.P h.h23) hb) ?_ (by rw [List.length_set]; lia)⟩
    rw [List.all_eq_false]
    exact ⟨false, List.mem_set (by rw [List.length_replicate]; exact hml) _, by decide⟩
  | @many qs hp h0 h2 ht =>
    exact .inr ⟨rfl, true, l, _, _, rfl, hS, paired_set m h.P hp, p23_set h.h23 h2, by rw [List.length_set]; exact h.h1, nd_set hm h0 h.nd, ht, by rw [List.length_set]; lia⟩
inductive spReplX (K : PySem.W.Frag) (cl : Nat → Addr) (vs : List V) (H : Hp) (Q : VK) (E : XK) : Prop
  | mk (r : Addr) (v y : V) (xs : List V) (pss : List (List Rat)) (m : Nat) (ps : List Rat) (h1 : vs = [.ref r, v, y]) (h2 : Pok K H r xs pss) (h3 : pss[m]? = some ps) (h4 : xs[m]? = some v) (h5 : ((∃ n, RepR K H pss m ps y n ∧ ∀ H', Same H H' → E (.ref (cl n)) none H') ∨ (∃ qs, PtT K H y qs ∧ qs.getD 0 0 = ps.getD 0 0 ∧ (qs.length = 2 ∨ qs.length = 3) ∧ (tell (pss.set m qs)).length ≤ 12 ∧ ∀ v' H', Same H H' → Q v' H'))) : spReplX K cl vs H Q E
/-- what comes of another height -/
def HtR (K : PySem.W.Frag) (H : Hp) (pss : List (List Rat)) (q : Rat) (y : V) (n : Nat) : Prop := (n = 2 ∧ q ∉ pss.map fun ps => ps.getD 0 0) ∨ (n = 1 ∧ (q ∈ pss.map fun ps => ps.getD 0 0) ∧ Nb K H y false)
inductive spWithHX (K : PySem.W.Frag) (cl : Nat → Addr) (vs : List V) (H : Hp) (E_2 : VK) (E : XK) : Prop
  | mk (r : Addr) (x y : V) (xs : List V) (pss : List (List Rat)) (q : Rat) (n : Nat) (h1 : vs = [.ref r, x, y]) (h2 : Pok K H r xs pss) (h3 : NumT H x q) (h4 : HtR K H pss q y n) (h5 : ∀ H', Same H H' → E (.ref (cl n)) none H') : spWithHX K cl vs H E_2 E
/-- what comes of another slope -/
inductive SlR26 (K : PySem.W.Frag) (H : Hp) (pss : List (List Rat)) (q : Rat) : V → Nat → Prop where
  | far {s : V} (h : q ∉ pss.map fun ps => ps.getD 0 0) : SlR26 K H pss q s 2
  | odd {s : V} (h : q ∈ pss.map fun ps => ps.getD 0 0) (hs : Nb K H s false) (hn : s ≠ .non) : SlR26 K H pss q s 1
  | many {s : V} {c : Rat} {m : Nat} {ps : List Rat} (hm : pss[m]? = some ps) (hq : ps.getD 0 0 = q) (hs : NumV K H s c) (ht : 12 < (tell (pss.set m (ps.take 2 ++ [c]))).length) : SlR26 K H pss q s 0
inductive spWithSX (K : PySem.W.Frag) (cl : Nat → Addr) (vs : List V) (H : Hp) (Q : VK) (E : XK) : Prop
  | mk (r : Addr) (x s : V) (xs : List V) (pss : List (List Rat)) (q : Rat) (h1 : vs = [.ref r, x, s]) (h2 : Pok K H r xs pss) (h3 : NumT H x q) (h4 : ((∃ n, SlR26 K H pss q s n ∧ ∀ H', Same H H' → E (.ref (cl n)) none H') ∨ (s = .non ∧ (q ∈ pss.map fun ps => ps.getD 0 0) ∧ ∀ v' H', Same H H' → Q v' H'))) : spWithSX K cl vs H Q E
inductive spGainX (K : PySem.W.Frag) (cl : Nat → Addr) (vs : List V) (H : Hp) (E_2 : VK) (E : XK) : Prop
  | mk (r : Addr) (x z : V) (xs : List V) (pss : List (List Rat)) (q : Rat) (k : Int) (h1 : vs = [.ref r, x, .int k, z]) (h2 : Pok K H r xs pss) (h3 : NumT H x q) (h4 : (q, k) ∉ ((tell pss).map fun t => (t.x, t.k))) (h5 : ∀ H', Same H H' → E (.ref (cl 2)) none H') : spGainX K cl vs H E_2 E

theorem tell_cut {pss : List (List Rat)} {m : Nat} {ps : List Rat} (hm : pss[m]? = some ps) (hps : ps.length = 2 ∨ ps.length = 3) : (tell (pss.set m (ps.take 2))).length ≤ (tell pss).length := by
  induction pss generalizing m with
  | nil => cases hm
  | cons p r ih =>
    cases m with
    | zero =>
      cases hm
      have e : tell ((ps :: r).set 0 (ps.take 2)) = tellP (ps.take 2) ++ tell r := rfl
      have e2 : tell (ps :: r) = tellP ps ++ tell r := rfl
      rw [e, e2, List.length_append, List.length_append, tellP_length, tellP_length, List.length_take]; lia
    | succ m =>
      have e : tell ((p :: r).set (m + 1) (ps.take 2)) = tellP p ++ tell (r.set m (ps.take 2)) := rfl
      have e2 : tell (p :: r) = tellP p ++ tell r := rfl
      have := ih (m := m) hm
      rw [e, e2, List.length_append, List.length_append]; lia

/-- what comes of each way -/
inductive Rf (K : PySem.W.Frag) (H : Hp) (pss : List (List Rat)) : Int → V → V → Nat → Prop where
  | put {x y : V} {n : Nat} (h : NewR K H pss y n) : Rf K H pss 0 x y n
  | out {x y : V} {q : Rat} {n : Nat} (hx : NumT H x q) (h : TkR pss q n) : Rf K H pss 1 x y n
  | hgt {x y : V} {q : Rat} {n : Nat} (hx : NumT H x q) (h : HtR K H pss q y n) : Rf K H pss 2 x y n
  | slo {x y : V} {q : Rat} {n : Nat} (hx : NumT H x q) (h : SlR26 K H pss q y n) : Rf K H pss 3 x y n
  | gain {x : V} {q : Rat} {k : Int} (hx : NumT H x q) (h : (q, k) ∉ ((tell pss).map fun t => (t.x, t.k))) : Rf K H pss 4 x (.int k) 2
  | loss {x y : V} {q : Rat} {n : Nat} (hx : NumT H x q) (h : TkR pss q n) : Rf K H pss 5 x y n
  | new {x y : V} {n : Nat} (h : NewR K H pss y n) : Rf K H pss 6 x y n
inductive spDoneX (K : PySem.W.Frag) (cl : Nat → Addr) (vs : List V) (H : Hp) (Q : VK) (E : XK) : Prop
  | mk (w : Int) (r : Addr) (x y : V) (xs : List V) (pss : List (List Rat)) (h1 : vs = [.int w, .ref r, x, y]) (h2 : Pok K H r xs pss) (h3 : ((∃ n, Rf K H pss w x y n ∧ ∀ H', Same H H' → E (.ref (cl n)) none H') ∨ (w = 3 ∧ y = .non ∧ (∃ q, NumT H x q ∧ q ∈ pss.map fun ps => ps.getD 0 0) ∧ ∀ H', Same H H' → Q .non H'))) : spDoneX K cl vs H Q E
def wd3 : Nat → String
  | 0 => "many"
  | 1 => "points"
  | _ => "point"
inductive spTold26 (K : PySem.W.Frag) (vs : List V) (H : Hp) (Q : VK) (E_3 : XK) : Prop
  | mk (w : Int) (r : Addr) (x y : V) (xs : List V) (pss : List (List Rat)) (h1 : vs = [.int w, .ref r, x, y]) (h2 : Pok K H r xs pss) (h3 : ((∃ n, Rf K H pss w x y n ∧ ∀ H', Same H H' → Q (.str (wd3 n)) H') ∨ (w = 3 ∧ y = .non ∧ (∃ q, NumT H x q ∧ q ∈ pss.map fun ps => ps.getD 0 0) ∧ ∀ H', Same H H' → Q .non H'))) : spTold26 K vs H Q E_3

/-- what holds whatever the pen does -/
def Kp (p : Addr) (H : Hp) (G : Hp → Prop) : Prop := ∀ H', Mv p H H' → G H'
theorem Kp.mv {p : Addr} {H H1 : Hp} {G : Hp → Prop} (h : Kp p H G) (e : Mv p H H1) : Kp p H1 G := fun _ m => h _ (Mv.trans e m)
theorem Kp.same {p : Addr} {H H1 : Hp} {G : Hp → Prop} (h : Kp p H G) (e : Same H H1) : Kp p H1 G := h.mv fun b o _ q => e b o q
theorem Kp.now {p : Addr} {H : Hp} {G : Hp → Prop} (h : Kp p H G) : G H := h _ (Mv.refl _ _)
theorem kps_same {F : Hp → V → Prop} {p : Addr} {H H' : Hp} {xs : List V} (h : ∀ y ∈ xs, Kp p H fun G => F G y) (e : Same H H') : ∀ y ∈ xs, Kp p H' fun G => F G y := fun y hy => (h y hy).same e
theorem kps_snoc {F : Hp → V → Prop} {p : Addr} {H : Hp} {xs : List V} {x : V} (h : ∀ y ∈ xs, Kp p H fun G => F G y) (hx : Kp p H fun G => F G x) : ∀ y ∈ xs ++ [x], Kp p H fun G => F G y := fun y hy => by
  rcases List.mem_append.mp hy with z | z
  · exact h y z
  · rw [List.mem_singleton.mp z]; exact hx
theorem at_any {xs : List V} {i : Int} (h0 : 0 ≤ i) (h : i < (xs.length : Int)) : ∃ x, atI xs i = some x ∧ x ∈ xs := by
  have hk : i.toNat < xs.length := by lia
  have e : ((i.toNat : Nat) : Int) = i := by lia
  have q : atI xs ((i.toNat : Nat) : Int) = some xs[i.toNat] := atI_nat (List.getElem?_eq_getElem hk)
  rw [e] at q
  exact ⟨_, q, List.getElem_mem hk⟩
theorem at_menuK {F : Hp → V → Prop} {p : Addr} {H : Hp} {xs : List V} {i : Int} {n : Nat} (_ : ∀ y ∈ xs, Kp p H fun G => F G y) (hl : xs.length = n) (h0 : 0 ≤ i) (h : i < (n : Int)) : ∃ x, atI xs i = some x ∧ x ∈ xs := at_any h0 (by lia)
theorem nT_i26 (k : Int) : nT ((k : Int) : Rat) = .tup [.int k, .int 1] := by
  unfold nT
  rw [Rat.num_intCast, Rat.den_intCast]
  rfl
theorem rat_lt40 {q : Rat} (h : Bd 40 q.num) : q < 1099511627776 ∧ -1099511627776 < q := by
  have hd : (1 : Int) ≤ q.den := by have := q.den_pos; lia
  have hn : q.num < 1099511627776 ∧ -1099511627776 < q.num := by unfold Bd at h; lia
  have e1 : ((1099511627776 : Int) : Rat) = 1099511627776 := rfl
  have e2 : ((-1099511627776 : Int) : Rat) = -1099511627776 := rfl
  refine ⟨?_, ?_⟩
  · rw [← e1, Rat.lt_iff, Rat.num_intCast, Rat.den_intCast]
    show q.num * 1 < 1099511627776 * (q.den : Int)
    lia
  · rw [← e2, Rat.lt_iff, Rat.num_intCast, Rat.den_intCast]
    show -1099511627776 * (q.den : Int) < q.num * 1
    lia
theorem lt_up40 {x0 x : Rat} {j : Nat} (bn : Bd 40 x0.num) (hx : x = x0 + (j : Rat)) (hj : j ≤ 100) : x < 1100000000000 := by
  have h1 := (rat_lt40 bn).1
  have h2 : (j : Rat) ≤ ((100 : Nat) : Rat) := Rat.natCast_le_natCast.mpr hj
  have h3 : ((100 : Nat) : Rat) = 100 := rfl
  rw [h3] at h2
  rw [hx]
  grind
inductive spPlacesV (K : PySem.W.Frag) (vs : List V) (H : Hp) (Q : VK) (E_3 : XK) : Prop
  | mk (a : Addr) (m : Int) (h1 : vs = [.ref a, .int m]) (h2 : Pen H a) (h3 : 0 ≤ m) (h4 : m ≤ 100) (h5 : ∀ (l : Addr) (H' : Hp) (zs : List V) (qs : List Rat), Mv a H H' → Pen H' a → H l = none → H' l = some (.lst zs) → NumsT H' zs qs → (qs.length : Int) = m → qs.Nodup → (∀ q ∈ qs, RB (40 + 8) q ∧ q < 1100000000000) → Q (.ref l) H') : spPlacesV K vs H Q E_3

inductive spNoPt (K : PySem.W.Frag) (vs : List V) (H : Hp) (Q : VK) (E_3 : XK) : Prop
  | mk (p r : Addr) (xs : List V) (pss : List (List Rat)) (h1 : vs = [.ref p, .ref r]) (h2 : Pen H p) (h3 : Pok K H r xs pss) (h4 : ∀ (y : V) (H' : Hp), Mv p H H' → Pen H' p → (Kp p H' fun G => NewR K G pss y 1) → Q y H') : spNoPt K vs H Q E_3

theorem tell_perm {a b : List (List Rat)} (h : a.Perm b) : (tell a).length = (tell b).length := by
  induction h with
  | nil => rfl
  | @cons x l m _ ih =>
    show (tellP x ++ tell l).length = (tellP x ++ tell m).length
    rw [List.length_append, List.length_append, ih]
  | swap x y l =>
    show (tellP y ++ (tellP x ++ tell l)).length = (tellP x ++ (tellP y ++ tell l)).length
    rw [List.length_append, List.length_append, List.length_append, List.length_append]; lia
  | trans _ _ h1 h2 => exact h1.trans h2

theorem pt3n {K : PySem.W.Frag} {G : Hp} {t vx r1 r2 : Addr} {x y1 y2 : Rat} (e : G t = none) (hx : G vx = some (nT x)) (h1 : G r1 = some (nT y1)) (h2 : G r2 = some (nT y2)) : Same G (upd G t (.tup [.ref vx, .ref r1, .ref r2])) ∧ PtT K (upd G t (.tup [.ref vx, .ref r1, .ref r2])) (.ref t) [x, y1, y2] :=
  have s := Same.new (o := .tup [.ref vx, .ref r1, .ref r2]) e
  ⟨s, t, _, vx, rfl, SqT.of upd_same, .cons (NumV.of (s _ _ hx)) (.cons (NumV.of (s _ _ h1)) (.cons (NumV.of (s _ _ h2)) .nil)), rfl, s _ _ hx⟩
theorem pt2n {K : PySem.W.Frag} {G : Hp} {t vx r1 : Addr} {x y1 : Rat} (e : G t = none) (hx : G vx = some (nT x)) (h1 : G r1 = some (nT y1)) : Same G (upd G t (.tup [.ref vx, .ref r1])) ∧ PtT K (upd G t (.tup [.ref vx, .ref r1])) (.ref t) [x, y1] :=
  have s := Same.new (o := .tup [.ref vx, .ref r1]) e
  ⟨s, t, _, vx, rfl, SqT.of upd_same, .cons (NumV.of (s _ _ hx)) (.cons (NumV.of (s _ _ h1)) .nil), rfl, s _ _ hx⟩
theorem tell_all {n : Nat} : ∀ {pss : List (List Rat)}, (∀ ps ∈ pss, ps.length = n + 1) → (tell pss).length = n * pss.length
  | [], _ => by rw [List.length_nil, Nat.mul_zero]; rfl
  | p :: r, h => by
    have e : tell (p :: r) = tellP p ++ tell r := rfl
    rw [e, List.length_append, tellP_length, h p (List.mem_cons_self ..), tell_all fun ps hp => h ps (List.mem_cons_of_mem _ hp), List.length_cons, Nat.mul_add, Nat.mul_one]
    lia
theorem tell_app26 (as bs : List (List Rat)) : tell (as ++ bs) = tell as ++ tell bs := by unfold tell; rw [List.map_append, List.flatten_append]
theorem tell_setl {pss : List (List Rat)} {m : Nat} {ps qs : List Rat} (hm : pss[m]? = some ps) : (tell (pss.set m qs)).length + (ps.length - 1) = (tell pss).length + (qs.length - 1) := by
  induction pss generalizing m with
  | nil => cases hm
  | cons p r ih =>
    cases m with
    | zero =>
      cases hm
      have e : tell ((ps :: r).set 0 qs) = tellP qs ++ tell r := rfl
      have e2 : tell (ps :: r) = tellP ps ++ tell r := rfl
      rw [e, e2, List.length_append, List.length_append, tellP_length, tellP_length]; lia
    | succ m =>
      have e : tell ((p :: r).set (m + 1) qs) = tellP p ++ tell (r.set m qs) := rfl
      have e2 : tell (p :: r) = tellP p ++ tell r := rfl
      have := ih (m := m) hm
      rw [e, e2, List.length_append, List.length_append]; lia
theorem paired_rev {α β : Type} {F : α → β → Prop} {l₁ : List α} {l₂ : List β} (h : Paired F l₁ l₂) : Paired F l₁.reverse l₂.reverse := by
  induction h with
  | nil => exact .nil
  | cons a _ ih => rw [List.reverse_cons, List.reverse_cons]; exact Paired.snoc ih a
inductive spFilled (K : PySem.W.Frag) (vs : List V) (H : Hp) (Q : VK) (E_3 : XK) : Prop
  | mk (p : Addr) (h1 : vs = [.ref p]) (h2 : Pen H p) (h3 : ∀ (t r px : Addr) (H' : Hp) (xs : List V) (pss : List (List Rat)) (ps : List Rat), Mv p H H' → Pen H' p → SqT K H' t [.ref r, .ref px] → Pok K H' r xs pss → (tell pss).length = 12 → (∀ c ∈ pss.map (fun ps => ps.getD 0 0), c < 1100000000000) → H' px = some (nT (ps.getD 0 0)) → ps ∈ pss → ps.length = 2 → Q (.ref t) H') : spFilled K vs H Q E_3
inductive spFullR (K : PySem.W.Frag) (vs : List V) (H : Hp) (Q : VK) (E_3 : XK) : Prop
  | mk (p : Addr) (h1 : vs = [.ref p]) (h2 : Pen H p) (h3 : ∀ H', Q (.bl true) H') : spFullR K vs H Q E_3

theorem Pok.cut {K : PySem.W.Frag} {H : Hp} {r t : Addr} {xs : List V} {pss : List (List Rat)} (h : Pok K H r xs pss) (hS : SqT K H t (xs.take 1)) : Pok K H t (xs.take 1) (pss.take 1) := by
  refine ⟨hS, Paired.take 1 h.P, fun ps hp => h.h23 ps (List.mem_of_mem_take hp), by rw [List.length_take]; have := h.h1; lia, ?_, ?_⟩
  · rw [List.map_take]; exact (List.take_sublist _ _).nodup h.nd
  · have h23 := h.h23
    cases pss with
    | nil => exact Nat.zero_le _
    | cons p r =>
      have e : tell ((p :: r).take 1) = tellP p ++ tell [] := rfl
      have e2 : (tell []).length = 0 := rfl
      have := h23 p (List.mem_cons_self ..)
      rw [e, List.length_append, tellP_length, e2]; lia
theorem told_place {pss : List (List Rat)} {t : Told} (h : t ∈ tell pss) : ∃ ps ∈ pss, ∃ k : Nat, k < ps.length - 1 ∧ t.x = ps.getD 0 0 ∧ t.k = (k : Int) := by
  unfold tell at h
  obtain ⟨l, hl, ht⟩ := List.mem_flatten.mp h
  obtain ⟨ps, hps, rfl⟩ := List.mem_map.mp hl
  unfold tellP at ht
  obtain ⟨k, hk, rfl⟩ := List.mem_map.mp ht
  exact ⟨ps, hps, k, List.mem_range.mp hk, rfl, rfl⟩
theorem no_told {pss : List (List Rat)} {q : Rat} {k : Int} (h : q ∉ pss.map fun ps => ps.getD 0 0) : (q, k) ∉ (tell pss).map fun t => (t.x, t.k) := fun hm => by
  obtain ⟨t, ht, e⟩ := List.mem_map.mp hm
  obtain ⟨ps, hps, _, _, hx, _⟩ := told_place ht
  have e1 : t.x = q := congrArg Prod.fst e
  exact h (by rw [← e1, hx]; exact List.mem_map_of_mem (f := fun ps : List Rat => ps.getD 0 0) hps)
theorem no_slope {pss : List (List Rat)} {ps : List Rat} (hnd : (pss.map fun ps => ps.getD 0 0).Nodup) (hp : ps ∈ pss) (h2 : ps.length = 2) : (ps.getD 0 0, (1 : Int)) ∉ (tell pss).map fun t => (t.x, t.k) := fun hm => by
  obtain ⟨t, ht, e⟩ := List.mem_map.mp hm
  obtain ⟨qs, hqs, k, hk, hx, hkk⟩ := told_place ht
  have e1 : t.x = ps.getD 0 0 := congrArg Prod.fst e
  have e2 : t.k = 1 := congrArg Prod.snd e
  obtain ⟨i, hi, rfl⟩ := List.getElem_of_mem hp
  obtain ⟨j, hj, rfl⟩ := List.getElem_of_mem hqs
  have := nd_inj hnd (List.getElem?_eq_getElem hj) (List.getElem?_eq_getElem hi) (hx.symm.trans e1)
  subst this
  lia

section
variable {P : Program} {w : World} {K : PySem.W.Frag} {mg : Str → Option Value} {base : Heap}
theorem sc__law_pen : FnScope ["_law_script", "_law_k", "_law_cell"] ["_law_script", "_law_k"] (defScope (top 59)) := ⟨rfl, rfl, rfl, by decide +kernel, rfl, by decide +kernel, by decide +kernel⟩
set_option maxHeartbeats 4000000 in
theorem ok__law_pen {f : Addr} {fd : FuncData} (F : Fun K "_law_pen" "_law_pen" (top 59) f fd) (b_len : mg "len" = none) (hT : P.given.tree = none) :
    FnOk P w K mg base CX0 33 f fd ["_law_script", "_law_k"] (spPen K) := by
  refine F.ok sc__law_pen (fun vs H Q E h => ?_) (fun cdv A outer s H vs Q E hr h => ?_)
  · obtain ⟨_, _, _, rfl, _⟩ := h; rfl
  refine ⟨_, (@pss_consC _ _ _ _ _ K _ (@ps_set _ _ 2 _ _ _ _ sc__law_pen.nd rfl (Or.inl rfl) (@pe_op _ _ _ _ _ _ _ _ op_add (@pe_op _ _ _ _ _ _ _ _ op_mulC pe_int (pv 1)) pe_int) (by rfl) (by first   | exact .inl rfl   | exact .inr rfl   | assumption)) (@pss_consC _ _ _ _ _ K _ (@ps_ifC _ _ _ _ _ _ _ _ K _ _ (@pt_cmpR _ _ _ _ _ _ _ _ op_lt (pv 1) (@pe_callB _ _ _ _ _ _ _ _ _ (lenK K) rfl b_len bt_len (@pa_cons _ _ _ _ _ (pv 0) pa_nil (by rfl)) (by decide) (by decide) (by rfl) (by rfl)) (nomark _)) (@pss_one _ _ _ (@ps_set _ _ 2 _ _ _ _ sc__law_pen.nd rfl (Or.inl rfl) (@pe_ix _ _ _ _ _ _ _ (ixL K) (pv 0) (pv 1) (fun u v => rfl)) (by rfl) (by first   | exact .inl rfl   | exact .inr rfl   | assumption))) (@pss_one _ _ _ (@ps_ifC _ _ _ _ _ _ _ _ K _ _ (@pt_cmpR _ _ _ _ _ _ _ _ op_gt (@pe_callB _ _ _ _ _ _ _ _ _ (lenK K) rfl b_len bt_len (@pa_cons _ _ _ _ _ (pv 0) pa_nil (by rfl)) (by decide) (by decide) (by rfl) (by rfl)) pe_int (nomark _)) (@pss_one _ _ _ (@ps_set _ _ 2 _ _ _ _ sc__law_pen.nd rfl (Or.inl rfl) (@pe_op _ _ _ _ _ _ _ _ op_add (@pe_ix _ _ _ _ _ _ _ (ixL K) (pv 0) (@pe_op _ _ _ _ _ _ _ _ op_mod (pv 1) (@pe_callB _ _ _ _ _ _ _ _ _ (lenK K) rfl b_len bt_len (@pa_cons _ _ _ _ _ (pv 0) pa_nil (by rfl)) (by decide) (by decide) (by rfl) (by rfl))) (fun u v => rfl)) (@pe_op _ _ _ _ _ _ _ _ op_mulC pe_int (pv 1))) (by rfl) (by first   | exact .inl rfl   | exact .inr rfl   | assumption))) pss_nil (by rfl) (by rfl))) (by rfl) (by rfl)) (@pss_consC _ _ _ _ _ K _ (@ps_ifC _ _ _ _ _ _ _ _ K _ _ (@pt_cmpR _ _ _ _ _ _ _ _ op_ge (pv 2) (@pe_op _ _ _ _ _ _ _ _ op_pow pe_int pe_int) (nomark _)) (@pss_one _ _ _ (@ps_ret _ _ _ _ (@pe_lst _ _ _ _ (@pa_cons _ _ _ _ _ (@pe_op _ _ _ _ _ _ _ _ op_sub (pv 2) (@pe_op _ _ _ _ _ _ _ _ op_pow pe_int pe_int)) (@pa_cons _ _ _ _ _ (@pe_op _ _ _ _ _ _ _ _ op_mod (pv 2) pe_int) (@pa_cons _ _ _ _ _ pe_int pa_nil (by rfl)) (by rfl)) (by rfl))))) pss_nil (by rfl) (by rfl)) (@pss_one _ _ _ (@ps_ret _ _ _ _ (@pe_lst _ _ _ _ (@pa_cons _ _ _ _ _ pe_int (@pa_cons _ _ _ _ _ (@pe_op _ _ _ _ _ _ _ _ op_add (@pe_op _ _ _ _ _ _ _ _ op_mod (pv 2) pe_int) (@pe_op _ _ _ _ _ _ _ _ op_mulC pe_int (pv 1))) (@pa_cons _ _ _ _ _ pe_int pa_nil (by rfl)) (by rfl)) (by rfl))))) (by rfl)) (by rfl)) (by rfl)), ?_⟩
  obtain ⟨a, ns, k, rfl, hS, h63, h0, h62, q⟩ := h
  have hl : (ns.map V.int).length = ns.length := List.length_map _
  have P3 : 3 ≤ sizeLine := by decide
  have C1 : CPow 10 18 := by unfold CPow; decide
  refine ⟨_, rfl, _, _, rfl, rfl, .inl ⟨by decide, by decide⟩, _, _, rfl, rfl, ?_⟩
  refine ⟨_, rfl, _, rfl, a, _, rfl, .inl hS, _, _, rfl, rfl, _, rfl, ?_⟩
  rw [hl]
  have hk1 : k < (ns.length : Int) → ∃ v : Int, atI (ns.map V.int) k = some (.int v) := fun c => at_ints h0 c
  have hk2 : 0 < (ns.length : Int) → ∃ v : Int, atI (ns.map V.int) (k % (ns.length : Int)) = some (.int v) := fun c => at_ints (Int.emod_nonneg _ (by lia)) (Int.emod_lt_of_pos _ c)
  refine ite2 (fun c => ?_) (fun c => ?_)
  · obtain ⟨v, hv⟩ := (hk1 (of_decide_eq_true c))
    refine ⟨_, rfl, _, rfl, a, _, _, _, rfl, rfl, hS, hv, ?_⟩
    refine ⟨_, rfl, _, _, rfl, rfl, C1, _, _, rfl, rfl, _, rfl, ?_⟩
    refine ite2 (fun c => ?_) (fun c => ?_)
    · exact ⟨_, rfl, _, _, rfl, rfl, C1, _, _, rfl, rfl, _, rfl, _, _, rfl, rfl, (by first | decide | (dsimp only; decide)), P3, fun p hp => q p _ _ hp⟩
    · exact ⟨_, rfl, _, _, rfl, rfl, (by first | decide | (dsimp only; decide)), _, rfl, _, _, rfl, rfl, .inl ⟨by decide, by decide⟩, _, _, rfl, rfl, P3, fun p hp => q p _ _ hp⟩
  · refine ⟨_, rfl, a, _, rfl, .inl hS, _, _, rfl, rfl, _, rfl, ?_⟩
    rw [hl]
    refine ite2 (fun c => ?_) (fun c => ?_)
    · obtain ⟨v, hv⟩ := (hk2 (of_decide_eq_true c))
      have c' : 0 < (((ns.map V.int).length : Nat) : Int) := by rw [hl]; exact of_decide_eq_true c
      rw [← hl] at hv
      refine ⟨_, rfl, _, rfl, _, rfl, a, _, rfl, .inl hS, _, _, rfl, rfl, c', a, _, _, _, rfl, rfl, hS, hv, _, rfl, _, _, rfl, rfl, .inl ⟨by decide, by decide⟩, _, _, rfl, rfl, ?_⟩
      refine ⟨_, rfl, _, _, rfl, rfl, C1, _, _, rfl, rfl, _, rfl, ?_⟩
      refine ite2 (fun c => ?_) (fun c => ?_)
      · exact ⟨_, rfl, _, _, rfl, rfl, C1, _, _, rfl, rfl, _, rfl, _, _, rfl, rfl, (by first | decide | (dsimp only; decide)), P3, fun p hp => q p _ _ hp⟩
      · exact ⟨_, rfl, _, _, rfl, rfl, (by first | decide | (dsimp only; decide)), _, rfl, _, _, rfl, rfl, .inl ⟨by decide, by decide⟩, _, _, rfl, rfl, P3, fun p hp => q p _ _ hp⟩
    · refine ⟨_, rfl, _, _, rfl, rfl, C1, _, _, rfl, rfl, _, rfl, ?_⟩
      refine ite2 (fun c => ?_) (fun c => ?_)
      · exact ⟨_, rfl, _, _, rfl, rfl, C1, _, _, rfl, rfl, _, rfl, _, _, rfl, rfl, (by first | decide | (dsimp only; decide)), P3, fun p hp => q p _ _ hp⟩
      · exact ⟨_, rfl, _, _, rfl, rfl, (by first | decide | (dsimp only; decide)), _, rfl, _, _, rfl, rfl, .inl ⟨by decide, by decide⟩, _, _, rfl, rfl, P3, fun p hp => q p _ _ hp⟩
theorem sc__law_draw : FnScope ["_law_pen_here", "_law_many", "_law_drawn", "_law_number_here"] ["_law_pen_here", "_law_many"] (defScope (top 60)) := ⟨rfl, rfl, rfl, by decide +kernel, rfl, by decide +kernel, by decide +kernel⟩
set_option maxHeartbeats 4000000 in
theorem ok__law_draw {f : Addr} {fd : FuncData} (F : Fun K "_law_draw" "_law_draw" (top 60) f fd) (hT : P.given.tree = none) :
    FnOk P w K mg base CX0 33 f fd ["_law_pen_here", "_law_many"] (spDraw) := by
  refine F.ok sc__law_draw (fun vs H Q E h => ?_) (fun cdv A outer s H vs Q E hr h => ?_)
  · obtain ⟨_, _, rfl, _⟩ := h; rfl
  refine ⟨_, (@pss_consC _ _ _ _ _ K _ (@ps_asg _ _ _ _ _ _ (@pe_op _ _ _ _ _ _ _ _ op_add (@pe_ix _ _ _ _ _ _ _ (ixL K) (pv 0) pe_int (fun u v => rfl)) pe_int) (@pg_sub _ _ _ _ _ _ _ (pv 0) pe_int set_list (by intro _; rfl)) (by rfl) (by rfl) (by rfl)) (@pss_consC _ _ _ _ _ K _ (@ps_ifC _ _ _ _ _ _ _ _ K _ _ (@pt_cmpR _ _ _ _ _ _ _ _ op_gt (@pe_ix _ _ _ _ _ _ _ (ixL K) (pv 0) pe_int (fun u v => rfl)) pe_int (nomark _)) (@pss_consC _ _ _ _ _ K _ (@ps_set _ _ 2 _ _ _ _ sc__law_draw.nd rfl (Or.inl rfl) (@pe_op _ _ _ _ _ _ _ _ op_mod (@pe_ix _ _ _ _ _ _ _ (ixL K) (pv 0) pe_int (fun u v => rfl)) (pv 1)) (by rfl) (by first   | exact .inl rfl   | exact .inr rfl   | assumption)) (@pss_consC _ _ _ _ _ K _ (@ps_asg _ _ _ _ _ _ (@pe_op _ _ _ _ _ _ _ _ (op_fdivX hr hT) (@pe_ix _ _ _ _ _ _ _ (ixL K) (pv 0) pe_int (fun u v => rfl)) (pv 1)) (@pg_sub _ _ _ _ _ _ _ (pv 0) pe_int set_list (by intro _; rfl)) (by rfl) (by rfl) (by rfl)) (@pss_one _ _ _ (@ps_ret _ _ _ _ (pv 2))) (by rfl)) (by rfl)) pss_nil (by rfl) (by rfl)) (@pss_consC _ _ _ _ _ K _ (@ps_set _ _ 3 _ _ _ _ sc__law_draw.nd rfl (Or.inl rfl) (@pe_op _ _ _ _ _ _ _ _ op_mod (@pe_op _ _ _ _ _ _ _ _ op_mulC (@pe_op _ _ _ _ _ _ _ _ op_add (@pe_op _ _ _ _ _ _ _ _ op_add (@pe_ix _ _ _ _ _ _ _ (ixL K) (pv 0) pe_int (fun u v => rfl)) (@pe_op _ _ _ _ _ _ _ _ op_mulC pe_int (@pe_ix _ _ _ _ _ _ _ (ixL K) (pv 0) pe_int (fun u v => rfl)))) pe_int) pe_int) pe_int) (by rfl) (by first   | exact .inl rfl   | exact .inr rfl   | assumption)) (@pss_consC _ _ _ _ _ K _ (@ps_set _ _ 3 _ _ _ _ sc__law_draw.nd rfl (Or.inl rfl) (@pe_op _ _ _ _ _ _ _ _ op_mod (@pe_op _ _ _ _ _ _ _ _ op_mulC (pv 3) (@pe_op _ _ _ _ _ _ _ _ op_add (@pe_op _ _ _ _ _ _ _ _ op_add (@pe_op _ _ _ _ _ _ _ _ op_mod (pv 3) pe_int) (@pe_ix _ _ _ _ _ _ _ (ixL K) (pv 0) pe_int (fun u v => rfl))) pe_int)) pe_int) (by rfl) (by first   | exact .inl rfl   | exact .inr rfl   | assumption)) (@pss_one _ _ _ (@ps_ret _ _ _ _ (@pe_op _ _ _ _ _ _ _ _ op_mod (@pe_op _ _ _ _ _ _ _ _ (op_fdivX hr hT) (@pe_op _ _ _ _ _ _ _ _ op_mod (@pe_op _ _ _ _ _ _ _ _ op_mulC (pv 3) (@pe_op _ _ _ _ _ _ _ _ op_add (@pe_op _ _ _ _ _ _ _ _ op_mod (pv 3) pe_int) pe_int)) pe_int) pe_int) (pv 1)))) (by rfl)) (by rfl)) (by rfl)) (by rfl)), ?_⟩
  obtain ⟨a, m, rfl, ⟨c0, c1, c2, hp⟩, h1, h2, q0⟩ := h
  have q : ∀ d c0' c2' : Int, 0 ≤ d → d < m → Q (.int d) (upd H a (.lst [.int c0', .int c1, .int c2'])) := fun d _ _ h3 h4 => q0 d _ h3 h4 .put .put
  have hm : m ≠ 0 := by lia
  have q' : ∀ (o : HO) (d c0' c2' : Int), 0 ≤ d → d < m → Q (.int d) (upd (upd H a o) a (.lst [.int c0', .int c1, .int c2'])) := fun o d c0' c2' h3 h4 => by rw [upd_upd]; exact q d c0' c2' h3 h4
  refine ⟨_, rfl, a, _, _, _, rfl, rfl, SqL.of hp, rfl, _, _, rfl, rfl, _, rfl, a, _, _, _, rfl, rfl, hp, rfl, ?_⟩
  refine ⟨_, rfl, a, _, _, _, rfl, rfl, SqL.of upd_same, rfl, _, _, rfl, rfl, _, rfl, ?_⟩
  refine ite2 (fun c => ?_) (fun c => ?_)
  · refine ⟨_, rfl, a, _, _, _, rfl, rfl, SqL.of upd_same, rfl, _, rfl, _, _, rfl, rfl, (by lia : 0 < m), ?_⟩
    refine ⟨_, rfl, a, _, _, _, rfl, rfl, SqL.of upd_same, rfl, _, rfl, _, _, rfl, rfl, hm, _, rfl, a, _, _, _, rfl, rfl, upd_same, rfl, ?_⟩
    refine ⟨_, rfl, ?_⟩
    exact q' _ _ _ _ (Int.emod_nonneg _ (by lia)) (Int.emod_lt_of_pos _ (by lia))
  · have cl : ∀ z : Int, 0 < z → (0 : Int) < z := fun _ h => h
    refine ⟨_, rfl, a, _, _, _, rfl, rfl, SqL.of upd_same, rfl, _, rfl, a, _, _, _, rfl, rfl, SqL.of upd_same, rfl, _, _, rfl, rfl, .inl ⟨by decide, by decide⟩, _, _, rfl, rfl, _, _, rfl, rfl, _, _, rfl, rfl, .inr (.inl ⟨by decide, by decide⟩), _, _, rfl, rfl, (by first | decide | (dsimp only; decide)), ?_⟩
    have n1 := Int.emod_nonneg ((c1 + 40503 * (c2 + 1) + 1) * 48271) (show (2147483647 : Int) ≠ 0 by decide)
    have n2 := Int.emod_lt_of_pos ((c1 + 40503 * (c2 + 1) + 1) * 48271) (show (0 : Int) < 2147483647 by decide)
    generalize hN : (c1 + 40503 * (c2 + 1) + 1) * 48271 % 2147483647 = N at n1 n2
    refine ⟨_, rfl, _, rfl, _, _, rfl, rfl, (by first | decide | (dsimp only; decide)), _, rfl, a, _, _, _, rfl, rfl, SqL.of upd_same, rfl, _, _, rfl, rfl, _, _, rfl, rfl, _, _, rfl, rfl, .inl ?_, _, _, rfl, rfl, (by first | decide | (dsimp only; decide)), ?_⟩
    · (try rw [hN]); lia
    try rw [hN]
    have n3 := Int.emod_nonneg (N * (N % 65521 + (c2 + 1) + 3)) (show (2147483629 : Int) ≠ 0 by decide)
    have n4 := Int.emod_lt_of_pos (N * (N % 65521 + (c2 + 1) + 3)) (show (0 : Int) < 2147483629 by decide)
    generalize N * (N % 65521 + (c2 + 1) + 3) % 2147483629 = M at n3 n4
    refine ⟨_, rfl, _, rfl, _, _, rfl, rfl, (by first | decide | (dsimp only; decide)), _, _, rfl, rfl, _, _, rfl, rfl, .inl ⟨by lia, by lia⟩, _, _, rfl, rfl, (by first | decide | (dsimp only; decide)), _, _, rfl, rfl, (by first | decide | (dsimp only; decide)), _, rfl, _, _, rfl, rfl, (by lia : 0 < m), ?_⟩
    exact q _ _ _ (Int.emod_nonneg _ (by lia)) (Int.emod_lt_of_pos _ (by lia))
theorem sc__law_lowest : FnScope ["_law_top", "_law_bottom", "_law_one", "_law_other"] ["_law_top", "_law_bottom"] (defScope (top 61)) := ⟨rfl, rfl, rfl, by decide +kernel, rfl, by decide +kernel, by decide +kernel⟩
set_option maxHeartbeats 4000000 in
theorem ok__law_lowest {f : Addr} {fd : FuncData} (F : Fun K "_law_lowest" "_law_lowest" (top 61) f fd) (b_abs : mg "abs" = none) (hT : P.given.tree = none) :
    FnOk P w K mg base CX0 33 f fd ["_law_top", "_law_bottom"] (spLow) := by
  refine F.ok sc__law_lowest (fun vs H Q E h => ?_) (fun cdv A outer s H vs Q E hr h => ?_)
  · obtain ⟨_, _, rfl, _⟩ := h; rfl
  refine ⟨_, (@pss_consC _ _ _ _ _ K _ (@ps_set _ _ 2 _ _ _ _ sc__law_lowest.nd rfl (Or.inl rfl) (@pe_callB _ _ _ _ _ _ _ _ _ call_abs rfl b_abs bt_abs (@pa_cons _ _ _ _ _ (pv 0) pa_nil (by rfl)) (by decide) (by decide) (by rfl) (by rfl)) (by rfl) (by first   | exact .inl rfl   | exact .inr rfl   | assumption)) (@pss_consC _ _ _ _ _ K _ (@ps_set _ _ 3 _ _ _ _ sc__law_lowest.nd rfl (Or.inl rfl) (@pe_callB _ _ _ _ _ _ _ _ _ call_abs rfl b_abs bt_abs (@pa_cons _ _ _ _ _ (pv 1) pa_nil (by rfl)) (by decide) (by decide) (by rfl) (by rfl)) (by rfl) (by first   | exact .inl rfl   | exact .inr rfl   | assumption)) (@pss_consC _ _ _ _ _ K _ (@ps_while _ _ _ _ _ _ PassesOwn.never (@pt_cmpR _ _ _ _ _ _ _ _ op_gt (pv 3) pe_int (nomark _)) (@pss_one _ _ _ (@ps_par _ _ 2 3 _ _ _ _ _ _ _ _ _ _ _ rfl sc__law_lowest.nd rfl rfl (by decide) rfl rfl (@pa_cons _ _ _ _ _ (pv 3) (@pa_cons _ _ _ _ _ (@pe_op _ _ _ _ _ _ _ _ op_mod (pv 2) (pv 3)) pa_nil (by rfl)) (by rfl)) (by with_unfolding_all rfl) (by rfl)))) (@pss_consC _ _ _ _ _ K _ (@ps_ifC _ _ _ _ _ _ _ _ K _ _ (@pt_cmpR _ _ _ _ _ _ _ _ op_lt (pv 1) pe_int (nomark _)) (@pss_one _ _ _ (@ps_set _ _ 2 _ _ _ _ sc__law_lowest.nd rfl (Or.inl rfl) (@pe_op _ _ _ _ _ _ _ _ op_sub pe_int (pv 2)) (by rfl) (by first   | exact .inl rfl   | exact .inr rfl   | assumption))) pss_nil (by rfl) (by rfl)) (@pss_one _ _ _ (@ps_ret _ _ _ _ (@pe_tup _ _ _ _ _ (@pa_cons _ _ _ _ _ (@pe_op _ _ _ _ _ _ _ _ (op_fdivX hr hT) (pv 0) (pv 2)) (@pa_cons _ _ _ _ _ (@pe_op _ _ _ _ _ _ _ _ (op_fdivX hr hT) (pv 1) (pv 2)) pa_nil (by rfl)) (by rfl))))) (by rfl)) (by rfl)) (by rfl)) (by rfl)), ?_⟩
  obtain ⟨a, b, rfl, hb, q⟩ := h
  refine ⟨_, rfl, a, rfl, ?_⟩
  refine ⟨_, rfl, b, rfl, ?_⟩
  refine while_by (L3 H a b fun H a b σ H' => H' = H ∧ ∃ (x y : Int), σ = [some (.int a), some (.int b), some (.int x), some (.int y)] ∧ 0 ≤ x ∧ 0 ≤ y ∧ Int.gcd x y = Int.gcd a b) (fun σ _ => mu 3 σ)
    ⟨rfl, _, _, rfl, ?_, ?_, ?_⟩ ?_ ?_
  · rw [Nm.abs_if]; exact Int.natCast_nonneg _
  · rw [Nm.abs_if]; exact Int.natCast_nonneg _
  · rw [Nm.abs_if, Nm.abs_if]; rfl
  · rintro σ H' hR1
    refine anE2 hR1 fun hq1 hz3 => ?_
    refine exE2 hz3 fun x y hz3' => ?_
    clear hz3
    refine anE4 hz3' fun hq2 hx hy hg => ?_
    clear hz3'
    obtain rfl := hq1
    obtain rfl := hq2
    try clear hR1
    refine ⟨_, rfl, _, _, rfl, rfl, _, rfl, ?_⟩
    by_cases hy0 : y = 0
    · subst hy0
      refine iteF ?_
      have e : (Int.gcd a b : Int) = x := by rw [← hg, Int.gcd_zero]; lia
      subst e
      refine ⟨_, rfl, _, _, rfl, rfl, _, rfl, ?_⟩
      have hd : Nm.msr a b ≠ 0 := Nm.msr_ne hb
      have fin : ∀ p, H' p = none → Q (.ref p) (upd H' p (.tup [.int (a.fdiv (Nm.msr a b)), .int (b.fdiv (Nm.msr a b))])) := fun p hp => by
        rw [Nm.top_msr hb, Nm.bottom_msr hb]; exact q p hp
      by_cases hb0 : b < 0
      · have hd' : Nm.msr a b = 0 - (Int.gcd a b : Int) := by unfold Nm.msr; rw [if_pos hb0]; lia
        rw [hd'] at hd fin
        refine iteTc (by rw [decide_eq_true hb0] <;> rfl) ⟨_, rfl, _, _, rfl, rfl, ?_⟩
        exact ⟨_, rfl, _, rfl, _, _, rfl, rfl, hd, _, rfl, _, rfl, _, _, rfl, rfl, hd, (by decide : 2 ≤ sizeLine), fin⟩
      · have hd' : Nm.msr a b = (Int.gcd a b : Int) := by unfold Nm.msr; rw [if_neg hb0]
        rw [hd'] at hd fin
        refine iteFc (by rw [decide_eq_false hb0] <;> rfl) ?_
        exact ⟨_, rfl, _, rfl, _, _, rfl, rfl, hd, _, rfl, _, rfl, _, _, rfl, rfl, hd, (by decide : 2 ≤ sizeLine), fin⟩
    · have hyp : 0 < y := by lia
      refine iteTc (by rw [decide_eq_true hyp] <;> rfl) ?_
      refine ⟨_, rfl, _, rfl, _, rfl, _, _, rfl, rfl, hyp, _, _, rfl, ⟨rfl, y, x % y, rfl, hy, Int.emod_nonneg _ hy0, ?_⟩, ?_⟩
      · rw [Nm.gcd_turn]; exact hg
      · show (x % y).toNat < y.toNat
        have := Int.emod_lt_of_pos x hyp
        lia
  · rintro σ H' Q1 Q2 hm hR2
    obtain ⟨v, e, i, j, e1, e2, k, ek, q1⟩ := hR2
    try clear hR2
    exact ⟨v, e, i, j, e1, e2, k, ek, hm _ _ q1⟩
theorem sc__law_number : FnScope ["_law_pen_here", "_law_way", "_law_top"] ["_law_pen_here"] (defScope (top 63)) := ⟨rfl, rfl, rfl, by decide +kernel, rfl, by decide +kernel, by decide +kernel⟩
set_option maxHeartbeats 4000000 in
theorem ok__law_number {f : Addr} {fd : FuncData} (F : Fun K "_law_number" "_law_number" (top 63) f fd) (F__law_draw : Fd P w K mg base 33 "_law_draw" ["_law_pen_here", "_law_many"] (spDraw)) (F__law_lowest : Fd P w K mg base 33 "_law_lowest" ["_law_top", "_law_bottom"] (spLow)) (hT : P.given.tree = none) :
    FnOk P w K mg base CX0 34 f fd ["_law_pen_here"] (spNum 40) := by
  refine F.ok sc__law_number (fun vs H Q E h => ?_) (fun cdv A outer s H vs Q E hr h => ?_)
  · obtain ⟨_, rfl, _⟩ := h; rfl
  refine ⟨_, (@pss_consC _ _ _ _ _ K _ (@ps_set _ _ 1 _ _ _ _ sc__law_number.nd rfl (Or.inl rfl) (@pe_fn _ _ _ _ _ _ _ _ _ _ _ F__law_draw hr rfl (@pa_cons _ _ _ _ _ (pv 0) (@pa_cons _ _ _ _ _ pe_int pa_nil (by rfl)) (by rfl)) (by decide) (by decide) (by rfl) (by rfl)) (by rfl) (by first   | exact .inl rfl   | exact .inr rfl   | assumption)) (@pss_consC _ _ _ _ _ K _ (@ps_ifC _ _ _ _ _ _ _ _ K _ _ (@pt_cmpR _ _ _ _ _ _ _ _ op_lt (pv 1) pe_int (nomark _)) (@pss_one _ _ _ (@ps_ret _ _ _ _ (@pe_fn _ _ _ _ _ _ _ _ _ _ _ F__law_lowest hr rfl (@pa_cons _ _ _ _ _ (@pe_op _ _ _ _ _ _ _ _ op_sub (@pe_fn _ _ _ _ _ _ _ _ _ _ _ F__law_draw hr rfl (@pa_cons _ _ _ _ _ (pv 0) (@pa_cons _ _ _ _ _ pe_int pa_nil (by rfl)) (by rfl)) (by decide) (by decide) (by rfl) (by rfl)) pe_int) (@pa_cons _ _ _ _ _ (@pe_op _ _ _ _ _ _ _ _ op_add pe_int (@pe_fn _ _ _ _ _ _ _ _ _ _ _ F__law_draw hr rfl (@pa_cons _ _ _ _ _ (pv 0) (@pa_cons _ _ _ _ _ (@pe_ix _ _ _ _ _ _ _ (ixL K) (@pe_lst _ _ _ _ (@pa_cons _ _ _ _ _ pe_int (@pa_cons _ _ _ _ _ pe_int (@pa_cons _ _ _ _ _ pe_int pa_nil (by rfl)) (by rfl)) (by rfl))) (@pe_op _ _ _ _ _ _ _ _ op_mod (pv 1) pe_int) (fun u v => rfl)) pa_nil (by rfl)) (by rfl)) (by decide) (by decide) (by rfl) (by rfl))) pa_nil (by rfl)) (by rfl)) (by decide) (by decide) (by rfl) (by rfl)))) pss_nil (by rfl) (by rfl)) (@pss_consC _ _ _ _ _ K _ (@ps_ifC _ _ _ _ _ _ _ _ K _ _ (@pt_cmpR _ _ _ _ _ _ _ _ op_lt (pv 1) pe_int (nomark _)) (@pss_one _ _ _ (@ps_ret _ _ _ _ (@pe_fn _ _ _ _ _ _ _ _ _ _ _ F__law_lowest hr rfl (@pa_cons _ _ _ _ _ (@pe_op _ _ _ _ _ _ _ _ op_sub (@pe_fn _ _ _ _ _ _ _ _ _ _ _ F__law_draw hr rfl (@pa_cons _ _ _ _ _ (pv 0) (@pa_cons _ _ _ _ _ pe_int pa_nil (by rfl)) (by rfl)) (by decide) (by decide) (by rfl) (by rfl)) pe_int) (@pa_cons _ _ _ _ _ (@pe_op _ _ _ _ _ _ _ _ op_add pe_int (@pe_fn _ _ _ _ _ _ _ _ _ _ _ F__law_draw hr rfl (@pa_cons _ _ _ _ _ (pv 0) (@pa_cons _ _ _ _ _ pe_int pa_nil (by rfl)) (by rfl)) (by decide) (by decide) (by rfl) (by rfl))) pa_nil (by rfl)) (by rfl)) (by decide) (by decide) (by rfl) (by rfl)))) pss_nil (by rfl) (by rfl)) (@pss_consC _ _ _ _ _ K _ (@ps_set _ _ 2 _ _ _ _ sc__law_number.nd rfl (Or.inl rfl) (@pe_op _ _ _ _ _ _ _ _ op_sub (@pe_op _ _ _ _ _ _ _ _ op_add (@pe_op _ _ _ _ _ _ _ _ op_mulC (@pe_fn _ _ _ _ _ _ _ _ _ _ _ F__law_draw hr rfl (@pa_cons _ _ _ _ _ (pv 0) (@pa_cons _ _ _ _ _ (@pe_op _ _ _ _ _ _ _ _ op_pow pe_int pe_int) pa_nil (by rfl)) (by rfl)) (by decide) (by decide) (by rfl) (by rfl)) (@pe_op _ _ _ _ _ _ _ _ op_pow pe_int pe_int)) (@pe_fn _ _ _ _ _ _ _ _ _ _ _ F__law_draw hr rfl (@pa_cons _ _ _ _ _ (pv 0) (@pa_cons _ _ _ _ _ (@pe_op _ _ _ _ _ _ _ _ op_pow pe_int pe_int) pa_nil (by rfl)) (by rfl)) (by decide) (by decide) (by rfl) (by rfl))) (@pe_op _ _ _ _ _ _ _ _ op_mulC pe_int (@pe_op _ _ _ _ _ _ _ _ op_pow pe_int pe_int))) (by rfl) (by first   | exact .inl rfl   | exact .inr rfl   | assumption)) (@pss_one _ _ _ (@ps_ret _ _ _ _ (@pe_fn _ _ _ _ _ _ _ _ _ _ _ F__law_lowest hr rfl (@pa_cons _ _ _ _ _ (pv 2) (@pa_cons _ _ _ _ _ (@pe_op _ _ _ _ _ _ _ _ op_add pe_int (@pe_fn _ _ _ _ _ _ _ _ _ _ _ F__law_draw hr rfl (@pa_cons _ _ _ _ _ (pv 0) (@pa_cons _ _ _ _ _ (@pe_op _ _ _ _ _ _ _ _ op_pow pe_int pe_int) pa_nil (by rfl)) (by rfl)) (by decide) (by decide) (by rfl) (by rfl))) pa_nil (by rfl)) (by rfl)) (by decide) (by decide) (by rfl) (by rfl)))) (by rfl)) (by rfl)) (by rfl)) (by rfl)), ?_⟩
  obtain ⟨a, rfl, pn, q⟩ := h
  have C6 : CPow 10 6 := by unfold CPow; decide
  have C11 : CPow 10 11 := by unfold CPow; decide
  refine ⟨_, rfl, a, 8, rfl, pn, by decide, by decide, fun w H1 w0 w1 o1 p1 => ?_⟩
  have b64 : ∀ x : Int, -(10 ^ 12) < x → x < 10 ^ 12 → Bd 40 x := fun x h1 h2 => by unfold Bd; lia
  refine ⟨_, rfl, _, _, rfl, rfl, _, rfl, ?_⟩
  refine ite2 (fun c => ?_) (fun c => ?_)
  · refine ⟨_, rfl, a, 19, rfl, p1, by decide, by decide, fun d H2 d0 d1 o2 p2 => ⟨_, _, rfl, rfl, ?_⟩⟩
    refine ⟨_, rfl, (by decide : 3 ≤ sizeLine), fun l hl => ?_⟩
    obtain ⟨v, hv, hm⟩ := at_menu (xs := [1, 1, 4]) (i := w % 3) (Int.emod_nonneg _ (by first | decide | (dsimp only; decide))) (Int.emod_lt_of_pos _ (by first | decide | (dsimp only; decide)))
    have hv1 : 1 ≤ v ∧ v ≤ 4 := by
      simp at hm; lia
    refine ⟨_, rfl, _, _, rfl, rfl, (by first | decide | (dsimp only; decide)), l, _, _, _, rfl, rfl, SqL.of upd_same, hv, ?_⟩
    refine ⟨a, v, rfl, p2.same hl, by lia, by lia, fun e H3 e0 e1 o3 p3 => ⟨_, _, rfl, rfl, _, _, rfl, by lia, fun r hr => ?_⟩⟩
    exact q _ r _ (o1.mv.trans (o2.mv.trans ((Mv.new hl).trans (o3.mv.trans (Mv.new hr))))) (p3.same hr) upd_same (Bd.num (b64 _ (by lia) (by lia))) (Bd.den (by lia) (b64 _ (by lia) (by lia)))
  refine ⟨_, rfl, _, _, rfl, rfl, _, rfl, ?_⟩
  refine ite2 (fun c => ?_) (fun c => ?_)
  · refine ⟨_, rfl, a, 199, rfl, p1, by decide, by decide, fun d H2 d0 d1 o2 p2 => ⟨_, _, rfl, rfl, ?_⟩⟩
    refine ⟨_, rfl, a, 9, rfl, p2, by decide, by decide, fun e H3 e0 e1 o3 p3 => ⟨_, _, rfl, rfl, _, _, rfl, by lia, fun r hr => ?_⟩⟩
    exact q _ r _ (o1.mv.trans (o2.mv.trans (o3.mv.trans (Mv.new hr)))) (p3.same hr) upd_same (Bd.num (b64 _ (by lia) (by lia))) (Bd.den (by lia) (b64 _ (by lia) (by lia)))
  refine ⟨_, rfl, _, _, rfl, rfl, C6, a, _, rfl, p1, by decide, by decide, fun d H2 d0 d1 o2 p2 => ⟨_, _, rfl, rfl, C6, _, _, rfl, rfl, .inl ?_, ?_⟩⟩
  · change d < 10 ^ 6 at d1; lia
  refine ⟨_, rfl, _, _, rfl, rfl, C6, a, _, rfl, p2, by decide, by decide, fun e H3 e0 e1 o3 p3 => ⟨_, _, rfl, rfl, _, _, rfl, rfl, C11, _, _, rfl, rfl, .inl ⟨by decide, by decide⟩, _, _, rfl, rfl, ?_⟩⟩
  refine ⟨_, rfl, _, rfl, _, _, rfl, rfl, C6, a, _, rfl, p3, by decide, by decide, fun g H4 g0 g1 o4 p4 => ⟨_, _, rfl, rfl, _, _, rfl, by lia, fun r hr => ?_⟩⟩
  change d < 10 ^ 6 at d1
  change e < 10 ^ 6 at e1
  change g < 10 ^ 6 at g1
  exact q _ r _ (o1.mv.trans (o2.mv.trans (o3.mv.trans (o4.mv.trans (Mv.new hr))))) (p4.same hr) upd_same (Bd.num (b64 _ (by show -(10 ^ 12) < d * 10 ^ 6 + e - 5 * 10 ^ 11; lia) (by show d * 10 ^ 6 + e - 5 * 10 ^ 11 < 10 ^ 12; lia))) (Bd.den (by lia) (b64 _ (by lia) (by lia)))
theorem sc__law_plus : FnScope ["_law_a", "_law_b"] ["_law_a", "_law_b"] (defScope (top 62)) := ⟨rfl, rfl, rfl, by decide +kernel, rfl, by decide +kernel, by decide +kernel⟩
set_option maxHeartbeats 4000000 in
theorem ok__law_plus {f : Addr} {fd : FuncData} (F : Fun K "_law_plus" "_law_plus" (top 62) f fd) (F__law_lowest : Fd P w K mg base 33 "_law_lowest" ["_law_top", "_law_bottom"] (spLow)) (hT : P.given.tree = none) :
    FnOk P w K mg base CX0 34 f fd ["_law_a", "_law_b"] (spBin K (· + ·)) := by
  refine F.ok sc__law_plus (fun vs H Q E h => ?_) (fun cdv A outer s H vs Q E hr h => ?_)
  · obtain ⟨_, _, _, _, _, _, rfl, _⟩ := h; rfl
  refine ⟨_, (@pss_one _ _ _ (@ps_ret _ _ _ _ (@pe_fn _ _ _ _ _ _ _ _ _ _ _ F__law_lowest hr rfl (@pa_cons _ _ _ _ _ (@pe_op _ _ _ _ _ _ _ _ op_add (@pe_op _ _ _ _ _ _ _ _ op_mulC (@pe_ix _ _ _ _ _ _ _ (ixT K) (pv 0) pe_int (fun u v => rfl)) (@pe_ix _ _ _ _ _ _ _ (ixT K) (pv 1) pe_int (fun u v => rfl))) (@pe_op _ _ _ _ _ _ _ _ op_mulC (@pe_ix _ _ _ _ _ _ _ (ixT K) (pv 1) pe_int (fun u v => rfl)) (@pe_ix _ _ _ _ _ _ _ (ixT K) (pv 0) pe_int (fun u v => rfl)))) (@pa_cons _ _ _ _ _ (@pe_op _ _ _ _ _ _ _ _ op_mulC (@pe_ix _ _ _ _ _ _ _ (ixT K) (pv 0) pe_int (fun u v => rfl)) (@pe_ix _ _ _ _ _ _ _ (ixT K) (pv 1) pe_int (fun u v => rfl))) pa_nil (by rfl)) (by rfl)) (by decide) (by decide) (by rfl) (by rfl)))), ?_⟩
  obtain ⟨x, y, p, q, m, n, rfl, ⟨r, rfl, hr⟩, ⟨u, rfl, hu⟩, hp, hq, hmn, k⟩ := h
  refine ⟨_, rfl, r, _, _, _, rfl, rfl, hr, rfl, _, rfl, u, _, _, _, rfl, rfl, hu, rfl, _, _, rfl, rfl, MulC.bd hp.1 hq.2, _, rfl, u, _, _, _, rfl, rfl, hu, rfl, _, rfl, r, _, _, _, rfl, rfl, hr, rfl, _, _, rfl, rfl, MulC.bd hq.1 hp.2, _, _, rfl, rfl, ?_⟩
  refine ⟨_, rfl, r, _, _, _, rfl, rfl, hr, rfl, _, rfl, u, _, _, _, rfl, rfl, hu, rfl, _, _, rfl, rfl, MulC.bd hp.2 hq.2, ?_⟩
  refine ⟨_, _, rfl, Int.mul_ne_zero (Nm.den_ne p) (Nm.den_ne q), fun z hz => ?_⟩
  have e := k z hz
  try dsimp only at e
  rw [← Nm.plus_eq] at e
  exact e
theorem sc__law_places : FnScope ["_law_pen_here", "_law_many", "_law_found", "_law_k", "_law_x"] ["_law_pen_here", "_law_many"] (defScope (top 64)) := ⟨rfl, rfl, rfl, by decide +kernel, rfl, by decide +kernel, by decide +kernel⟩
set_option maxHeartbeats 4000000 in
theorem ok__law_places {f : Addr} {fd : FuncData} (F : Fun K "_law_places" "_law_places" (top 64) f fd) (F__law_number : Fd P w K mg base 34 "_law_number" ["_law_pen_here"] (spNum 40)) (F__law_plus : Fd P w K mg base 34 "_law_plus" ["_law_a", "_law_b"] (spBin K (· + ·))) (b_range : mg "range" = none) (hT : P.given.tree = none) :
    FnOk P w K mg base CX0 35 f fd ["_law_pen_here", "_law_many"] (spPlacesV K) := by
  refine F.ok sc__law_places (fun vs H Q E h => ?_) (fun cdv A outer s H vs Q E hr h => ?_)
  · obtain ⟨_, _, rfl, _⟩ := h; rfl
  refine ⟨_, (@pss_consC _ _ _ _ _ K _ (@ps_set _ _ 2 _ _ _ _ sc__law_places.nd rfl (Or.inl rfl) (@pe_lst _ _ _ _ pa_nil) (by rfl) (by first   | exact .inl rfl   | exact .inr rfl   | assumption)) (@pss_consC _ _ _ _ _ K _ (@ps_forC _ _ _ _ _ _ _ _ K _ PassesOwn.never rfl (@pi_range1 _ _ _ _ _ _ rfl b_range (@pa_cons _ _ _ _ _ (pv 1) pa_nil (by rfl)) (by rfl)) (@pg_name _ _ 3 _ sc__law_places.nd rfl (Or.inl rfl) (by first   | exact .inl rfl   | exact .inr rfl   | assumption)) (@pss_consC _ _ _ _ _ K _ (@ps_set _ _ 4 _ _ _ _ sc__law_places.nd rfl (Or.inl rfl) (@pe_fn _ _ _ _ _ _ _ _ _ _ _ F__law_number hr rfl (@pa_cons _ _ _ _ _ (pv 0) pa_nil (by rfl)) (by decide) (by decide) (by rfl) (by rfl)) (by rfl) (by first   | exact .inl rfl   | exact .inr rfl   | assumption)) (@pss_consC _ _ _ _ _ K _ (@ps_while _ _ _ _ _ _ PassesOwn.never (@pt_cmpR _ _ _ _ _ _ _ _ (inD K hr) (pv 4) (pv 2) (by with_unfolding_all rfl)) (@pss_one _ _ _ (@ps_set _ _ 4 _ _ _ _ sc__law_places.nd rfl (Or.inl rfl) (@pe_fn _ _ _ _ _ _ _ _ _ _ _ F__law_plus hr rfl (@pa_cons _ _ _ _ _ (pv 4) (@pa_cons _ _ _ _ _ (@pe_tup _ _ _ _ _ (@pa_cons _ _ _ _ _ pe_int (@pa_cons _ _ _ _ _ pe_int pa_nil (by rfl)) (by rfl))) pa_nil (by rfl)) (by rfl)) (by decide) (by decide) (by rfl) (by rfl)) (by rfl) (by first   | exact .inl rfl   | exact .inr rfl   | assumption)))) (@pss_one _ _ _ (@ps_expr _ _ _ _ (@pe_bmK _ _ _ _ _ _ _ _ _ _ _ _ K PySem.F.plainAttrs_list PySem.F.slot_list_append PySem.F.type_list_append mt_append (pv 2) (@pa_cons _ _ _ _ _ (pv 4) pa_nil (by rfl)) (by rfl) (by rfl) (by rfl) (by rfl) (by rfl) (by rfl)) (by rfl))) (by rfl)) (by rfl)) (by rfl) (by intro _; rfl)) (@pss_one _ _ _ (@ps_ret _ _ _ _ (pv 2))) (by rfl)) (by rfl)), ?_⟩
  obtain ⟨a, m, rfl, pn, h0, h100, q⟩ := h
  have P0 : 0 ≤ sizeLine := by decide
  have P2 : 2 ≤ sizeLine := by decide
  refine ⟨P0, fun l hl => ?_⟩
  have la : l ≠ a := pn.ne' hl
  obtain ⟨M, hM⟩ : ∃ M : Nat, (M : Int) = m := ⟨m.toNat, by lia⟩
  subst hM
  refine ⟨_, rfl, (M : Int), rfl, by lia, by lia, ?_⟩
  rw [Int.toNat_natCast]
  refine for_range (n := M) (L4 a H M l fun a H M l i σ H' => Mv a H H' ∧ Pen H' a ∧ ∃ zs qs z3 z4, σ = [some (.ref a), some (.int (M : Int)), some (.ref l), z3, z4] ∧ H' l = some (.lst zs) ∧ NumsT H' zs qs ∧ qs.length = i ∧ qs.Nodup ∧ ∀ q ∈ qs, RB (40 + 8) q ∧ q < 1100000000000) ⟨Mv.new hl, pn.same hl, [], [], none, none, rfl, upd_same, .nil, rfl, List.nodup_nil, (fun _ h => nomatch h)⟩ ?_ ?_
  · rintro i σ H' hi hR1
    refine anE3 hR1 fun mv pn' hz6 => ?_
    refine exE4 hz6 fun zs qs z3 z4 hz6' => ?_
    clear hz6
    refine anE6 hz6' fun hq5 el hz hql hnd hb => ?_
    clear hz6'
    obtain rfl := hq5
    try clear hR1
    refine ⟨_, rfl, a, rfl, pn', fun x0 r H3 m3 p3 hr bn bd => ?_⟩
    have el3 := m3 _ _ la el
    have hz3 := NumsT.mv hz pn' m3
    have hzl := hz.length
    refine ⟨fun μ σ H4 => Same H3 H4 ∧ ∃ (r : Addr) (x : Rat) (j : Nat), σ = [some (.ref a), some (.int (M : Int)), some (.ref l), some (.int (0 + (i : Int))), some (.ref r)] ∧ H4 r = some (nT x) ∧ x = x0 + (j : Rat) ∧ μ = cnt x qs ∧ j + cnt x qs ≤ qs.length,
      ⟨_, Same.refl _, r, x0, 0, rfl, hr, (by have z : ((0 : Nat) : Rat) = 0 := rfl; rw [z]; grind), rfl, by have := cnt_le x0 qs; lia⟩, ?_⟩
    rintro μ σ H4 hR2
    refine anE2 hR2 fun s4 hz9 => ?_
    refine exE3 hz9 fun r' x j hz9' => ?_
    clear hz9
    refine anE5 hz9' fun hq7 hr' hx hq8 hj => ?_
    clear hz9'
    obtain rfl := hq7
    obtain rfl := hq8
    try clear hR2
    have hxb : RB (40 + 8) x ∧ x < 1100000000000 := by
      refine ⟨?_, lt_up40 bn hx (by lia)⟩
      rw [hx]
      exact (RB.plus ⟨bn, bd⟩ (rb_nat (j := j) (by lia))).mono (by lia)
    refine ⟨_, rfl, _, rfl, ?_⟩
    refine inN (NumV.of hr') (SqL.of (s4 _ _ el3)) (NumsT.same hz3 s4).nums ?_
    refine ⟨_, rfl, ?_⟩
    by_cases hin : x ∈ qs
    · refine iteTc (by rw [decide_eq_true hin] <;> rfl) ⟨_, fun _ _ h => h, ?_⟩
      refine ⟨_, rfl, P2, fun t ht => ⟨_, _, _, _, 40 + 8, 1, rfl, NumV.of ((Same.new ht) _ _ hr'), NumV.of (upd_same (o := nT 1)), hxb.1, RB.one (by decide), by lia, fun u hu => ?_⟩⟩
      refine ⟨_, cnt_lt hin, (s4.trans (Same.new ht)).trans (Same.new hu), u, x + 1, j + 1, rfl, upd_same, ?_, rfl, by have := cnt_lt hin; lia⟩
      rw [hx, Rat.natCast_add]
      have z : ((1 : Nat) : Rat) = 1 := rfl
      rw [z]; grind
    · refine iteFc (by rw [decide_eq_false hin] <;> rfl) ?_
      have el4 := s4 _ _ el3
      refine ⟨_, rfl, .inl ⟨rfl, _, SqL.of el4⟩, _, rfl, l, zs, .ref r', rfl, rfl, el4, Nat.lt_of_lt_of_le (show zs.length < 300 by lia) (by decide), ?_⟩
      refine ⟨Mv.put' ((mv.trans m3).trans s4.mv) hl, (p3.sm s4).put' la, zs ++ [.ref r'], qs ++ [x], _, _, rfl, upd_same, Paired.snoc (NumsT.put (NumsT.same hz3 s4) el4) (NumT.put ⟨_, rfl, hr'⟩ el4), by simp [hql], ?_, fun c hc => ?_⟩
      · rw [List.nodup_append]
        exact ⟨hnd, by simp, fun b hb c hc => by rw [List.mem_singleton.mp hc]; exact fun z => hin (z ▸ hb)⟩
      · rcases List.mem_append.mp hc with z | z
        · exact hb c z
        · rw [List.mem_singleton.mp z]; exact hxb
  · rintro σ H' hR3
    refine anE3 hR3 fun mv pn' hz11 => ?_
    refine exE4 hz11 fun zs qs z3 z4 hz11' => ?_
    clear hz11
    refine anE6 hz11' fun hq10 el hz hql hnd hb => ?_
    clear hz11'
    obtain rfl := hq10
    try clear hR3
    exact ⟨_, rfl, q l H' zs qs mv pn' hl el hz (by rw [hql]) hnd hb⟩
theorem sc__law_points : FnScope ["_law_pen_here", "_law_most", "_law_room", "_law_found", "_law_x"] ["_law_pen_here", "_law_most"] (defScope (top 65)) := ⟨rfl, rfl, rfl, by decide +kernel, rfl, by decide +kernel, by decide +kernel⟩
set_option maxHeartbeats 4000000 in
theorem ok__law_points {f : Addr} {fd : FuncData} (F : Fun K "_law_points" "_law_points" (top 65) f fd) (F__law_places : Fd P w K mg base 35 "_law_places" ["_law_pen_here", "_law_many"] (spPlacesV K)) (F__law_draw : Fd P w K mg base 33 "_law_draw" ["_law_pen_here", "_law_many"] (spDraw)) (F__law_number : Fd P w K mg base 34 "_law_number" ["_law_pen_here"] (spNum 40)) (b_tuple : mg "tuple" = none) (hT : P.given.tree = none) :
    FnOk P w K mg base CX0 36 f fd ["_law_pen_here", "_law_most"] (spPointsT K 40) := by
  refine F.ok sc__law_points (fun vs H Q E h => ?_) (fun cdv A outer s H vs Q E hr h => ?_)
  · obtain ⟨_, _, rfl, _⟩ := h; rfl
  refine ⟨_, (@pss_consC _ _ _ _ _ K _ (@ps_set _ _ 2 _ _ _ _ sc__law_points.nd rfl (Or.inl rfl) (@pe_op _ _ _ _ _ _ _ _ op_add pe_int (@pe_fn _ _ _ _ _ _ _ _ _ _ _ F__law_draw hr rfl (@pa_cons _ _ _ _ _ (pv 0) (@pa_cons _ _ _ _ _ (pv 1) pa_nil (by rfl)) (by rfl)) (by decide) (by decide) (by rfl) (by rfl))) (by rfl) (by first   | exact .inl rfl   | exact .inr rfl   | assumption)) (@pss_consC _ _ _ _ _ K _ (@ps_set _ _ 3 _ _ _ _ sc__law_points.nd rfl (Or.inl rfl) (@pe_lst _ _ _ _ pa_nil) (by rfl) (by first   | exact .inl rfl   | exact .inr rfl   | assumption)) (@pss_consC _ _ _ _ _ K _ (@ps_forC _ _ _ _ _ _ _ _ K _ PassesOwn.never rfl (@piL _ K _ _ _ (@pe_fn _ _ _ _ _ _ _ _ _ _ _ F__law_places hr rfl (@pa_cons _ _ _ _ _ (pv 0) (@pa_cons _ _ _ _ _ (pv 2) pa_nil (by rfl)) (by rfl)) (by decide) (by decide) (by rfl) (by rfl)) (by rfl)) (@pg_name _ _ 4 _ sc__law_points.nd rfl (Or.inl rfl) (by first   | exact .inl rfl   | exact .inr rfl   | assumption)) (@pss_one _ _ _ (@ps_ifC _ _ _ _ _ _ _ _ K _ _ (@PW.pt _ _ _ (@pw_and _ _ _ _ _ _ _ (@pt_cmpR _ _ _ _ _ _ _ _ op_gt (pv 2) pe_int (nomark _)) (@pw_and1 _ _ _ _ (@pt_cmpR _ _ _ _ _ _ _ _ op_eq (@pe_fn _ _ _ _ _ _ _ _ _ _ _ F__law_draw hr rfl (@pa_cons _ _ _ _ _ (pv 0) (@pa_cons _ _ _ _ _ pe_int pa_nil (by rfl)) (by rfl)) (by decide) (by decide) (by rfl) (by rfl)) pe_int (nomark _))))) (@pss_consC _ _ _ _ _ K _ (@ps_expr _ _ _ _ (@pe_bmK _ _ _ _ _ _ _ _ _ _ _ _ K PySem.F.plainAttrs_list PySem.F.slot_list_append PySem.F.type_list_append mt_append (pv 3) (@pa_cons _ _ _ _ _ (@pe_tup _ _ _ _ _ (@pa_cons _ _ _ _ _ (pv 4) (@pa_cons _ _ _ _ _ (@pe_fn _ _ _ _ _ _ _ _ _ _ _ F__law_number hr rfl (@pa_cons _ _ _ _ _ (pv 0) pa_nil (by rfl)) (by decide) (by decide) (by rfl) (by rfl)) (@pa_cons _ _ _ _ _ (@pe_fn _ _ _ _ _ _ _ _ _ _ _ F__law_number hr rfl (@pa_cons _ _ _ _ _ (pv 0) pa_nil (by rfl)) (by decide) (by decide) (by rfl) (by rfl)) pa_nil (by rfl)) (by rfl)) (by rfl))) pa_nil (by rfl)) (by rfl) (by rfl) (by rfl) (by rfl) (by rfl) (by rfl)) (by rfl)) (@pss_one _ _ _ (@ps_set _ _ 2 _ _ _ _ sc__law_points.nd rfl (Or.inl rfl) (@pe_op _ _ _ _ _ _ _ _ op_sub (pv 2) pe_int) (by rfl) (by first   | exact .inl rfl   | exact .inr rfl   | assumption))) (by rfl)) (@pss_one _ _ _ (@ps_ifC _ _ _ _ _ _ _ _ K _ _ (@pt_cmpR _ _ _ _ _ _ _ _ op_gt (pv 2) pe_int (nomark _)) (@pss_consC _ _ _ _ _ K _ (@ps_expr _ _ _ _ (@pe_bmK _ _ _ _ _ _ _ _ _ _ _ _ K PySem.F.plainAttrs_list PySem.F.slot_list_append PySem.F.type_list_append mt_append (pv 3) (@pa_cons _ _ _ _ _ (@pe_tup _ _ _ _ _ (@pa_cons _ _ _ _ _ (pv 4) (@pa_cons _ _ _ _ _ (@pe_fn _ _ _ _ _ _ _ _ _ _ _ F__law_number hr rfl (@pa_cons _ _ _ _ _ (pv 0) pa_nil (by rfl)) (by decide) (by decide) (by rfl) (by rfl)) pa_nil (by rfl)) (by rfl))) pa_nil (by rfl)) (by rfl) (by rfl) (by rfl) (by rfl) (by rfl) (by rfl)) (by rfl)) (@pss_one _ _ _ (@ps_set _ _ 2 _ _ _ _ sc__law_points.nd rfl (Or.inl rfl) (@pe_op _ _ _ _ _ _ _ _ op_sub (pv 2) pe_int) (by rfl) (by first   | exact .inl rfl   | exact .inr rfl   | assumption))) (by rfl)) pss_nil (by rfl) (by rfl))) (by rfl) (by rfl))) (by rfl) (by intro _; rfl)) (@pss_one _ _ _ (@ps_ret _ _ _ _ (@pe_callTy _ _ _ _ _ _ _ _ _ (tupleK K) rfl b_tuple bt_tuple (@pa_cons _ _ _ _ _ (pv 3) pa_nil (by rfl)) (by decide) (by decide) (by rfl) (by rfl)))) (by rfl)) (by rfl)) (by rfl)), ?_⟩
  obtain ⟨a, most, rfl, pn, h1, h100, q⟩ := h
  have P0 : 0 ≤ sizeLine := by decide
  have P2 : 2 ≤ sizeLine := by decide
  have P3 : 3 ≤ sizeLine := by decide
  refine ⟨_, rfl, _, rfl, a, most, rfl, pn, h1, by lia, fun d H1 d0 d1 o1 p1 => ⟨_, _, rfl, rfl, ?_⟩⟩
  refine ⟨P0, fun l hl1 => ?_⟩
  have la : l ≠ a := p1.ne' hl1
  have hl : H l = none := Mv.free o1.mv la hl1
  obtain ⟨R, hR⟩ : ∃ R : Nat, (R : Int) = 1 + d := ⟨(1 + d).toNat, by lia⟩
  refine ⟨_, rfl, _, rfl, a, 1 + d, rfl, p1.same hl1, by lia, by lia, fun w Hw ws qs mw pw hw ew hq hql hnd hb => ⟨w, rfl, ⟨_, SqL.of ew⟩, ?_⟩⟩
  have hwl := hq.length
  have wa : w ≠ a := (p1.same (o := .lst []) hl1).ne' hw
  have wl : w ≠ l := (ne_of_none (upd_same (H := H1) (a := l) (o := .lst [])) hw).symm
  refine for_list (xs := ws) (L9 a H w ws qs most l K d fun a H w ws qs most l K d i σ H' => Mv a H H' ∧ Pen H' a ∧ H' w = some (.lst ws) ∧ NumsT H' ws qs ∧ ∃ (room : Int) (ys : List V) (pss : List (List Rat)) (z4 : Option V), σ = [some (.ref a), some (.int most), some (.int room), some (.ref l), z4] ∧ H' l = some (.lst ys) ∧ PtsT K H' ys pss ∧ P23 pss ∧ (∀ ps ∈ pss, ∀ q ∈ ps, RB (40 + 8) q) ∧ (pss.map fun ps => ps.getD 0 0) = qs.take pss.length ∧ pss.length ≤ i ∧ ((tell pss).length : Int) + room = 1 + d ∧ 0 ≤ room ∧ (room = 0 ∨ pss.length = i))
    ⟨Mv.put' o1.mv hl |>.trans mw, pw, ew, hq, 1 + d, [], [], none, rfl, mw _ _ la upd_same, .nil, (fun _ h => nomatch h), (fun _ h => nomatch h), rfl, Nat.le_refl _, by simp [tell], by lia, .inr rfl⟩ (fun i σ H' _ h => SqL.of h.2.2.1) ?_ ?_
  · rintro i v σ H' hv hR1
    obtain ⟨mv, pn', ew', hq', room, ys, pss, z4, rfl, el, hps, h23, hrb, hplc, hpi, hrm, hr0, hdone⟩ := hR1
    try clear hR1
    obtain ⟨x, hx, vx, rfl, hvx⟩ := (Paired.get hq' hv)
    have hxn : NumT H' (.ref vx) x := ⟨_, rfl, hvx⟩
    have hxb := (hb x (List.mem_of_getElem? hx)).1
    have hiq : i < qs.length := (List.getElem?_eq_some_iff.mp hx).1
    have hyl := hps.length
    have add : ∀ (ps : List Rat), ps.getD 0 0 = x → pss.length = i → ((pss ++ [ps]).map fun ps => ps.getD 0 0) = qs.take (pss ++ [ps]).length := fun ps h0 hlen => by
      rw [List.map_append, hplc, List.length_append, List.length_singleton, hlen, List.take_add_one, hx]
      show qs.take i ++ [ps.getD 0 0] = qs.take i ++ [x]
      rw [h0]
    refine ⟨_, rfl, _, _, rfl, rfl, _, rfl, ?_⟩
    by_cases h2 : (1 : Int) < room
    · refine iteTc (by rw [decide_eq_true h2] <;> rfl) ?_
      have hlen : pss.length = i := by lia
      refine ⟨_, rfl, a, 4, rfl, pn', by decide, by decide, fun e H2 e0 e1 o2 p2 => ⟨rfl, _, rfl, ?_⟩⟩
      have el2 := o2.mv _ _ la el
      refine ite2 (fun c => ?_) (fun c => ?_)
      · refine ⟨_, rfl, .inl ⟨rfl, _, SqL.of el2⟩, _, rfl, _, rfl, a, rfl, p2, fun y1 r1 H3 m3 p3 hr1 bn1 bd1 => ⟨_, rfl, a, rfl, p3, fun y2 r2 H4 m4 p4 hr2 bn2 bd2 => ⟨P3, fun t ht => ?_⟩⟩⟩
        have M4 := (o2.mv.trans m3).trans m4
        have s5 : Same H4 (upd H4 t (.tup [.ref vx, .ref r1, .ref r2])) := Same.new ht
        have et : (upd H4 t (.tup [.ref vx, .ref r1, .ref r2])) t = some (.tup [.ref vx, .ref r1, .ref r2]) := upd_same
        have hr1' : H4 r1 = some (nT y1) := m4 r1 _ (p3.ne hr1 (nT_ne y1)) hr1
        have el5 := s5 _ _ (M4 _ _ la el)
        have tn : Nums K (upd H4 t (.tup [.ref vx, .ref r1, .ref r2])) [.ref vx, .ref r1, .ref r2] [x, y1, y2] := .cons (((hxn.mv pn' M4).same s5).num) (.cons (NumV.of (s5 _ _ hr1')) (.cons (NumV.of (s5 _ _ hr2)) .nil))
        have Mt := M4.trans s5.mv
        have hv5 := Mt vx _ (pn'.ne hvx (nT_ne x)) hvx
        have pt := p4.sm s5
        generalize upd H4 t (.tup [.ref vx, .ref r1, .ref r2]) = H5 at s5 et el5 tn Mt pt hv5 ⊢
        have pt5 : PtsT K H5 ys pss := PtsT.mv hps pn' Mt
        have nt5 : PtT K H5 (.ref t) [x, y1, y2] := ⟨t, _, vx, rfl, SqT.of et, tn, rfl, hv5⟩
        refine ⟨l, ys, .ref t, rfl, rfl, el5, Nat.lt_of_lt_of_le (show ys.length < 300 by lia) (by decide), ?_⟩
        refine ⟨_, rfl, _, _, rfl, rfl, ?_⟩
        refine ⟨Mv.put' (mv.trans Mt) hl, pt.put' la, by rw [upd_ne wl]; exact Mt _ _ wa ew', NumsT.put (NumsT.mv hq' pn' Mt) el5, room - 2, ys ++ [.ref t], pss ++ [[x, y1, y2]], some (.ref vx), ?_, upd_same, Paired.snoc (PtsT.put pt5 el5) (nt5.put el5), ?_, ?_, add _ rfl hlen, by rw [List.length_append, List.length_singleton]; lia, ?_, by lia, .inr (by rw [List.length_append, List.length_singleton]; lia)⟩
        · rfl
        · intro ps hp
          rcases List.mem_append.mp hp with z | z
          · exact h23 ps z
          · rw [List.mem_singleton.mp z]; exact .inr rfl
        · intro ps hp c hc
          rcases List.mem_append.mp hp with z | z
          · exact hrb ps z c hc
          · rw [List.mem_singleton.mp z] at hc
            rcases List.mem_cons.mp hc with z | hc
            · rw [z]; exact hxb
            · rcases List.mem_cons.mp hc with z | hc
              · rw [z]; exact RB.mono ⟨bn1, bd1⟩ (by lia)
              · rw [List.mem_singleton.mp hc]; exact RB.mono ⟨bn2, bd2⟩ (by lia)
        · rw [tell_snoc, List.length_append, tellP_length]
          show (((tell pss).length + 2 : Nat) : Int) + (room - 2) = 1 + d
          lia
      · refine ⟨_, rfl, _, _, rfl, rfl, _, rfl, ?_⟩
        refine iteTc (by rw [decide_eq_true (show (0 : Int) < room by lia)] <;> rfl) ?_
        refine ⟨_, rfl, .inl ⟨rfl, _, SqL.of el2⟩, _, rfl, _, rfl, a, rfl, p2, fun y1 r1 H3 m3 p3 hr1 bn1 bd1 => ⟨P2, fun t ht => ?_⟩⟩
        have M4 : Mv a H' H3 := o2.mv.trans m3
        have s5 : Same H3 (upd H3 t (.tup [.ref vx, .ref r1])) := Same.new ht
        have et : (upd H3 t (.tup [.ref vx, .ref r1])) t = some (.tup [.ref vx, .ref r1]) := upd_same
        have el5 := s5 _ _ (M4 _ _ la el)
        have tn : Nums K (upd H3 t (.tup [.ref vx, .ref r1])) [.ref vx, .ref r1] [x, y1] := .cons (((hxn.mv pn' M4).same s5).num) (.cons (NumV.of (s5 _ _ hr1)) .nil)
        have Mt := M4.trans s5.mv
        have hv5 := Mt vx _ (pn'.ne hvx (nT_ne x)) hvx
        have pt := p3.sm s5
        generalize upd H3 t (.tup [.ref vx, .ref r1]) = H5 at s5 et el5 tn Mt pt hv5 ⊢
        have pt5 : PtsT K H5 ys pss := PtsT.mv hps pn' Mt
        have nt5 : PtT K H5 (.ref t) [x, y1] := ⟨t, _, vx, rfl, SqT.of et, tn, rfl, hv5⟩
        refine ⟨l, ys, .ref t, rfl, rfl, el5, Nat.lt_of_lt_of_le (show ys.length < 300 by lia) (by decide), ?_⟩
        refine ⟨_, rfl, _, _, rfl, rfl, ?_⟩
        refine ⟨Mv.put' (mv.trans Mt) hl, pt.put' la, by rw [upd_ne wl]; exact Mt _ _ wa ew', NumsT.put (NumsT.mv hq' pn' Mt) el5, room - 1, ys ++ [.ref t], pss ++ [[x, y1]], some (.ref vx), ?_, upd_same, Paired.snoc (PtsT.put pt5 el5) (nt5.put el5), ?_, ?_, add _ rfl hlen, by rw [List.length_append, List.length_singleton]; lia, ?_, by lia, .inr (by rw [List.length_append, List.length_singleton]; lia)⟩
        · rfl
        · intro ps hp
          rcases List.mem_append.mp hp with z | z
          · exact h23 ps z
          · rw [List.mem_singleton.mp z]; exact .inl rfl
        · intro ps hp c hc
          rcases List.mem_append.mp hp with z | z
          · exact hrb ps z c hc
          · rw [List.mem_singleton.mp z] at hc
            rcases List.mem_cons.mp hc with z | hc
            · rw [z]; exact hxb
            · rw [List.mem_singleton.mp hc]; exact RB.mono ⟨bn1, bd1⟩ (by lia)
        · rw [tell_snoc, List.length_append, tellP_length]
          show (((tell pss).length + 1 : Nat) : Int) + (room - 1) = 1 + d
          lia
    · refine iteFc (by rw [decide_eq_false h2] <;> rfl) (iteF ?_)
      refine ⟨_, rfl, _, _, rfl, rfl, _, rfl, ?_⟩
      by_cases h0 : (0 : Int) < room
      · refine iteTc (by rw [decide_eq_true h0] <;> rfl) ?_
        have hlen : pss.length = i := by lia
        refine ⟨_, rfl, .inl ⟨rfl, _, SqL.of el⟩, _, rfl, _, rfl, a, rfl, pn', fun y1 r1 H3 m3 p3 hr1 bn1 bd1 => ⟨P2, fun t ht => ?_⟩⟩
        have M4 : Mv a H' H3 := m3
        have s5 : Same H3 (upd H3 t (.tup [.ref vx, .ref r1])) := Same.new ht
        have et : (upd H3 t (.tup [.ref vx, .ref r1])) t = some (.tup [.ref vx, .ref r1]) := upd_same
        have el5 := s5 _ _ (M4 _ _ la el)
        have tn : Nums K (upd H3 t (.tup [.ref vx, .ref r1])) [.ref vx, .ref r1] [x, y1] := .cons (((hxn.mv pn' M4).same s5).num) (.cons (NumV.of (s5 _ _ hr1)) .nil)
        have Mt := M4.trans s5.mv
        have hv5 := Mt vx _ (pn'.ne hvx (nT_ne x)) hvx
        have pt := p3.sm s5
        generalize upd H3 t (.tup [.ref vx, .ref r1]) = H5 at s5 et el5 tn Mt pt hv5 ⊢
        have pt5 : PtsT K H5 ys pss := PtsT.mv hps pn' Mt
        have nt5 : PtT K H5 (.ref t) [x, y1] := ⟨t, _, vx, rfl, SqT.of et, tn, rfl, hv5⟩
        refine ⟨l, ys, .ref t, rfl, rfl, el5, Nat.lt_of_lt_of_le (show ys.length < 300 by lia) (by decide), ?_⟩
        refine ⟨_, rfl, _, _, rfl, rfl, ?_⟩
        refine ⟨Mv.put' (mv.trans Mt) hl, pt.put' la, by rw [upd_ne wl]; exact Mt _ _ wa ew', NumsT.put (NumsT.mv hq' pn' Mt) el5, room - 1, ys ++ [.ref t], pss ++ [[x, y1]], some (.ref vx), ?_, upd_same, Paired.snoc (PtsT.put pt5 el5) (nt5.put el5), ?_, ?_, add _ rfl hlen, by rw [List.length_append, List.length_singleton]; lia, ?_, by lia, .inr (by rw [List.length_append, List.length_singleton]; lia)⟩
        · rfl
        · intro ps hp
          rcases List.mem_append.mp hp with z | z
          · exact h23 ps z
          · rw [List.mem_singleton.mp z]; exact .inl rfl
        · intro ps hp c hc
          rcases List.mem_append.mp hp with z | z
          · exact hrb ps z c hc
          · rw [List.mem_singleton.mp z] at hc
            rcases List.mem_cons.mp hc with z | hc
            · rw [z]; exact hxb
            · rw [List.mem_singleton.mp hc]; exact RB.mono ⟨bn1, bd1⟩ (by lia)
        · rw [tell_snoc, List.length_append, tellP_length]
          show (((tell pss).length + 1 : Nat) : Int) + (room - 1) = 1 + d
          lia
      · exact iteFc (by rw [decide_eq_false h0] <;> rfl) ⟨mv, pn', ew', hq', room, ys, pss, _, rfl, el, hps, h23, hrb, hplc, by lia, hrm, hr0, .inl (by lia)⟩
  · rintro σ H' hR2
    obtain ⟨mv, pn', ew', hq', room, ys, pss, z4, rfl, el, hps, h23, hrb, hplc, hpi, hrm, hr0, hdone⟩ := hR2
    try clear hR2
    have hpl : 1 ≤ pss.length := by
      have h2 := tell_length_le pss fun ps hp => by have := h23 ps hp; lia
      lia
    have la' : H' l = some (.lst ys) := el
    refine ⟨_, rfl, l, ys, rfl, .inl ⟨SqL.of el, fun r hr => ?_⟩⟩
    have sr : Same H' (upd H' r (.tup ys)) := Same.new hr
    refine q r _ ys pss (mv.trans sr.mv) (pn'.sm sr) (SqT.of upd_same) (PtsT.same hps sr) h23 hrb hpl (by lia) (by lia) ?_
    rw [hplc]
    exact (List.take_sublist _ _).nodup hnd
theorem sc__law_no_point : FnScope ["_law_pen_here", "_law_points_here", "_law_x", "_law_odd", "_law_some"] ["_law_pen_here", "_law_points_here"] (defScope (top 69)) := ⟨rfl, rfl, rfl, by decide +kernel, rfl, by decide +kernel, by decide +kernel⟩
set_option maxHeartbeats 4000000 in
theorem ok__law_no_point {f : Addr} {fd : FuncData} (F : Fun K "_law_no_point" "_law_no_point" (top 69) f fd) (F__law_draw : Fd P w K mg base 33 "_law_draw" ["_law_pen_here", "_law_many"] (spDraw)) (b_len : mg "len" = none) (hT : P.given.tree = none) :
    FnOk P w K mg base CX0 34 f fd ["_law_pen_here", "_law_points_here"] (spNoPt K) := by
  refine F.ok sc__law_no_point (fun vs H Q E h => ?_) (fun cdv A outer s H vs Q E hr h => ?_)
  · obtain ⟨_, _, _, _, rfl, _⟩ := h; rfl
  refine ⟨_, (@pss_consC _ _ _ _ _ K _ (@ps_set _ _ 2 _ _ _ _ sc__law_no_point.nd rfl (Or.inl rfl) (@pe_ix _ _ _ _ _ _ _ (ixT K) (@pe_ix _ _ _ _ _ _ _ (ixT K) (pv 1) (@pe_fn _ _ _ _ _ _ _ _ _ _ _ F__law_draw hr rfl (@pa_cons _ _ _ _ _ (pv 0) (@pa_cons _ _ _ _ _ (@pe_callB _ _ _ _ _ _ _ _ _ (lenK K) rfl b_len bt_len (@pa_cons _ _ _ _ _ (pv 1) pa_nil (by rfl)) (by decide) (by decide) (by rfl) (by rfl)) pa_nil (by rfl)) (by rfl)) (by decide) (by decide) (by rfl) (by rfl)) (fun u v => rfl)) pe_int (fun u v => rfl)) (by rfl) (by first   | exact .inl rfl   | exact .inr rfl   | assumption)) (@pss_consC _ _ _ _ _ K _ (@ps_setk _ _ _ _ 3 _ _ sc__law_no_point.nd rfl (Or.inl rfl) (@pek_ix _ _ _ _ _ _ _ (ixL K) (@pek_lst _ _ _ _ (@pak_cons _ _ _ _ _ (@pek_tup _ _ _ _ _ (@pak_cons _ _ _ _ _ pek_int (@pak_cons _ _ _ _ _ pek_int pak_nil se_c) se_c)) (@pak_cons _ _ _ _ _ (@pek_tup _ _ _ _ _ (@pak_cons _ _ _ _ _ pek_int (@pak_cons _ _ _ _ _ pek_int pak_nil se_c) se_c)) (@pak_cons _ _ _ _ _ (@pek_tup _ _ _ _ _ (@pak_cons _ _ _ _ _ pek_int (@pak_cons _ _ _ _ _ pek_int pak_nil se_c) se_c)) (@pak_cons _ _ _ _ _ (@pek_tup _ _ _ _ _ (@pak_cons _ _ _ _ _ pek_int (@pak_cons _ _ _ _ _ pek_neg pak_nil se_u) se_c)) (@pak_cons _ _ _ _ _ pek_int (@pak_cons _ _ _ _ _ pek_non (@pak_cons _ _ _ _ _ pek_str (@pak_cons _ _ _ _ _ (@pek_tup _ _ _ _ _ (@pak_cons _ _ _ _ _ pek_int pak_nil se_c)) (@pak_cons _ _ _ _ _ (@pek_lst _ _ _ _ (@pak_cons _ _ _ _ _ pek_int (@pak_cons _ _ _ _ _ pek_int pak_nil se_c) se_c)) (@pak_cons _ _ _ _ _ (@pek_tup _ _ _ _ _ (@pak_cons _ _ _ _ _ pek_bl (@pak_cons _ _ _ _ _ pek_int pak_nil se_c) se_c)) (@pak_cons _ _ _ _ _ (@pek_tup _ _ _ _ _ (@pak_cons _ _ _ _ _ pek_int (@pak_cons _ _ _ _ _ pek_int (@pak_cons _ _ _ _ _ pek_int pak_nil se_c) se_c) se_c)) pak_nil se_t) se_t) se_l) se_t) se_c) se_c) se_c) se_t) se_t) se_t) se_t)) (@pek _ _ _ (@pe_fn _ _ _ _ _ _ _ _ _ _ _ F__law_draw hr rfl (@pa_cons _ _ _ _ _ (pv 0) (@pa_cons _ _ _ _ _ pe_int pa_nil (by rfl)) (by rfl)) (by decide) (by decide) (by rfl) (by rfl))) (fun u v => rfl)) (by rfl) (by first   | exact .inl rfl   | exact .inr rfl   | assumption)) (@pss_consC _ _ _ _ _ K _ (@ps_setk _ _ _ _ 4 _ _ sc__law_no_point.nd rfl (Or.inl rfl) (@pek_lst _ _ _ _ (@pak_cons _ _ _ _ _ (@pek_tup _ _ _ _ _ (@pak_cons _ _ _ _ _ (@pek _ _ _ (pv 2)) (@pak_cons _ _ _ _ _ (@pek_tup _ _ _ _ _ (@pak_cons _ _ _ _ _ pek_int (@pak_cons _ _ _ _ _ pek_int pak_nil se_c) se_c)) pak_nil se_t) se_n)) (@pak_cons _ _ _ _ _ (@pek_tup _ _ _ _ _ (@pak_cons _ _ _ _ _ (@pek _ _ _ (pv 2)) (@pak_cons _ _ _ _ _ (@pek_tup _ _ _ _ _ (@pak_cons _ _ _ _ _ pek_int (@pak_cons _ _ _ _ _ pek_int pak_nil se_c) se_c)) (@pak_cons _ _ _ _ _ (@pek_tup _ _ _ _ _ (@pak_cons _ _ _ _ _ pek_int (@pak_cons _ _ _ _ _ pek_int pak_nil se_c) se_c)) pak_nil se_t) se_t) se_n)) (@pak_cons _ _ _ _ _ (@pek_tup _ _ _ _ _ (@pak_cons _ _ _ _ _ (@pek _ _ _ (pv 3)) (@pak_cons _ _ _ _ _ (@pek_tup _ _ _ _ _ (@pak_cons _ _ _ _ _ pek_int (@pak_cons _ _ _ _ _ pek_int pak_nil se_c) se_c)) pak_nil se_t) se_n)) (@pak_cons _ _ _ _ _ (@pek_tup _ _ _ _ _ (@pak_cons _ _ _ _ _ (@pek_tup _ _ _ _ _ (@pak_cons _ _ _ _ _ pek_int (@pak_cons _ _ _ _ _ pek_int pak_nil se_c) se_c)) (@pak_cons _ _ _ _ _ (@pek _ _ _ (pv 3)) pak_nil se_n) se_t)) (@pak_cons _ _ _ _ _ (@pek_tup _ _ _ _ _ (@pak_cons _ _ _ _ _ (@pek_tup _ _ _ _ _ (@pak_cons _ _ _ _ _ pek_int (@pak_cons _ _ _ _ _ pek_int pak_nil se_c) se_c)) (@pak_cons _ _ _ _ _ (@pek_tup _ _ _ _ _ (@pak_cons _ _ _ _ _ pek_int (@pak_cons _ _ _ _ _ pek_int pak_nil se_c) se_c)) (@pak_cons _ _ _ _ _ (@pek _ _ _ (pv 3)) pak_nil se_n) se_t) se_t)) (@pak_cons _ _ _ _ _ (@pek_tup _ _ _ _ _ (@pak_cons _ _ _ _ _ (@pek_tup _ _ _ _ _ (@pak_cons _ _ _ _ _ pek_int (@pak_cons _ _ _ _ _ pek_int pak_nil se_c) se_c)) pak_nil se_t)) (@pak_cons _ _ _ _ _ pek_non (@pak_cons _ _ _ _ _ pek_int pak_nil se_c) se_c) se_t) se_t) se_t) se_t) se_t) se_t)) (by rfl) (by first   | exact .inl rfl   | exact .inr rfl   | assumption)) (@pss_one _ _ _ (@ps_ret _ _ _ _ (@pe_ix _ _ _ _ _ _ _ (ixL K) (@pe_op _ _ _ _ _ _ _ _ op_cat (pv 4) (@pe_lst _ _ _ _ (@pa_cons _ _ _ _ _ (@pe_lst _ _ _ _ (@pa_cons _ _ _ _ _ (@pe_tup _ _ _ _ _ (@pa_cons _ _ _ _ _ pe_int (@pa_cons _ _ _ _ _ pe_int pa_nil (by rfl)) (by rfl))) (@pa_cons _ _ _ _ _ (@pe_tup _ _ _ _ _ (@pa_cons _ _ _ _ _ pe_int (@pa_cons _ _ _ _ _ pe_int pa_nil (by rfl)) (by rfl))) pa_nil (by rfl)) (by rfl))) (@pa_cons _ _ _ _ _ pe_str (@pa_cons _ _ _ _ _ (@pe_tup _ _ _ _ _ (@pa_cons _ _ _ _ _ (@pe_tup _ _ _ _ _ (@pa_cons _ _ _ _ _ pe_int (@pa_cons _ _ _ _ _ pe_int pa_nil (by rfl)) (by rfl))) (@pa_cons _ _ _ _ _ (@pe_tup _ _ _ _ _ (@pa_cons _ _ _ _ _ pe_int (@pa_cons _ _ _ _ _ pe_int pa_nil (by rfl)) (by rfl))) (@pa_cons _ _ _ _ _ (@pe_tup _ _ _ _ _ (@pa_cons _ _ _ _ _ pe_int (@pa_cons _ _ _ _ _ pe_int pa_nil (by rfl)) (by rfl))) (@pa_cons _ _ _ _ _ (@pe_tup _ _ _ _ _ (@pa_cons _ _ _ _ _ pe_int (@pa_cons _ _ _ _ _ pe_int pa_nil (by rfl)) (by rfl))) pa_nil (by rfl)) (by rfl)) (by rfl)) (by rfl))) pa_nil (by rfl)) (by rfl)) (by rfl)))) (@pe_fn _ _ _ _ _ _ _ _ _ _ _ F__law_draw hr rfl (@pa_cons _ _ _ _ _ (pv 0) (@pa_cons _ _ _ _ _ pe_int pa_nil (by rfl)) (by rfl)) (by decide) (by decide) (by rfl) (by rfl)) (fun u v => rfl)))) (by rfl)) (by rfl)) (by rfl)), ?_⟩
  obtain ⟨p, r, xs, pss, rfl, pn, ok, q⟩ := h
  have P1 : 1 ≤ sizeLine := by decide
  have P2 : 2 ≤ sizeLine := by decide
  have P3 : 3 ≤ sizeLine := by decide
  have P4 : 4 ≤ sizeLine := by decide
  have P0 : 0 ≤ sizeLine := by decide
  have P8 : 8 ≤ sizeLine := by decide
  have P11 : 11 ≤ sizeLine := by decide
  have P12 : 12 ≤ sizeLine := by decide
  have hxl := ok.P.length
  have hl12 := ok.len
  have h1 := ok.h1
  refine ⟨_, rfl, _, rfl, _, rfl, r, xs, rfl, .inr ok.S, p, _, rfl, pn, by lia, by lia, fun a H2 a0 a1 o2 pk => ?_⟩
  have ok := ok.mv pn (OnlyAt.mv o2)
  have M2 := OnlyAt.mv o2
  obtain ⟨A, rfl⟩ : ∃ A : Nat, (A : Int) = a := ⟨a.toNat, by lia⟩
  have hA0 : A < xs.length := by lia
  have hx : xs[A]? = some xs[A] := List.getElem?_eq_getElem hA0
  obtain ⟨ps, hps, b, us, pp, hb, hus, hun, hu0, hpp⟩ := (Paired.get ok.P hx)
  rw [hb] at hx
  have hmem : ps.getD 0 0 ∈ pss.map fun ps => ps.getD 0 0 := List.mem_map_of_mem (f := fun ps : List Rat => ps.getD 0 0) (List.mem_of_getElem? hps)
  refine ⟨r, xs, _, _, rfl, rfl, ok.S, atI_nat hx, b, us, _, _, rfl, rfl, hus, atI_nat (j := 0) hu0, ?_⟩
  have hxK : Kp p H2 (fun G => G pp = some (nT (ps.getD 0 0))) := fun G m => m _ _ (pk.ne hpp (nT_ne _)) hpp
  clear hx hus hun hu0 hpp hps hb o2 pn
  have hA : ∀ y ∈ ([] : List V), Kp p H2 (fun G => Nb K G y false) := fun _ h => nomatch h
  have sT : Same H2 H2 := Same.refl _
  refine ⟨P2, fun A1 e => ?_⟩
  have sN : Same H2 (upd H2 A1 (.tup [.int 2, .int 4])) := Same.new e
  have ne := Pen.ne' pk e
  have h_A1 : Kp p (upd H2 A1 (.tup [.int 2, .int 4])) (fun G => SqT K G A1 [.int 2, .int 4]) := fun _ m => SqT.of (m _ _ ne upd_same)
  have hA := kps_same hA sN
  have sT := sT.trans sN
  have pk := pk.sm sN
  generalize upd H2 A1 (.tup [.int 2, .int 4]) = AH1 at hA h_A1 sT pk ⊢
  clear sN ne e
  have hA := kps_snoc hA (x := .ref A1) (fun G m => .nums (h_A1 G m) (by decide))
  clear h_A1
  refine ⟨P2, fun A2 e => ?_⟩
  have sN : Same AH1 (upd AH1 A2 (.tup [.int 1, .int 0])) := Same.new e
  have ne := Pen.ne' pk e
  have h_A2 : Kp p (upd AH1 A2 (.tup [.int 1, .int 0])) (fun G => SqT K G A2 [.int 1, .int 0]) := fun _ m => SqT.of (m _ _ ne upd_same)
  have hA := kps_same hA sN
  have sT := sT.trans sN
  have pk := pk.sm sN
  generalize upd AH1 A2 (.tup [.int 1, .int 0]) = AH2 at hA h_A2 sT pk ⊢
  clear sN ne e
  have hA := kps_snoc hA (x := .ref A2) (fun G m => .nums (h_A2 G m) (by decide))
  clear h_A2
  refine ⟨P2, fun A3 e => ?_⟩
  have sN : Same AH2 (upd AH2 A3 (.tup [.int 0, .int 2])) := Same.new e
  have ne := Pen.ne' pk e
  have h_A3 : Kp p (upd AH2 A3 (.tup [.int 0, .int 2])) (fun G => SqT K G A3 [.int 0, .int 2]) := fun _ m => SqT.of (m _ _ ne upd_same)
  have hA := kps_same hA sN
  have sT := sT.trans sN
  have pk := pk.sm sN
  generalize upd AH2 A3 (.tup [.int 0, .int 2]) = AH3 at hA h_A3 sT pk ⊢
  clear sN ne e
  have hA := kps_snoc hA (x := .ref A3) (fun G m => .nums (h_A3 G m) (by decide))
  clear h_A3
  refine ⟨_, rfl, P2, fun A4 e => ?_⟩
  have sN : Same AH3 (upd AH3 A4 (.tup [.int 1, .int (-1)])) := Same.new e
  have ne := Pen.ne' pk e
  have h_A4 : Kp p (upd AH3 A4 (.tup [.int 1, .int (-1)])) (fun G => SqT K G A4 [.int 1, .int (-1)]) := fun _ m => SqT.of (m _ _ ne upd_same)
  have hA := kps_same hA sN
  have sT := sT.trans sN
  have pk := pk.sm sN
  generalize upd AH3 A4 (.tup [.int 1, .int (-1)]) = AH4 at hA h_A4 sT pk ⊢
  clear sN ne e
  have hA := kps_snoc hA (x := .ref A4) (fun G m => .nums (h_A4 G m) (by decide))
  clear h_A4
  have hA := kps_snoc hA (x := .int 1) (fun G m => .no (.of (.int 1)) (kit_it K))
  have hA := kps_snoc hA (x := .non) (fun G m => .no (.of .non) (kit_nt K))
  have hA := kps_snoc hA (x := .str "1") (fun G m => .no (.of (.str "1")) (kit_st K))
  refine ⟨P1, fun A5 e => ?_⟩
  have sN : Same AH4 (upd AH4 A5 (.tup [.int 1])) := Same.new e
  have ne := Pen.ne' pk e
  have h_A5 : Kp p (upd AH4 A5 (.tup [.int 1])) (fun G => SqT K G A5 [.int 1]) := fun _ m => SqT.of (m _ _ ne upd_same)
  have hA := kps_same hA sN
  have sT := sT.trans sN
  have pk := pk.sm sN
  generalize upd AH4 A5 (.tup [.int 1]) = AH5 at hA h_A5 sT pk ⊢
  clear sN ne e
  have hA := kps_snoc hA (x := .ref A5) (fun G m => .len (h_A5 G m) (show 1 ≠ 2 by decide))
  clear h_A5
  refine ⟨P2, fun A6 e => ?_⟩
  have sN : Same AH5 (upd AH5 A6 (.lst [.int 1, .int 1])) := Same.new e
  have ne := Pen.ne' pk e
  have h_A6 : Kp p (upd AH5 A6 (.lst [.int 1, .int 1])) (fun G => SqL K G A6 [.int 1, .int 1]) := fun _ m => SqL.of (m _ _ ne upd_same)
  have hA := kps_same hA sN
  have sT := sT.trans sN
  have pk := pk.sm sN
  generalize upd AH5 A6 (.lst [.int 1, .int 1]) = AH6 at hA h_A6 sT pk ⊢
  clear sN ne e
  have hA := kps_snoc hA (x := .ref A6) (fun G m => .no (.lst (h_A6 G m)) (kit_lt K))
  clear h_A6
  refine ⟨P2, fun A7 e => ?_⟩
  have sN : Same AH6 (upd AH6 A7 (.tup [.bl true, .int 1])) := Same.new e
  have ne := Pen.ne' pk e
  have h_A7 : Kp p (upd AH6 A7 (.tup [.bl true, .int 1])) (fun G => SqT K G A7 [.bl true, .int 1]) := fun _ m => SqT.of (m _ _ ne upd_same)
  have hA := kps_same hA sN
  have sT := sT.trans sN
  have pk := pk.sm sN
  generalize upd AH6 A7 (.tup [.bl true, .int 1]) = AH7 at hA h_A7 sT pk ⊢
  clear sN ne e
  have hA := kps_snoc hA (x := .ref A7) (fun G m => .one (h_A7 G m) (.bl true))
  clear h_A7
  refine ⟨P3, fun A8 e => ?_⟩
  have sN : Same AH7 (upd AH7 A8 (.tup [.int 1, .int 1, .int 1])) := Same.new e
  have ne := Pen.ne' pk e
  have h_A8 : Kp p (upd AH7 A8 (.tup [.int 1, .int 1, .int 1])) (fun G => SqT K G A8 [.int 1, .int 1, .int 1]) := fun _ m => SqT.of (m _ _ ne upd_same)
  have hA := kps_same hA sN
  have sT := sT.trans sN
  have pk := pk.sm sN
  generalize upd AH7 A8 (.tup [.int 1, .int 1, .int 1]) = AH8 at hA h_A8 sT pk ⊢
  clear sN ne e
  have hA := kps_snoc hA (x := .ref A8) (fun G m => .len (h_A8 G m) (show 3 ≠ 2 by decide))
  clear h_A8
  refine ⟨P11, fun A9 e => ?_⟩
  have sN : Same AH8 (upd AH8 A9 (.lst [.ref A1, .ref A2, .ref A3, .ref A4, .int 1, .non, .str "1", .ref A5, .ref A6, .ref A7, .ref A8])) := Same.new e
  have ne := Pen.ne' pk e
  have h_A9 : Kp p (upd AH8 A9 (.lst [.ref A1, .ref A2, .ref A3, .ref A4, .int 1, .non, .str "1", .ref A5, .ref A6, .ref A7, .ref A8])) (fun G => SqL K G A9 [.ref A1, .ref A2, .ref A3, .ref A4, .int 1, .non, .str "1", .ref A5, .ref A6, .ref A7, .ref A8]) := fun _ m => SqL.of (m _ _ ne upd_same)
  have ex : (upd AH8 A9 (.lst [.ref A1, .ref A2, .ref A3, .ref A4, .int 1, .non, .str "1", .ref A5, .ref A6, .ref A7, .ref A8])) A9 = some (.lst [.ref A1, .ref A2, .ref A3, .ref A4, .int 1, .non, .str "1", .ref A5, .ref A6, .ref A7, .ref A8]) := upd_same
  have hA := kps_same hA sN
  have sT := sT.trans sN
  have pk := pk.sm sN
  generalize upd AH8 A9 (.lst [.ref A1, .ref A2, .ref A3, .ref A4, .int 1, .non, .str "1", .ref A5, .ref A6, .ref A7, .ref A8]) = AH9 at hA h_A9 sT pk ex ⊢
  clear sN e
  refine ⟨_, rfl, p, 11, rfl, pk, by decide, by decide, fun i H3 i0 i1 o3 pk3 => ?_⟩
  obtain ⟨od, hod, hodm⟩ := (at_menuK (n := 11) hA rfl i0 i1)
  refine ⟨_, _, _, od, rfl, rfl, SqL.of ((OnlyAt.mv o3) _ _ ne ex), hod, ?_⟩
  have hod := (hA od hodm).mv (OnlyAt.mv o3)
  have hx := (hxK.same sT).mv (OnlyAt.mv o3)
  have M3 := (M2.trans sT.mv).trans (OnlyAt.mv o3)
  have pk := pk3
  clear hA sT ex ne o3 hodm hxK M2 pk3
  have hA : ∀ y ∈ ([] : List V), Kp p H3 (fun G => NewR K G pss y 1) := fun _ h => nomatch h
  have sT : Same H3 H3 := Same.refl _
  refine ⟨_, rfl, P2, fun B1 e => ?_⟩
  have sN : Same H3 (upd H3 B1 (.tup [.int 1, .int 1])) := Same.new e
  have ne := Pen.ne' pk e
  have h_B1 : Kp p (upd H3 B1 (.tup [.int 1, .int 1])) (fun G => SqT K G B1 [.int 1, .int 1]) := fun _ m => SqT.of (m _ _ ne upd_same)
  have hA := kps_same hA sN
  have hx := hx.same sN
  have hod := hod.same sN
  have sT := sT.trans sN
  have pk := pk.sm sN
  generalize upd H3 B1 (.tup [.int 1, .int 1]) = BH1 at hA h_B1 hx hod sT pk ⊢
  clear sN ne e
  refine ⟨P2, fun B2 e => ?_⟩
  have sN : Same BH1 (upd BH1 B2 (.tup [.ref pp, .ref B1])) := Same.new e
  have ne := Pen.ne' pk e
  have h_B2 : Kp p (upd BH1 B2 (.tup [.ref pp, .ref B1])) (fun G => SqT K G B2 [.ref pp, .ref B1]) := fun _ m => SqT.of (m _ _ ne upd_same)
  have hA := kps_same hA sN
  have hx := hx.same sN
  have hod := hod.same sN
  have h_B1 := h_B1.same sN
  have sT := sT.trans sN
  have pk := pk.sm sN
  generalize upd BH1 B2 (.tup [.ref pp, .ref B1]) = BH2 at hA h_B2 hx hod h_B1 sT pk ⊢
  clear sN ne e
  have hA := kps_snoc hA (x := .ref B2) (fun G m => .twice (ps := [ps.getD 0 0, 1]) ⟨_, _, pp, rfl, h_B2 G m, .cons (NumV.of (hx G m)) (.cons ⟨_, rfl, h_B1 G m⟩ .nil), rfl, hx G m⟩ (.inl rfl) hmem)
  clear h_B1 h_B2
  refine ⟨_, rfl, P2, fun B3 e => ?_⟩
  have sN : Same BH2 (upd BH2 B3 (.tup [.int 0, .int 1])) := Same.new e
  have ne := Pen.ne' pk e
  have h_B3 : Kp p (upd BH2 B3 (.tup [.int 0, .int 1])) (fun G => SqT K G B3 [.int 0, .int 1]) := fun _ m => SqT.of (m _ _ ne upd_same)
  have hA := kps_same hA sN
  have hx := hx.same sN
  have hod := hod.same sN
  have sT := sT.trans sN
  have pk := pk.sm sN
  generalize upd BH2 B3 (.tup [.int 0, .int 1]) = BH3 at hA h_B3 hx hod sT pk ⊢
  clear sN ne e
  refine ⟨P2, fun B4 e => ?_⟩
  have sN : Same BH3 (upd BH3 B4 (.tup [.int 1, .int 1])) := Same.new e
  have ne := Pen.ne' pk e
  have h_B4 : Kp p (upd BH3 B4 (.tup [.int 1, .int 1])) (fun G => SqT K G B4 [.int 1, .int 1]) := fun _ m => SqT.of (m _ _ ne upd_same)
  have hA := kps_same hA sN
  have hx := hx.same sN
  have hod := hod.same sN
  have h_B3 := h_B3.same sN
  have sT := sT.trans sN
  have pk := pk.sm sN
  generalize upd BH3 B4 (.tup [.int 1, .int 1]) = BH4 at hA h_B4 hx hod h_B3 sT pk ⊢
  clear sN ne e
  refine ⟨P3, fun B5 e => ?_⟩
  have sN : Same BH4 (upd BH4 B5 (.tup [.ref pp, .ref B3, .ref B4])) := Same.new e
  have ne := Pen.ne' pk e
  have h_B5 : Kp p (upd BH4 B5 (.tup [.ref pp, .ref B3, .ref B4])) (fun G => SqT K G B5 [.ref pp, .ref B3, .ref B4]) := fun _ m => SqT.of (m _ _ ne upd_same)
  have hA := kps_same hA sN
  have hx := hx.same sN
  have hod := hod.same sN
  have h_B3 := h_B3.same sN
  have h_B4 := h_B4.same sN
  have sT := sT.trans sN
  have pk := pk.sm sN
  generalize upd BH4 B5 (.tup [.ref pp, .ref B3, .ref B4]) = BH5 at hA h_B5 hx hod h_B3 h_B4 sT pk ⊢
  clear sN ne e
  have hA := kps_snoc hA (x := .ref B5) (fun G m => .twice (ps := [ps.getD 0 0, 0, 1]) ⟨_, _, pp, rfl, h_B5 G m, .cons (NumV.of (hx G m)) (.cons ⟨_, rfl, h_B3 G m⟩ (.cons ⟨_, rfl, h_B4 G m⟩ .nil)), rfl, hx G m⟩ (.inr rfl) hmem)
  clear h_B3 h_B4 h_B5
  refine ⟨_, rfl, P2, fun B6 e => ?_⟩
  have sN : Same BH5 (upd BH5 B6 (.tup [.int 1, .int 1])) := Same.new e
  have ne := Pen.ne' pk e
  have h_B6 : Kp p (upd BH5 B6 (.tup [.int 1, .int 1])) (fun G => SqT K G B6 [.int 1, .int 1]) := fun _ m => SqT.of (m _ _ ne upd_same)
  have hA := kps_same hA sN
  have hx := hx.same sN
  have hod := hod.same sN
  have sT := sT.trans sN
  have pk := pk.sm sN
  generalize upd BH5 B6 (.tup [.int 1, .int 1]) = BH6 at hA h_B6 hx hod sT pk ⊢
  clear sN ne e
  refine ⟨P2, fun B7 e => ?_⟩
  have sN : Same BH6 (upd BH6 B7 (.tup [od, .ref B6])) := Same.new e
  have ne := Pen.ne' pk e
  have h_B7 : Kp p (upd BH6 B7 (.tup [od, .ref B6])) (fun G => SqT K G B7 [od, .ref B6]) := fun _ m => SqT.of (m _ _ ne upd_same)
  have hA := kps_same hA sN
  have hx := hx.same sN
  have hod := hod.same sN
  have h_B6 := h_B6.same sN
  have sT := sT.trans sN
  have pk := pk.sm sN
  generalize upd BH6 B7 (.tup [od, .ref B6]) = BH7 at hA h_B7 hx hod h_B6 sT pk ⊢
  clear sN ne e
  have hA := kps_snoc hA (x := .ref B7) (fun G m => .pt (Pb.all (bs := [false, true]) (h_B7 G m) (.inl rfl) (.cons (hod G m) (.cons (.nums (h_B6 G m) (by decide)) .nil))))
  clear h_B6 h_B7
  refine ⟨P2, fun B8 e => ?_⟩
  have sN : Same BH7 (upd BH7 B8 (.tup [.int 1, .int 1])) := Same.new e
  have ne := Pen.ne' pk e
  have h_B8 : Kp p (upd BH7 B8 (.tup [.int 1, .int 1])) (fun G => SqT K G B8 [.int 1, .int 1]) := fun _ m => SqT.of (m _ _ ne upd_same)
  have hA := kps_same hA sN
  have hx := hx.same sN
  have hod := hod.same sN
  have sT := sT.trans sN
  have pk := pk.sm sN
  generalize upd BH7 B8 (.tup [.int 1, .int 1]) = BH8 at hA h_B8 hx hod sT pk ⊢
  clear sN ne e
  refine ⟨_, rfl, P2, fun B9 e => ?_⟩
  have sN : Same BH8 (upd BH8 B9 (.tup [.ref B8, od])) := Same.new e
  have ne := Pen.ne' pk e
  have h_B9 : Kp p (upd BH8 B9 (.tup [.ref B8, od])) (fun G => SqT K G B9 [.ref B8, od]) := fun _ m => SqT.of (m _ _ ne upd_same)
  have hA := kps_same hA sN
  have hx := hx.same sN
  have hod := hod.same sN
  have h_B8 := h_B8.same sN
  have sT := sT.trans sN
  have pk := pk.sm sN
  generalize upd BH8 B9 (.tup [.ref B8, od]) = BH9 at hA h_B9 hx hod h_B8 sT pk ⊢
  clear sN ne e
  have hA := kps_snoc hA (x := .ref B9) (fun G m => .pt (Pb.all (bs := [true, false]) (h_B9 G m) (.inl rfl) (.cons (.nums (h_B8 G m) (by decide)) (.cons (hod G m) .nil))))
  clear h_B8 h_B9
  refine ⟨P2, fun B10 e => ?_⟩
  have sN : Same BH9 (upd BH9 B10 (.tup [.int 1, .int 1])) := Same.new e
  have ne := Pen.ne' pk e
  have h_B10 : Kp p (upd BH9 B10 (.tup [.int 1, .int 1])) (fun G => SqT K G B10 [.int 1, .int 1]) := fun _ m => SqT.of (m _ _ ne upd_same)
  have hA := kps_same hA sN
  have hx := hx.same sN
  have hod := hod.same sN
  have sT := sT.trans sN
  have pk := pk.sm sN
  generalize upd BH9 B10 (.tup [.int 1, .int 1]) = BH10 at hA h_B10 hx hod sT pk ⊢
  clear sN ne e
  refine ⟨P2, fun B11 e => ?_⟩
  have sN : Same BH10 (upd BH10 B11 (.tup [.int 1, .int 1])) := Same.new e
  have ne := Pen.ne' pk e
  have h_B11 : Kp p (upd BH10 B11 (.tup [.int 1, .int 1])) (fun G => SqT K G B11 [.int 1, .int 1]) := fun _ m => SqT.of (m _ _ ne upd_same)
  have hA := kps_same hA sN
  have hx := hx.same sN
  have hod := hod.same sN
  have h_B10 := h_B10.same sN
  have sT := sT.trans sN
  have pk := pk.sm sN
  generalize upd BH10 B11 (.tup [.int 1, .int 1]) = BH11 at hA h_B11 hx hod h_B10 sT pk ⊢
  clear sN ne e
  refine ⟨_, rfl, P3, fun B12 e => ?_⟩
  have sN : Same BH11 (upd BH11 B12 (.tup [.ref B10, .ref B11, od])) := Same.new e
  have ne := Pen.ne' pk e
  have h_B12 : Kp p (upd BH11 B12 (.tup [.ref B10, .ref B11, od])) (fun G => SqT K G B12 [.ref B10, .ref B11, od]) := fun _ m => SqT.of (m _ _ ne upd_same)
  have hA := kps_same hA sN
  have hx := hx.same sN
  have hod := hod.same sN
  have h_B10 := h_B10.same sN
  have h_B11 := h_B11.same sN
  have sT := sT.trans sN
  have pk := pk.sm sN
  generalize upd BH11 B12 (.tup [.ref B10, .ref B11, od]) = BH12 at hA h_B12 hx hod h_B10 h_B11 sT pk ⊢
  clear sN ne e
  have hA := kps_snoc hA (x := .ref B12) (fun G m => .pt (Pb.all (bs := [true, true, false]) (h_B12 G m) (.inr rfl) (.cons (.nums (h_B10 G m) (by decide)) (.cons (.nums (h_B11 G m) (by decide)) (.cons (hod G m) .nil)))))
  clear h_B10 h_B11 h_B12
  refine ⟨P2, fun B13 e => ?_⟩
  have sN : Same BH12 (upd BH12 B13 (.tup [.int 1, .int 1])) := Same.new e
  have ne := Pen.ne' pk e
  have h_B13 : Kp p (upd BH12 B13 (.tup [.int 1, .int 1])) (fun G => SqT K G B13 [.int 1, .int 1]) := fun _ m => SqT.of (m _ _ ne upd_same)
  have hA := kps_same hA sN
  have hx := hx.same sN
  have hod := hod.same sN
  have sT := sT.trans sN
  have pk := pk.sm sN
  generalize upd BH12 B13 (.tup [.int 1, .int 1]) = BH13 at hA h_B13 hx hod sT pk ⊢
  clear sN ne e
  refine ⟨P1, fun B14 e => ?_⟩
  have sN : Same BH13 (upd BH13 B14 (.tup [.ref B13])) := Same.new e
  have ne := Pen.ne' pk e
  have h_B14 : Kp p (upd BH13 B14 (.tup [.ref B13])) (fun G => SqT K G B14 [.ref B13]) := fun _ m => SqT.of (m _ _ ne upd_same)
  have hA := kps_same hA sN
  have hx := hx.same sN
  have hod := hod.same sN
  have h_B13 := h_B13.same sN
  have sT := sT.trans sN
  have pk := pk.sm sN
  generalize upd BH13 B14 (.tup [.ref B13]) = BH14 at hA h_B14 hx hod h_B13 sT pk ⊢
  clear sN ne e
  have hA := kps_snoc hA (x := .ref B14) (fun G m => .pt (.len (h_B14 G m) (show 1 ≠ 2 by decide) (show 1 ≠ 3 by decide)))
  clear h_B13 h_B14
  have hA := kps_snoc hA (x := .non) (fun G m => .pt (.no (.of .non) (kit_nt K)))
  have hA := kps_snoc hA (x := .int 7) (fun G m => .pt (.no (.of (.int 7)) (kit_it K)))
  refine ⟨P8, fun B15 e => ?_⟩
  have sN : Same BH14 (upd BH14 B15 (.lst [.ref B2, .ref B5, .ref B7, .ref B9, .ref B12, .ref B14, .non, .int 7])) := Same.new e
  have ne := Pen.ne' pk e
  have h_B15 : Kp p (upd BH14 B15 (.lst [.ref B2, .ref B5, .ref B7, .ref B9, .ref B12, .ref B14, .non, .int 7])) (fun G => SqL K G B15 [.ref B2, .ref B5, .ref B7, .ref B9, .ref B12, .ref B14, .non, .int 7]) := fun _ m => SqL.of (m _ _ ne upd_same)
  have ex : (upd BH14 B15 (.lst [.ref B2, .ref B5, .ref B7, .ref B9, .ref B12, .ref B14, .non, .int 7])) B15 = some (.lst [.ref B2, .ref B5, .ref B7, .ref B9, .ref B12, .ref B14, .non, .int 7]) := upd_same
  have hA := kps_same hA sN
  have hx := hx.same sN
  have hod := hod.same sN
  have sT := sT.trans sN
  have pk := pk.sm sN
  generalize upd BH14 B15 (.lst [.ref B2, .ref B5, .ref B7, .ref B9, .ref B12, .ref B14, .non, .int 7]) = BH15 at hA h_B15 hx hod sT pk ex ⊢
  clear sN e
  have M4 := M3.trans sT.mv
  have hB := hA
  have ex4 := ex
  have ne4 := ne
  clear hA sT ex ne M3 hx hod
  generalize BH15 = H4 at hB ex4 M4 pk ⊢
  refine ⟨_, rfl, ?_⟩
  have hA : ∀ y ∈ ([] : List V), Kp p H4 (fun G => NewR K G pss y 1) := fun _ h => nomatch h
  have sT : Same H4 H4 := Same.refl _
  refine ⟨P2, fun C1 e => ?_⟩
  have sN : Same H4 (upd H4 C1 (.tup [.int 9, .int 1])) := Same.new e
  have ne := Pen.ne' pk e
  have h_C1 : Kp p (upd H4 C1 (.tup [.int 9, .int 1])) (fun G => SqT K G C1 [.int 9, .int 1]) := fun _ m => SqT.of (m _ _ ne upd_same)
  have hA := kps_same hA sN
  have hB := kps_same hB sN
  have sT := sT.trans sN
  have pk := pk.sm sN
  generalize upd H4 C1 (.tup [.int 9, .int 1]) = CH1 at hA h_C1 hB sT pk ⊢
  clear sN ne e
  refine ⟨P2, fun C2 e => ?_⟩
  have sN : Same CH1 (upd CH1 C2 (.tup [.int 1, .int 1])) := Same.new e
  have ne := Pen.ne' pk e
  have h_C2 : Kp p (upd CH1 C2 (.tup [.int 1, .int 1])) (fun G => SqT K G C2 [.int 1, .int 1]) := fun _ m => SqT.of (m _ _ ne upd_same)
  have hA := kps_same hA sN
  have hB := kps_same hB sN
  have h_C1 := h_C1.same sN
  have sT := sT.trans sN
  have pk := pk.sm sN
  generalize upd CH1 C2 (.tup [.int 1, .int 1]) = CH2 at hA h_C2 hB h_C1 sT pk ⊢
  clear sN ne e
  refine ⟨P2, fun C3 e => ?_⟩
  have sN : Same CH2 (upd CH2 C3 (.lst [.ref C1, .ref C2])) := Same.new e
  have ne := Pen.ne' pk e
  have h_C3 : Kp p (upd CH2 C3 (.lst [.ref C1, .ref C2])) (fun G => SqL K G C3 [.ref C1, .ref C2]) := fun _ m => SqL.of (m _ _ ne upd_same)
  have hA := kps_same hA sN
  have hB := kps_same hB sN
  have h_C1 := h_C1.same sN
  have h_C2 := h_C2.same sN
  have sT := sT.trans sN
  have pk := pk.sm sN
  generalize upd CH2 C3 (.lst [.ref C1, .ref C2]) = CH3 at hA h_C3 hB h_C1 h_C2 sT pk ⊢
  clear sN ne e
  have hA := kps_snoc hA (x := .ref C3) (fun G m => .pt (.no (.lst (h_C3 G m)) (kit_lt K)))
  clear h_C1 h_C2 h_C3
  have hA := kps_snoc hA (x := .str "ab") (fun G m => .pt (.no (.of (.str "ab")) (kit_st K)))
  refine ⟨P2, fun C4 e => ?_⟩
  have sN : Same CH3 (upd CH3 C4 (.tup [.int 9, .int 1])) := Same.new e
  have ne := Pen.ne' pk e
  have h_C4 : Kp p (upd CH3 C4 (.tup [.int 9, .int 1])) (fun G => SqT K G C4 [.int 9, .int 1]) := fun _ m => SqT.of (m _ _ ne upd_same)
  have hA := kps_same hA sN
  have hB := kps_same hB sN
  have sT := sT.trans sN
  have pk := pk.sm sN
  generalize upd CH3 C4 (.tup [.int 9, .int 1]) = CH4 at hA h_C4 hB sT pk ⊢
  clear sN ne e
  refine ⟨P2, fun C5 e => ?_⟩
  have sN : Same CH4 (upd CH4 C5 (.tup [.int 1, .int 1])) := Same.new e
  have ne := Pen.ne' pk e
  have h_C5 : Kp p (upd CH4 C5 (.tup [.int 1, .int 1])) (fun G => SqT K G C5 [.int 1, .int 1]) := fun _ m => SqT.of (m _ _ ne upd_same)
  have hA := kps_same hA sN
  have hB := kps_same hB sN
  have h_C4 := h_C4.same sN
  have sT := sT.trans sN
  have pk := pk.sm sN
  generalize upd CH4 C5 (.tup [.int 1, .int 1]) = CH5 at hA h_C5 hB h_C4 sT pk ⊢
  clear sN ne e
  refine ⟨P2, fun C6 e => ?_⟩
  have sN : Same CH5 (upd CH5 C6 (.tup [.int 1, .int 1])) := Same.new e
  have ne := Pen.ne' pk e
  have h_C6 : Kp p (upd CH5 C6 (.tup [.int 1, .int 1])) (fun G => SqT K G C6 [.int 1, .int 1]) := fun _ m => SqT.of (m _ _ ne upd_same)
  have hA := kps_same hA sN
  have hB := kps_same hB sN
  have h_C4 := h_C4.same sN
  have h_C5 := h_C5.same sN
  have sT := sT.trans sN
  have pk := pk.sm sN
  generalize upd CH5 C6 (.tup [.int 1, .int 1]) = CH6 at hA h_C6 hB h_C4 h_C5 sT pk ⊢
  clear sN ne e
  refine ⟨P2, fun C7 e => ?_⟩
  have sN : Same CH6 (upd CH6 C7 (.tup [.int 1, .int 1])) := Same.new e
  have ne := Pen.ne' pk e
  have h_C7 : Kp p (upd CH6 C7 (.tup [.int 1, .int 1])) (fun G => SqT K G C7 [.int 1, .int 1]) := fun _ m => SqT.of (m _ _ ne upd_same)
  have hA := kps_same hA sN
  have hB := kps_same hB sN
  have h_C4 := h_C4.same sN
  have h_C5 := h_C5.same sN
  have h_C6 := h_C6.same sN
  have sT := sT.trans sN
  have pk := pk.sm sN
  generalize upd CH6 C7 (.tup [.int 1, .int 1]) = CH7 at hA h_C7 hB h_C4 h_C5 h_C6 sT pk ⊢
  clear sN ne e
  refine ⟨P4, fun C8 e => ?_⟩
  have sN : Same CH7 (upd CH7 C8 (.tup [.ref C4, .ref C5, .ref C6, .ref C7])) := Same.new e
  have ne := Pen.ne' pk e
  have h_C8 : Kp p (upd CH7 C8 (.tup [.ref C4, .ref C5, .ref C6, .ref C7])) (fun G => SqT K G C8 [.ref C4, .ref C5, .ref C6, .ref C7]) := fun _ m => SqT.of (m _ _ ne upd_same)
  have hA := kps_same hA sN
  have hB := kps_same hB sN
  have h_C4 := h_C4.same sN
  have h_C5 := h_C5.same sN
  have h_C6 := h_C6.same sN
  have h_C7 := h_C7.same sN
  have sT := sT.trans sN
  have pk := pk.sm sN
  generalize upd CH7 C8 (.tup [.ref C4, .ref C5, .ref C6, .ref C7]) = CH8 at hA h_C8 hB h_C4 h_C5 h_C6 h_C7 sT pk ⊢
  clear sN ne e
  have hA := kps_snoc hA (x := .ref C8) (fun G m => .pt (.len (h_C8 G m) (show 4 ≠ 2 by decide) (show 4 ≠ 3 by decide)))
  clear h_C4 h_C5 h_C6 h_C7 h_C8
  refine ⟨P3, fun C9 e => ?_⟩
  have sN : Same CH8 (upd CH8 C9 (.lst [.ref C3, .str "ab", .ref C8])) := Same.new e
  have ne := Pen.ne' pk e
  have h_C9 : Kp p (upd CH8 C9 (.lst [.ref C3, .str "ab", .ref C8])) (fun G => SqL K G C9 [.ref C3, .str "ab", .ref C8]) := fun _ m => SqL.of (m _ _ ne upd_same)
  have ex : (upd CH8 C9 (.lst [.ref C3, .str "ab", .ref C8])) C9 = some (.lst [.ref C3, .str "ab", .ref C8]) := upd_same
  have hA := kps_same hA sN
  have hB := kps_same hB sN
  have sT := sT.trans sN
  have pk := pk.sm sN
  generalize upd CH8 C9 (.lst [.ref C3, .str "ab", .ref C8]) = CH9 at hA h_C9 hB sT pk ex ⊢
  clear sN e
  refine ⟨_, _, _, _, rfl, rfl, sT _ _ ex4, ex, (show 11 ≤ sizeLine by decide), fun l3 e => ?_⟩
  have hC := hA
  have hA : ∀ y ∈ [.ref B2, .ref B5, .ref B7, .ref B9, .ref B12, .ref B14, .non, .int 7] ++ [.ref C3, .str "ab", .ref C8], Kp p CH9 (fun G => NewR K G pss y 1) := fun y hy => by
    rcases List.mem_append.mp hy with z | z
    · exact hB y z
    · exact hC y z
  have sN := Same.new (o := .lst ([.ref B2, .ref B5, .ref B7, .ref B9, .ref B12, .ref B14, .non, .int 7] ++ [.ref C3, .str "ab", .ref C8])) e
  have ne3 := Pen.ne' pk e
  have hA := kps_same hA sN
  have ex3 : (upd CH9 l3 (.lst ([.ref B2, .ref B5, .ref B7, .ref B9, .ref B12, .ref B14, .non, .int 7] ++ [.ref C3, .str "ab", .ref C8]))) l3 = some (.lst ([.ref B2, .ref B5, .ref B7, .ref B9, .ref B12, .ref B14, .non, .int 7] ++ [.ref C3, .str "ab", .ref C8])) := upd_same
  have sT := sT.trans sN
  have pk := pk.sm sN
  generalize upd CH9 l3 (.lst ([.ref B2, .ref B5, .ref B7, .ref B9, .ref B12, .ref B14, .non, .int 7] ++ [.ref C3, .str "ab", .ref C8])) = H5 at hA ex3 sT pk ⊢
  refine ⟨_, rfl, p, 11, rfl, pk, by decide, by decide, fun i H6 i0 i1 o6 pk6 => ?_⟩
  obtain ⟨y, hy, hym⟩ := (at_menuK (n := 11) hA rfl i0 i1)
  exact ⟨l3, _, _, y, rfl, rfl, SqL.of ((OnlyAt.mv o6) _ _ ne3 ex3), hy, q y H6 ((M4.trans sT.mv).trans (OnlyAt.mv o6)) pk6 ((hA y hym).mv (OnlyAt.mv o6))⟩
theorem sc__law_filled : FnScope ["_law_pen_here", "_law_places_here", "_law_many", "_law_found"] ["_law_pen_here"] (defScope (top 70)) := ⟨rfl, rfl, rfl, by decide +kernel, rfl, by decide +kernel, by decide +kernel⟩
set_option maxHeartbeats 4000000 in
theorem ok__law_filled {f : Addr} {fd : FuncData} (F : Fun K "_law_filled" "_law_filled" (top 70) f fd) (F__law_places : Fd P w K mg base 35 "_law_places" ["_law_pen_here", "_law_many"] (spPlacesV K)) (F__law_draw : Fd P w K mg base 33 "_law_draw" ["_law_pen_here", "_law_many"] (spDraw)) (F__law_number : Fd P w K mg base 34 "_law_number" ["_law_pen_here"] (spNum 40)) (b_tuple : mg "tuple" = none) (hT : P.given.tree = none) :
    FnOk P w K mg base CX0 36 f fd ["_law_pen_here"] (spFilled K) := by
  refine F.ok sc__law_filled (fun vs H Q E h => ?_) (fun cdv A outer s H vs Q E hr h => ?_)
  · obtain ⟨_, rfl, _⟩ := h; rfl
  refine ⟨_, (@pss_consC _ _ _ _ _ K _ (@ps_set _ _ 1 _ _ _ _ sc__law_filled.nd rfl (Or.inl rfl) (@pe_fn _ _ _ _ _ _ _ _ _ _ _ F__law_places hr rfl (@pa_cons _ _ _ _ _ (pv 0) (@pa_cons _ _ _ _ _ pe_int pa_nil (by rfl)) (by rfl)) (by decide) (by decide) (by rfl) (by rfl)) (by rfl) (by first   | exact .inl rfl   | exact .inr rfl   | assumption)) (@pss_consC _ _ _ _ _ K _ (@ps_set _ _ 2 _ _ _ _ sc__law_filled.nd rfl (Or.inl rfl) (@pe_fn _ _ _ _ _ _ _ _ _ _ _ F__law_draw hr rfl (@pa_cons _ _ _ _ _ (pv 0) (@pa_cons _ _ _ _ _ pe_int pa_nil (by rfl)) (by rfl)) (by decide) (by decide) (by rfl) (by rfl)) (by rfl) (by first   | exact .inl rfl   | exact .inr rfl   | assumption)) (@pss_consC _ _ _ _ _ K _ (@ps_lc _ (["_law_x", "_law_pen_here"]) 1 ([0]) _ _ _ _ _ _ _ _ _ _ 3 _ _ _ rfl sc__law_filled.nd rfl rfl (CompOk.look (NX := ["_law_pen_here", "_law_places_here", "_law_many", "_law_found"]) (sc := defScope (top 70)) rfl rfl (by decide +kernel)) (@piL _ K _ _ _ (@pe_slice _ _ _ _ _ _ _ _ _ _ (slL K) (pv 1) po_none (@po_some _ _ _ (pv 2))) (by rfl)) (fun u1 u2 u3 u4 u5 => (@pg_name _ _ 0 _ (show List.Nodup (["_law_x", "_law_pen_here"] : List Str) from by decide +kernel) rfl (Or.inl rfl) (by first   | exact .inl rfl   | exact .inr rfl   | assumption))) (stays_name (by decide)) (fun u1 u2 u3 u4 u5 => pts_nil) (fun u1 u2 u3 u4 u5 => (@pe_tup _ _ _ _ _ (@pa_cons _ _ _ _ _ (pv 0) (@pa_cons _ _ _ _ _ (@pe_fn _ _ _ _ _ _ _ _ _ _ _ F__law_number hr rfl (@pa_cons _ _ _ _ _ (pv 1) pa_nil (by rfl)) (by decide) (by decide) (by rfl) (by rfl)) (@pa_cons _ _ _ _ _ (@pe_fn _ _ _ _ _ _ _ _ _ _ _ F__law_number hr rfl (@pa_cons _ _ _ _ _ (pv 1) pa_nil (by rfl)) (by decide) (by decide) (by rfl) (by rfl)) pa_nil (by rfl)) (by rfl)) (by rfl)))) rfl (by intro _; rfl)) (@pss_consC _ _ _ _ _ K _ (@ps_set _ _ 3 _ _ _ _ sc__law_filled.nd rfl (Or.inl rfl) (@pe_op _ _ _ _ _ _ _ _ op_cat (pv 3) (@pe_lc _ (["_law_x", "_law_pen_here"]) 1 ([0]) _ _ _ _ _ _ _ _ _ _ rfl (CompOk.look (NX := ["_law_pen_here", "_law_places_here", "_law_many", "_law_found"]) (sc := defScope (top 70)) rfl rfl (by decide +kernel)) (@piL _ K _ _ _ (@pe_slice _ _ _ _ _ _ _ _ _ _ (slL K) (pv 1) (@po_some _ _ _ (pv 2)) (@po_some _ _ _ (@pe_op _ _ _ _ _ _ _ _ op_sub pe_int (pv 2)))) (by rfl)) (fun u1 u2 u3 u4 u5 => (@pg_name _ _ 0 _ (show List.Nodup (["_law_x", "_law_pen_here"] : List Str) from by decide +kernel) rfl (Or.inl rfl) (by first   | exact .inl rfl   | exact .inr rfl   | assumption))) (stays_name (by decide)) (fun u1 u2 u3 u4 u5 => pts_nil) (fun u1 u2 u3 u4 u5 => (@pe_tup _ _ _ _ _ (@pa_cons _ _ _ _ _ (pv 0) (@pa_cons _ _ _ _ _ (@pe_fn _ _ _ _ _ _ _ _ _ _ _ F__law_number hr rfl (@pa_cons _ _ _ _ _ (pv 1) pa_nil (by rfl)) (by decide) (by decide) (by rfl) (by rfl)) pa_nil (by rfl)) (by rfl)))) (by intro _; rfl))) (by rfl) (by first   | exact .inl rfl   | exact .inr rfl   | assumption)) (@pss_one _ _ _ (@ps_ret _ _ _ _ (@pe_tup _ _ _ _ _ (@pa_cons _ _ _ _ _ (@pe_callTy _ _ _ _ _ _ _ _ _ (tupleK K) rfl b_tuple bt_tuple (@pa_cons _ _ _ _ _ (@pe_stp _ _ _ _ _ K _ _ (pv 3) (@pe_ix _ _ _ _ _ _ _ (ixL K) (@pe_lst _ _ _ _ (@pa_cons _ _ _ _ _ pe_int (@pa_cons _ _ _ _ _ (@pe_un _ _ _ _ _ _ un_neg pe_int) pa_nil (by rfl)) (by rfl))) (@pe_fn _ _ _ _ _ _ _ _ _ _ _ F__law_draw hr rfl (@pa_cons _ _ _ _ _ (pv 0) (@pa_cons _ _ _ _ _ pe_int pa_nil (by rfl)) (by rfl)) (by decide) (by decide) (by rfl) (by rfl)) (fun u v => rfl)) (by rfl)) pa_nil (by rfl)) (by decide) (by decide) (by rfl) (by rfl)) (@pa_cons _ _ _ _ _ (@pe_ix _ _ _ _ _ _ _ (ixT K) (@pe_ix _ _ _ _ _ _ _ (ixL K) (pv 3) (@pe_un _ _ _ _ _ _ un_neg pe_int) (fun u v => rfl)) pe_int (fun u v => rfl)) pa_nil (by rfl)) (by rfl))))) (by rfl)) (by rfl)) (by rfl)) (by rfl)), ?_⟩
  obtain ⟨p, rfl, pn, q⟩ := h
  have P2 : 2 ≤ sizeLine := by decide
  have P3 : 3 ≤ sizeLine := by decide
  refine ⟨_, rfl, p, 12, rfl, pn, by decide, by decide, fun l H2 zs qs m2 p2 hl el hz hql hnd hb => ?_⟩
  have lp : l ≠ p := pn.ne' hl
  refine ⟨_, rfl, p, 6, rfl, p2, by decide, by decide, fun d H3 d0 d1 o3 p3 => ?_⟩
  obtain ⟨M, rfl⟩ : ∃ M : Nat, (M : Int) = d := ⟨d.toNat, by lia⟩
  have hM : M ≤ 5 := by lia
  have hq12 : qs.length = 12 := by lia
  have hz12 : zs.length = 12 := by rw [hz.length]; exact hq12
  have el3 := (OnlyAt.mv o3) _ _ lp el
  have hz3 := NumsT.mv hz p2 (OnlyAt.mv o3)
  have MM := m2.trans (OnlyAt.mv o3)
  clear m2 o3 el hz p2 hl d0 d1
  refine lc_of ⟨_, rfl, _, rfl, _, rfl, l, zs, rfl, SqL.of el3, fun s1 hs1 => ⟨s1, rfl, ⟨_, SqL.of upd_same⟩, ?_⟩⟩
  have q1 : cutV zs none (some (M : Int)) = zs.take M := cut_to zs M
  rw [q1]
  have n1 := Same.new (o := .lst (zs.take M)) hs1
  have es1 : (upd H3 s1 (.lst (zs.take M))) s1 = some (.lst (zs.take M)) := upd_same
  have s1p : s1 ≠ p := p3.ne' hs1
  have el4 := n1 _ _ el3
  have hz4 := NumsT.same hz3 n1
  have p4 := p3.sm n1
  have MM := MM.trans n1.mv
  generalize upd H3 s1 (.lst (zs.take M)) = H4 at n1 es1 el4 hz4 p4 MM ⊢
  clear n1 el3 hz3 p3 hs1 q1
  have hlM : (zs.take M).length = M := by rw [List.length_take]; lia
  refine lc_lst (xs := zs.take M) (L5 p H4 K qs M fun p H4 K qs M i ys G => Mv p H4 G ∧ Pen G p ∧ ys.length = i ∧ ∃ pss, PtsT K G ys pss ∧ (pss.map fun ps => ps.getD 0 0) = (qs.take M).take i ∧ ∀ ps ∈ pss, ps.length = 2 + 1) ⟨Mv.refl _ _, p4, rfl, [], .nil, rfl, (fun _ h => nomatch h)⟩ (fun i ys G _ h => ⟨SqL.of (h.1 _ _ s1p es1), h.2.2.1⟩) (Nat.le_of_lt (small1000 (by lia))) ?_ ?_
  · rintro i v ys G hv hR1
    obtain ⟨mv, pg, hyl, pss, hps, hpl, h3⟩ := hR1
    try clear hR1
    obtain ⟨x, hx, vx, rfl, hvx⟩ := (Paired.get (Paired.take M (NumsT.mv hz4 p4 mv)) hv)
    refine ⟨_, rfl, _, rfl, p, rfl, pg, fun y1 r1 G1 m1 g1 hr1 _ _ => ⟨_, rfl, p, rfl, g1, fun y2 r2 G2 m2 g2 hr2 _ _ => ⟨P3, fun t e => ?_⟩⟩⟩
    have m12 := m1.trans m2
    obtain ⟨s, hn⟩ := (pt3n (K := K) e (m12 _ _ (pg.ne hvx (nT_ne _)) hvx) (m2 _ _ (g1.ne hr1 (nT_ne _)) hr1) hr2)
    refine ⟨(mv.trans m12).trans s.mv, g2.sm s, by simp [hyl], pss ++ [[x, y1, y2]], Paired.snoc (PtsT.same (PtsT.mv hps pg m12) s) hn, ?_, fun ps h => ?_⟩
    · rw [List.map_append, hpl, List.take_add_one, hx]; rfl
    · rcases List.mem_append.mp h with z | z
      · exact h3 ps z
      · rw [List.mem_singleton.mp z]; rfl
  rintro ys1 G hR2 f1 hf1
  obtain ⟨mv, pg, hyl, ps1, hps1, hpl1, h31⟩ := hR2
  try clear hR2
  rw [hlM] at hyl hpl1
  rw [List.take_of_length_le (by rw [List.length_take]; lia)] at hpl1
  have n1 := Same.new (o := .lst ys1) hf1
  have ef1 : (upd G f1 (.lst ys1)) f1 = some (.lst ys1) := upd_same
  have f1p : f1 ≠ p := pg.ne' hf1
  have m45 := mv.trans n1.mv
  have el5 := m45 _ _ lp el4
  have hz5 := NumsT.mv hz4 p4 m45
  have hps1 := PtsT.same hps1 n1
  have p5 := pg.sm n1
  have MM := MM.trans m45
  generalize upd G f1 (.lst ys1) = H5 at ef1 el5 hz5 hps1 p5 MM ⊢
  clear n1 m45 mv pg el4 hz4 p4 hf1 es1 s1p hlM
  refine ⟨_, rfl, lc_of ⟨_, rfl, _, rfl, _, rfl, _, rfl, _, _, rfl, rfl, _, rfl, l, zs, rfl, SqL.of el5, fun s1 hs1 => ⟨s1, rfl, ⟨_, SqL.of upd_same⟩, ?_⟩⟩⟩
  have q2 : cutV zs (some (M : Int)) (some (12 - (M : Int))) = (zs.drop M).take (12 - M - M) := by
    have e : (12 - (M : Int)) = ((12 - M : Nat) : Int) := by lia
    rw [e]
    unfold cutV
    rw [HT.sIx_nat, HT.sIx_nat, hz12, Nat.min_eq_left (by lia), Nat.min_eq_left (by lia)]
  rw [q2]
  have n1 := Same.new (o := .lst ((zs.drop M).take (12 - M - M))) hs1
  have es1 : (upd H5 s1 (.lst ((zs.drop M).take (12 - M - M)))) s1 = some (.lst ((zs.drop M).take (12 - M - M))) := upd_same
  have s1p : s1 ≠ p := p5.ne' hs1
  have ef6 := n1 _ _ ef1
  have hz6 := NumsT.same hz5 n1
  have hps6 := PtsT.same hps1 n1
  have p6 := p5.sm n1
  have MM := MM.trans n1.mv
  generalize upd H5 s1 (.lst ((zs.drop M).take (12 - M - M))) = H6 at n1 es1 ef6 hz6 hps6 p6 MM ⊢
  clear n1 el5 hz5 p5 hs1 q2 ef1 hps1
  have hlN : ((zs.drop M).take (12 - M - M)).length = 12 - M - M := by rw [List.length_take, List.length_drop]; lia
  refine lc_lst (xs := (zs.drop M).take (12 - M - M)) (L5 p H6 K qs M fun p H6 K qs M i ys G => Mv p H6 G ∧ Pen G p ∧ ys.length = i ∧ ∃ pss, PtsT K G ys pss ∧ (pss.map fun ps => ps.getD 0 0) = ((qs.drop M).take (12 - M - M)).take i ∧ ∀ ps ∈ pss, ps.length = 1 + 1) ⟨Mv.refl _ _, p6, rfl, [], .nil, rfl, (fun _ h => nomatch h)⟩ (fun i ys G _ h => ⟨SqL.of (h.1 _ _ s1p es1), h.2.2.1⟩) (Nat.le_of_lt (small1000 (by lia))) ?_ ?_
  · rintro i v ys G hv hR3
    obtain ⟨mv, pg, hyl, pss, hps, hpl, h3⟩ := hR3
    try clear hR3
    obtain ⟨x, hx, vx, rfl, hvx⟩ := (Paired.get (Paired.take (12 - M - M) (paired_drop M (NumsT.mv hz6 p6 mv))) hv)
    refine ⟨_, rfl, _, rfl, p, rfl, pg, fun y1 r1 G1 m1 g1 hr1 _ _ => ⟨P2, fun t e => ?_⟩⟩
    obtain ⟨s, hn⟩ := (pt2n (K := K) e (m1 _ _ (pg.ne hvx (nT_ne _)) hvx) hr1)
    refine ⟨(mv.trans m1).trans s.mv, g1.sm s, by simp [hyl], pss ++ [[x, y1]], Paired.snoc (PtsT.same (PtsT.mv hps pg m1) s) hn, ?_, fun ps h => ?_⟩
    · rw [List.map_append, hpl, List.take_add_one, hx]; rfl
    · rcases List.mem_append.mp h with z | z
      · exact h3 ps z
      · rw [List.mem_singleton.mp z]; rfl
  rintro ys2 G hR4 f2 hf2
  obtain ⟨mv, pg, hyl2, ps2, hps2, hpl2, h32⟩ := hR4
  try clear hR4
  rw [hlN] at hyl2 hpl2
  rw [List.take_of_length_le (by rw [List.length_take]; lia)] at hpl2
  have n2 := Same.new (o := .lst ys2) hf2
  refine ⟨f1, f2, ys1, ys2, rfl, rfl, n2 _ _ (mv _ _ f1p ef6), upd_same, Nat.le_trans (show _ ≤ 30 by lia) (by decide), fun fd hfd => ?_⟩
  have n3 := Same.new (o := .lst (ys1 ++ ys2)) hfd
  have m67 := (mv.trans n2.mv).trans n3.mv
  have efd : (upd (upd G f2 (.lst ys2)) fd (.lst (ys1 ++ ys2))) fd = some (.lst (ys1 ++ ys2)) := upd_same
  have fdp : fd ≠ p := (pg.sm n2).ne' hfd
  have hpp : PtsT K (upd (upd G f2 (.lst ys2)) fd (.lst (ys1 ++ ys2))) (ys1 ++ ys2) (ps1 ++ ps2) := Paired.append (PtsT.mv hps6 p6 m67) (PtsT.same hps2 (n2.trans n3))
  have p7 := pg.sm (n2.trans n3)
  have MM := MM.trans m67
  generalize upd (upd G f2 (.lst ys2)) fd (.lst (ys1 ++ ys2)) = H7 at efd hpp p7 MM ⊢
  have hl1 : ps1.length = M := by rw [← hps6.length]; exact hyl
  have hl2 : ps2.length = 12 - M - M := by rw [← hps2.length]; exact hyl2
  clear n2 n3 m67 mv pg hps6 hps2 hz6 p6 ef6 es1 s1p f1p hf2 hfd
  have hplc : ((ps1 ++ ps2).map fun ps => ps.getD 0 0) = qs.take M ++ (qs.drop M).take (12 - M - M) := by rw [List.map_append, hpl1, hpl2]
  have hsub : List.Sublist (qs.take M ++ (qs.drop M).take (12 - M - M)) qs := by
    have := List.Sublist.append (List.Sublist.refl (qs.take M)) (List.take_sublist (12 - M - M) (qs.drop M))
    rw [List.take_append_drop] at this
    exact this
  have hnd7 : ((ps1 ++ ps2).map fun ps => ps.getD 0 0).Nodup := by rw [hplc]; exact hsub.nodup hnd
  have hbd : ∀ c ∈ (ps1 ++ ps2).map (fun ps => ps.getD 0 0), c < 1100000000000 := fun c hc => by
    rw [hplc] at hc
    exact (hb c (hsub.subset hc)).2
  have h23 : P23 (ps1 ++ ps2) := fun ps h => by
    rcases List.mem_append.mp h with z | z
    · exact .inr (h31 ps z)
    · exact .inl (h32 ps z)
  have htl : (tell (ps1 ++ ps2)).length = 12 := by rw [tell_app26, List.length_append, tell_all h31, tell_all h32, hl1, hl2]; lia
  have hlen : (ps1 ++ ps2).length = 12 - M := by rw [List.length_append, hl1, hl2]; lia
  obtain ⟨ps, hps, hps2, hlast⟩ : ∃ ps, (ps1 ++ ps2)[(ps1 ++ ps2).length - 1]? = some ps ∧ ps.length = 2 ∧ ps ∈ ps1 ++ ps2 := by
    have hk : ps2.length - 1 < ps2.length := by lia
    refine ⟨ps2[ps2.length - 1], ?_, h32 _ (List.getElem_mem _), List.mem_append_right _ (List.getElem_mem _)⟩
    rw [List.length_append, List.getElem?_append_right (by lia), show ps1.length + ps2.length - 1 - ps1.length = ps2.length - 1 by lia, List.getElem?_eq_getElem hk]
  generalize ps1 ++ ps2 = pss at hpp hplc hnd7 hbd h23 htl hlen hps hlast
  have hyy := hpp.length
  generalize ys1 ++ ys2 = ys at efd hpp hyy
  clear hplc hsub hpl1 hpl2 h31 h32 hl1 hl2 hyl hyl2
  obtain ⟨v, hv, hvp⟩ := (Paired.get' hpp hps)
  rw [← hyy] at hv
  refine ⟨_, rfl, _, rfl, P2, fun k1 hk1 => ?_⟩
  have n1 := Same.new (o := .lst [.int 1, .int (-1)]) hk1
  have k1p : k1 ≠ p := p7.ne' hk1
  refine ⟨_, rfl, p, 2, rfl, p7.sm n1, by decide, by decide, fun b H8 b0 b1 o8 p8 => ?_⟩
  have m78 := n1.mv.trans (OnlyAt.mv o8)
  obtain ⟨bb, hat⟩ : ∃ bb : Bool, atI [V.int 1, .int (-1)] b = some (.int (if bb = true then 1 else -1)) := by
    rcases (show b = 0 ∨ b = 1 by lia) with rfl | rfl
    · exact ⟨true, rfl⟩
    · exact ⟨false, rfl⟩
  have efd8 := m78 _ _ fdp efd
  have hpp8 := PtsT.mv hpp p7 m78
  refine ⟨k1, _, _, _, rfl, rfl, SqL.of ((OnlyAt.mv o8) _ _ k1p upd_same), hat, _, rfl, fd, ys, bb, rfl, rfl, SqL.of efd8, fun t1 ht1 => ?_⟩
  refine ⟨t1, _, rfl, .inl ⟨SqL.of upd_same, fun t2 ht2 => ?_⟩⟩
  have s9 := (Same.new (o := .lst (if bb = true then ys else ys.reverse)) ht1).trans (Same.new (o := .tup (if bb = true then ys else ys.reverse)) ht2)
  have et2 := upd_same (H := upd H8 t1 (.lst (if bb = true then ys else ys.reverse))) (a := t2) (o := .tup (if bb = true then ys else ys.reverse))
  generalize upd (upd H8 t1 (.lst (if bb = true then ys else ys.reverse))) t2 (.tup (if bb = true then ys else ys.reverse)) = H9 at s9 et2 ⊢
  have efd9 := s9 _ _ efd8
  have hpp9 := PtsT.same hpp8 s9
  refine exE3 ((hvp.mv p7 m78).same s9) fun a us pp hz28' => ?_
  refine anE5 hz28' fun hq27 hus hun hu0 hppn => ?_
  clear hz28'
  obtain rfl := hq27
  refine ⟨_, rfl, _, rfl, fd, ys, _, _, rfl, rfl, SqL.of efd9, atI_back hv, a, us, _, _, rfl, rfl, hus, atI_nat (j := 0) hu0, P2, fun t3 ht3 => ?_⟩
  have s10 := Same.new (o := .tup [.ref t2, .ref pp]) ht3
  have hpp10 := PtsT.same hpp9 s10
  have et3 : (upd H9 t3 (.tup [.ref t2, .ref pp])) t3 = some (.tup [.ref t2, .ref pp]) := upd_same
  have et10 := s10 _ _ et2
  have hpn10 := s10 _ _ hppn
  have M10 := (MM.trans m78).trans (s9.trans s10).mv
  have p10 := p8.sm (s9.trans s10)
  generalize upd H9 t3 (.tup [.ref t2, .ref pp]) = H10 at hpp10 et3 et10 hpn10 M10 p10 ⊢
  cases bb with
  | true => exact q t3 t2 pp H10 ys pss ps M10 p10 (SqT.of et3) ⟨SqT.of et10, hpp10, h23, by lia, hnd7, by lia⟩ htl hbd hpn10 hlast hps2
  | false =>
    refine q t3 t2 pp H10 ys.reverse pss.reverse ps M10 p10 (SqT.of et3) ⟨SqT.of et10, paired_rev hpp10, fun ps h => h23 ps (List.mem_reverse.mp h), by rw [List.length_reverse]; lia, by rw [List.map_reverse]; exact (List.reverse_perm _).nodup_iff.mpr hnd7, by rw [tell_perm (List.reverse_perm pss)]; lia⟩ (by rw [tell_perm (List.reverse_perm pss)]; exact htl) (fun c hc => hbd c ?_) hpn10 (List.mem_reverse.mpr hlast) hps2
    rw [List.map_reverse] at hc
    exact List.mem_reverse.mp hc
theorem sc_are_unlike : FnScope ["places"] ["places"] (defScope (top 32)) := ⟨rfl, rfl, rfl, by decide +kernel, rfl, by decide +kernel, by decide +kernel⟩
set_option maxHeartbeats 4000000 in
theorem ok_are_unlike {f : Addr} {fd : FuncData} (F : Fun K "are_unlike" "are_unlike" (top 32) f fd) (b_len : mg "len" = none) (b_set : mg "set" = none) (hT : P.given.tree = none) :
    FnOk P w K mg base CX0 33 f fd ["places"] (spUnlikeD K) := by
  refine F.ok sc_are_unlike (fun vs H Q E h => ?_) (fun cdv A outer s H vs Q E hr h => ?_)
  · obtain ⟨_, _, _, rfl, _⟩ := h; rfl
  refine ⟨_, (@pss_one _ _ _ (@ps_ret _ _ _ _ (@pe_cmpR _ _ _ _ _ _ _ _ op_eq (@pe_callB _ _ _ _ _ _ _ _ _ call_lenS rfl b_len bt_len (@pa_cons _ _ _ _ _ (@pe_callTy _ _ _ _ _ _ _ _ _ (setD K rfl hr.units) rfl b_set bt_set (@pa_cons _ _ _ _ _ (pv 0) pa_nil (by rfl)) (by decide) (by decide) (by rfl) (by rfl)) pa_nil (by rfl)) (by decide) (by decide) (by rfl) (by rfl)) (@pe_callB _ _ _ _ _ _ _ _ _ (lenK K) rfl b_len bt_len (@pa_cons _ _ _ _ _ (pv 0) pa_nil (by rfl)) (by decide) (by decide) (by rfl) (by rfl)) (nomark _)))), ?_⟩
  obtain ⟨l, ys, qs, rfl, hS, hn, h17, q⟩ := h
  have hl := hn.length
  refine ⟨_, rfl, l, ys, qs, rfl, hS, hn, h17, fun p n hle hnd hp => ⟨p, n, rfl, upd_same, by lia, ?_⟩⟩
  have s1 : Same H (upd H p (SetO p n)) := Same.new hp
  refine ⟨_, rfl, l, ys, rfl, .inl (Same.seq s1 hS), rfl, ?_⟩
  have e : decide (V.int ((n : Nat) : Int) = V.int ((ys.length : Nat) : Int)) = decide qs.Nodup := by
    by_cases h : qs.Nodup
    · rw [decide_eq_true h, decide_eq_true (by rw [hl, hnd.mpr h])]
    · rw [decide_eq_false h, decide_eq_false (fun z => h (hnd.mp (by injection z with z; rw [hl] at z; exact Int.ofNat.inj z)))]
  rw [e]
  exact q _ s1
theorem sc_told_in : FnScope ["points", "told", "point", "k"] ["points"] (defScope (top 34)) := ⟨rfl, rfl, rfl, by decide +kernel, rfl, by decide +kernel, by decide +kernel⟩
set_option maxHeartbeats 4000000 in
theorem ok_told_in {f : Addr} {fd : FuncData} (F : Fun K "told_in" "told_in" (top 34) f fd) (b_range : mg "range" = none) (b_len : mg "len" = none) (hT : P.given.tree = none) :
    FnOk P w K mg base CX0 33 f fd ["points"] (spToldT K) := by
  refine F.ok sc_told_in (fun vs H Q E h => ?_) (fun cdv A outer s H vs Q E hr h => ?_)
  · obtain ⟨_, _, _, rfl, _⟩ := h; rfl
  refine ⟨_, (@pss_consC _ _ _ _ _ K _ (@ps_set _ _ 1 _ _ _ _ sc_told_in.nd rfl (Or.inl rfl) (@pe_lst _ _ _ _ pa_nil) (by rfl) (by first   | exact .inl rfl   | exact .inr rfl   | assumption)) (@pss_consC _ _ _ _ _ K _ (@ps_forC _ _ _ _ _ _ _ _ K _ PassesOwn.never rfl (@piT _ K _ _ _ (pv 0) (by rfl)) (@pg_name _ _ 2 _ sc_told_in.nd rfl (Or.inl rfl) (by first   | exact .inl rfl   | exact .inr rfl   | assumption)) (@pss_one _ _ _ (@ps_forC _ _ _ _ _ _ _ _ K _ PassesOwn.never rfl (@pi_range1 _ _ _ _ _ _ rfl b_range (@pa_cons _ _ _ _ _ (@pe_op _ _ _ _ _ _ _ _ op_sub (@pe_callB _ _ _ _ _ _ _ _ _ (lenK K) rfl b_len bt_len (@pa_cons _ _ _ _ _ (pv 2) pa_nil (by rfl)) (by decide) (by decide) (by rfl) (by rfl)) pe_int) pa_nil (by rfl)) (by rfl)) (@pg_name _ _ 3 _ sc_told_in.nd rfl (Or.inl rfl) (by first   | exact .inl rfl   | exact .inr rfl   | assumption)) (@pss_one _ _ _ (@ps_expr _ _ _ _ (@pe_bmK _ _ _ _ _ _ _ _ _ _ _ _ K PySem.F.plainAttrs_list PySem.F.slot_list_append PySem.F.type_list_append mt_append (pv 1) (@pa_cons _ _ _ _ _ (@pe_tup _ _ _ _ _ (@pa_cons _ _ _ _ _ (@pe_ix _ _ _ _ _ _ _ (ixT K) (pv 2) pe_int (fun u v => rfl)) (@pa_cons _ _ _ _ _ (pv 3) (@pa_cons _ _ _ _ _ (@pe_ix _ _ _ _ _ _ _ (ixT K) (pv 2) (@pe_op _ _ _ _ _ _ _ _ op_add (pv 3) pe_int) (fun u v => rfl)) pa_nil (by rfl)) (by rfl)) (by rfl))) pa_nil (by rfl)) (by rfl) (by rfl) (by rfl) (by rfl) (by rfl) (by rfl)) (by rfl))) (by rfl) (by intro _; rfl))) (by rfl) (by intro _; rfl)) (@pss_one _ _ _ (@ps_ret _ _ _ _ (pv 1))) (by rfl)) (by rfl)), ?_⟩
  obtain ⟨r, xs, pss, rfl, hS, hp, h23, h100, q⟩ := h
  have P0 : 0 ≤ sizeLine := by decide
  have P3 : 3 ≤ sizeLine := by decide
  have hxl := hp.length
  refine ⟨P0, fun p hp0 => ?_⟩
  refine ⟨_, rfl, r, rfl, ⟨_, SqT.same hS (Same.new hp0)⟩, for_tup (xs := xs) (L5 H r p K pss fun H r p K pss i σ H' => Same H H' ∧ ∃ ys z2 z3, σ = [some (.ref r), some (.ref p), z2, z3] ∧ H' p = some (.lst ys) ∧ TlsT K H' ys (tell (pss.take i))) ⟨Same.new hp0, [], none, none, rfl, upd_same, .nil⟩ (fun i σ H' _ h => hS.same h.1) ?_ ?_⟩
  · rintro i v σ H' hv hR1
    refine anE2 hR1 fun sm hz30 => ?_
    refine exE3 hz30 fun ys z2 z3 hz30' => ?_
    clear hz30
    refine anE3 hz30' fun hq29 ep hys => ?_
    clear hz30'
    obtain rfl := hq29
    try clear hR1
    obtain ⟨ps, hps, a, zs, pp, rfl, hzs, hzn, hz0, hpp⟩ := (Paired.get hp hv)
    have hpl := h23 ps (List.mem_of_getElem? hps)
    have hzl := hzn.length
    have hyl : ys.length ≤ 200 := by
      have h1 := tell_length_le (pss.take i) (h23.take i)
      rw [List.length_take] at h1
      rw [hys.length]; lia
    refine ⟨_, rfl, a, zs, rfl, .inr (hzs.same sm), _, _, rfl, rfl, _, rfl, by lia, by lia, ?_⟩
    rw [show (((zs.length : Nat) : Int) - 1).toNat = ps.length - 1 from nat_pred hzl]
    refine for_range (n := ps.length - 1) (L8 H r p a K pss i ps fun H r p a K pss i ps k σ H2 => Same H H2 ∧ ∃ ys2 z3, σ = [some (.ref r), some (.ref p), some (.ref a), z3] ∧ H2 p = some (.lst ys2) ∧ TlsT K H2 ys2 (tell (pss.take i) ++ (tellP ps).take k)) ⟨sm, ys, z3, rfl, ep, by rw [List.take_zero, List.append_nil]; exact hys⟩ ?_ ?_
    · rintro k σ H2 hk hR2
      refine anE2 hR2 fun sm2 hz34 => ?_
      refine exE2 hz34 fun ys2 z3' hz34' => ?_
      clear hz34
      refine anE3 hz34' fun hq33 ep2 hys2 => ?_
      clear hz34'
      obtain rfl := hq33
      try clear hR2
      have g0 := getD_some (l := ps) (i := 0) (by lia)
      have gk := getD_some (l := ps) (i := k + 1) (by lia)
      obtain ⟨xk, hxk, hnk⟩ := (Paired.get' hzn gk)
      have ak : atI zs (0 + (k : Int) + 1) = some xk := by rw [show 0 + (k : Int) + 1 = ((k + 1 : Nat) : Int) by lia]; exact atI_nat hxk
      have hyl2 : ys2.length ≤ 204 := by
        have h1 := hys.length
        have h2 := tellP_length ps
        rw [hys2.length, List.length_append, List.length_take]; exact nat_204 hyl hk hpl h1
      refine ⟨_, rfl, .inl ⟨rfl, _, SqL.of ep2⟩, _, rfl, a, zs, _, .ref pp, rfl, rfl, hzs.same sm2, atI_nat (j := 0) hz0, _, rfl, _, rfl, _, rfl, _, _, rfl, rfl, a, zs, _, xk, rfl, rfl, hzs.same sm2, ak, P3, fun t ht => ?_⟩
      have s3 : Same H2 (upd H2 t (.tup [.ref pp, .int (0 + (k : Int)), xk])) := Same.new ht
      have tp : t ≠ p := (ne_of_none ep2 ht).symm
      have hp3 : (upd (upd H2 t (.tup [.ref pp, .int (0 + (k : Int)), xk])) p (.lst (ys2 ++ [.ref t]))) pp = some (nT (ps.getD 0 0)) := by
        have z := s3 _ _ (sm2 _ _ hpp)
        rw [upd_ne (ne_of z (s3 _ _ ep2) (fun z => by cases z))]; exact z
      refine ⟨p, ys2, .ref t, rfl, rfl, s3 _ _ ep2, Nat.lt_of_lt_of_le (show ys2.length < 300 by lia) (by decide), (sm2.trans s3).put hp0, ys2 ++ [.ref t], _, rfl, upd_same, ?_⟩
      have gt : (tellP ps)[k]? = some ⟨ps.getD 0 0, (k : Int), ps.getD (k + 1) 0⟩ := by
        unfold tellP
        rw [List.getElem?_map, List.getElem?_range hk]; rfl
      rw [List.take_add_one, gt, ← List.append_assoc]
      refine Paired.snoc (TlsT.put (TlsT.same hys2 s3) (s3 _ _ ep2)) ⟨t, pp, xk, rfl, SqT.of ?_, hp3, ((hnk.same sm2).same s3).put (s3 _ _ ep2)⟩
      rw [upd_ne tp, upd_same, Int.zero_add]
    · rintro σ H2 hR3
      refine anE2 hR3 fun sm2 hz36 => ?_
      refine exE2 hz36 fun ys2 z3' hz36' => ?_
      clear hz36
      refine anE3 hz36' fun hq35 ep2 hys2 => ?_
      clear hz36'
      obtain rfl := hq35
      try clear hR3
      refine ⟨sm2, ys2, _, _, rfl, ep2, ?_⟩
      have e : pss.take (i + 1) = pss.take i ++ [ps] := by rw [List.take_add_one, hps]; rfl
      rw [e, tell_snoc]
      have et : (tellP ps).take (ps.length - 1) = tellP ps := List.take_of_length_le (by rw [tellP_length]; exact Nat.le_refl _)
      rw [et] at hys2
      exact hys2
  · rintro σ H' hR4
    refine anE2 hR4 fun sm hz38 => ?_
    refine exE3 hz38 fun ys z2 z3 hz38' => ?_
    clear hz38
    refine anE3 hz38' fun hq37 ep hys => ?_
    clear hz38'
    obtain rfl := hq37
    try clear hR4
    rw [hxl, List.take_length] at hys
    exact ⟨_, rfl, q p H' ys sm hp0 ep hys⟩
theorem sc_is_whole : FnScope ["thing"] ["thing"] (defScope (top 13)) := ⟨rfl, rfl, rfl, by decide +kernel, rfl, by decide +kernel, by decide +kernel⟩
set_option maxHeartbeats 4000000 in
theorem ok_is_whole {f : Addr} {fd : FuncData} (F : Fun K "is_whole" "is_whole" (top 13) f fd) (b_isinstance : mg "isinstance" = none) (b_int : mg "int" = none) (b_bool : mg "bool" = none) (hT : P.given.tree = none) :
    FnOk P w K mg base CX0 33 f fd ["thing"] (spWhO K) := by
  refine F.ok sc_is_whole (fun vs H Q E h => ?_) (fun cdv A outer s H vs Q E hr h => ?_)
  · obtain ⟨_, _, rfl, _⟩ := h; rfl
  refine ⟨_, (@pss_one _ _ _ (@ps_ret _ _ _ _ (@pe_and _ _ _ _ _ _ _ (@pe_callB _ _ _ _ _ _ _ _ _ (isiK K) rfl b_isinstance bt_isinstance (@pa_cons _ _ _ _ _ (pv 0) (@pa_cons _ _ _ _ _ (@pe_bltn _ _ (.ty "int") _ _ rfl b_int bt_int rfl (by decide) (by decide)) pa_nil (by rfl)) (by rfl)) (by decide) (by decide) (by rfl) (by rfl)) (@pe_one _ _ _ _ _ (@pe_not _ _ _ _ (@pe_callB _ _ _ _ _ _ _ _ _ (isiK K) rfl b_isinstance bt_isinstance (@pa_cons _ _ _ _ _ (pv 0) (@pa_cons _ _ _ _ _ (@pe_bltn _ _ (.ty "bool") _ _ rfl b_bool bt_bool rfl (by decide) (by decide)) pa_nil (by rfl)) (by rfl)) (by decide) (by decide) (by rfl) (by rfl))))))), ?_⟩
  obtain ⟨x, b, rfl, wx, q⟩ := h
  cases wx with
  | int i => exact ⟨_, rfl, _, _, _, _, rfl, .of (.int i), kit_ii K, true, rfl, iteT ⟨_, rfl, _, _, _, _, rfl, .of (.int i), kit_ib K, false, rfl, q⟩⟩
  | bl y => exact ⟨_, rfl, _, _, _, _, rfl, .of (.bl y), kit_bi K, true, rfl, iteT ⟨_, rfl, _, _, _, _, rfl, .of (.bl y), kit_bb K, true, rfl, q⟩⟩
  | oth ty hk => exact ⟨_, rfl, _, _, _, _, rfl, ty, hk, false, rfl, iteF q⟩
theorem sc_common_measure : FnScope ["one", "other", "great", "small", "rest"] ["one", "other"] (defScope (top 14)) := ⟨rfl, rfl, rfl, by decide +kernel, rfl, by decide +kernel, by decide +kernel⟩
set_option maxHeartbeats 4000000 in
theorem ok_common_measure {f : Addr} {fd : FuncData} (F : Fun K "common_measure" "common_measure" (top 14) f fd) (b_abs : mg "abs" = none) (hT : P.given.tree = none) :
    FnOk P w K mg base CX0 33 f fd ["one", "other"] (spGcd) := by
  refine F.ok sc_common_measure (fun vs H Q E h => ?_) (fun cdv A outer s H vs Q E hr h => ?_)
  · obtain ⟨_, _, rfl, _⟩ := h; rfl
  refine ⟨_, (@pss_consC _ _ _ _ _ K _ (@ps_set _ _ 2 _ _ _ _ sc_common_measure.nd rfl (Or.inl rfl) (@pe_callB _ _ _ _ _ _ _ _ _ call_abs rfl b_abs bt_abs (@pa_cons _ _ _ _ _ (pv 0) pa_nil (by rfl)) (by decide) (by decide) (by rfl) (by rfl)) (by rfl) (by first   | exact .inl rfl   | exact .inr rfl   | assumption)) (@pss_consC _ _ _ _ _ K _ (@ps_set _ _ 3 _ _ _ _ sc_common_measure.nd rfl (Or.inl rfl) (@pe_callB _ _ _ _ _ _ _ _ _ call_abs rfl b_abs bt_abs (@pa_cons _ _ _ _ _ (pv 1) pa_nil (by rfl)) (by decide) (by decide) (by rfl) (by rfl)) (by rfl) (by first   | exact .inl rfl   | exact .inr rfl   | assumption)) (@pss_consC _ _ _ _ _ K _ (@ps_while _ _ _ _ _ _ PassesOwn.never (@pt_cmpR _ _ _ _ _ _ _ _ op_ne (pv 3) pe_int (nomark _)) (@pss_consC _ _ _ _ _ K _ (@ps_set _ _ 4 _ _ _ _ sc_common_measure.nd rfl (Or.inl rfl) (@pe_op _ _ _ _ _ _ _ _ op_mod (pv 2) (pv 3)) (by rfl) (by first   | exact .inl rfl   | exact .inr rfl   | assumption)) (@pss_consC _ _ _ _ _ K _ (@ps_set _ _ 2 _ _ _ _ sc_common_measure.nd rfl (Or.inl rfl) (pv 3) (by rfl) (by first   | exact .inl rfl   | exact .inr rfl   | assumption)) (@pss_one _ _ _ (@ps_set _ _ 3 _ _ _ _ sc_common_measure.nd rfl (Or.inl rfl) (pv 4) (by rfl) (by first   | exact .inl rfl   | exact .inr rfl   | assumption))) (by rfl)) (by rfl))) (@pss_one _ _ _ (@ps_ret _ _ _ _ (pv 2))) (by rfl)) (by rfl)) (by rfl)), ?_⟩
  obtain ⟨a, b, rfl, q⟩ := h
  refine ⟨_, rfl, a, rfl, ?_⟩
  refine ⟨_, rfl, b, rfl, ?_⟩
  refine while_by (L3 H a b fun H a b σ H' => H' = H ∧ ∃ (x y : Int) (r : Option V), σ = [some (.int a), some (.int b), some (.int x), some (.int y), r] ∧ 0 ≤ x ∧ 0 ≤ y ∧ Int.gcd x y = Int.gcd a b) (fun σ _ => mu 3 σ)
    ⟨rfl, _, _, none, rfl, ?_, ?_, ?_⟩ ?_ ?_
  · rw [Nm.abs_if]; exact Int.natCast_nonneg _
  · rw [Nm.abs_if]; exact Int.natCast_nonneg _
  · rw [Nm.abs_if, Nm.abs_if]; rfl
  · rintro σ H' hR1
    refine anE2 hR1 fun hq39 hz41 => ?_
    refine exE3 hz41 fun x y r hz41' => ?_
    clear hz41
    refine anE4 hz41' fun hq40 hx hy hg => ?_
    clear hz41'
    obtain rfl := hq39
    obtain rfl := hq40
    try clear hR1
    refine ⟨_, rfl, rfl, _, rfl, ?_⟩
    by_cases hy0 : y = 0
    · subst hy0
      refine iteFc (by rw [decide_eq_true rfl] <;> rfl) ⟨_, rfl, ?_⟩
      have e : (Int.gcd a b : Int) = x := by rw [← hg, Int.gcd_zero]; lia
      rw [e] at q
      exact q
    · refine iteTc (by rw [decide_eq_false (fun z => hy0 (V.int.inj z))] <;> rfl) ?_
      have hyp : 0 < y := by lia
      refine ⟨_, rfl, _, rfl, _, _, rfl, rfl, hyp, ?_⟩
      refine ⟨_, rfl, _, rfl, ⟨rfl, y, x % y, _, rfl, hy, Int.emod_nonneg _ hy0, ?_⟩, ?_⟩
      · rw [Nm.gcd_turn]; exact hg
      · show (x % y).toNat < y.toNat
        have := Int.emod_lt_of_pos x hyp
        lia
  · rintro σ H' Q1 Q2 hm hR2
    obtain ⟨v, e, s1, k, ek, q1⟩ := hR2
    try clear hR2
    exact ⟨v, e, s1, k, ek, hm _ _ q1⟩
theorem sc_is_number : FnScope ["thing"] ["thing"] (defScope (top 15)) := ⟨rfl, rfl, rfl, by decide +kernel, rfl, by decide +kernel, by decide +kernel⟩
set_option maxHeartbeats 4000000 in
theorem ok_is_number {f : Addr} {fd : FuncData} (F : Fun K "is_number" "is_number" (top 15) f fd) (F_is_whole : Fd P w K mg base 33 "is_whole" ["thing"] (spWhO K)) (F_common_measure : Fd P w K mg base 33 "common_measure" ["one", "other"] (spGcd)) (b_isinstance : mg "isinstance" = none) (b_tuple : mg "tuple" = none) (b_len : mg "len" = none) (hT : P.given.tree = none) :
    FnOk P w K mg base CX0 34 f fd ["thing"] (spNbO K) := by
  refine F.ok sc_is_number (fun vs H Q E h => ?_) (fun cdv A outer s H vs Q E hr h => ?_)
  · obtain ⟨_, _, rfl, _⟩ := h; rfl
  refine ⟨_, (@pss_consC _ _ _ _ _ K _ (@ps_ifC _ _ _ _ _ _ _ _ K _ _ (@PW.pt _ _ _ (@pw_or _ _ _ _ _ _ _ (@pt_not _ _ _ _ (@pt_val _ _ _ (@pe_callB _ _ _ _ _ _ _ _ _ (isiK K) rfl b_isinstance bt_isinstance (@pa_cons _ _ _ _ _ (pv 0) (@pa_cons _ _ _ _ _ (@pe_bltn _ _ (.ty "tuple") _ _ rfl b_tuple bt_tuple rfl (by decide) (by decide)) pa_nil (by rfl)) (by rfl)) (by decide) (by decide) (by rfl) (by rfl)) (by intro _; rfl))) (@pw_or1 _ _ _ _ (@pt_cmpR _ _ _ _ _ _ _ _ op_ne (@pe_callB _ _ _ _ _ _ _ _ _ (lenK K) rfl b_len bt_len (@pa_cons _ _ _ _ _ (pv 0) pa_nil (by rfl)) (by decide) (by decide) (by rfl) (by rfl)) pe_int (nomark _))))) (@pss_one _ _ _ (@ps_ret _ _ _ _ pe_bl)) pss_nil (by rfl) (by rfl)) (@pss_consC _ _ _ _ _ K _ (@ps_ifC _ _ _ _ _ _ _ _ K _ _ (@PW.pt _ _ _ (@pw_or _ _ _ _ _ _ _ (@pt_not _ _ _ _ (@pt_val _ _ _ (@pe_fn _ _ _ _ _ _ _ _ _ _ _ F_is_whole hr rfl (@pa_cons _ _ _ _ _ (@pe_ix _ _ _ _ _ _ _ (ixT K) (pv 0) pe_int (fun u v => rfl)) pa_nil (by rfl)) (by decide) (by decide) (by rfl) (by rfl)) (by intro _; rfl))) (@pw_or1 _ _ _ _ (@pt_not _ _ _ _ (@pt_val _ _ _ (@pe_fn _ _ _ _ _ _ _ _ _ _ _ F_is_whole hr rfl (@pa_cons _ _ _ _ _ (@pe_ix _ _ _ _ _ _ _ (ixT K) (pv 0) pe_int (fun u v => rfl)) pa_nil (by rfl)) (by decide) (by decide) (by rfl) (by rfl)) (by intro _; rfl)))))) (@pss_one _ _ _ (@ps_ret _ _ _ _ pe_bl)) pss_nil (by rfl) (by rfl)) (@pss_one _ _ _ (@ps_ret _ _ _ _ (@pe_and _ _ _ _ _ _ _ (@pe_cmpR _ _ _ _ _ _ _ _ op_ge (@pe_ix _ _ _ _ _ _ _ (ixT K) (pv 0) pe_int (fun u v => rfl)) pe_int (nomark _)) (@pe_one _ _ _ _ _ (@pe_cmpR _ _ _ _ _ _ _ _ op_eq (@pe_fn _ _ _ _ _ _ _ _ _ _ _ F_common_measure hr rfl (@pa_cons _ _ _ _ _ (@pe_ix _ _ _ _ _ _ _ (ixT K) (pv 0) pe_int (fun u v => rfl)) (@pa_cons _ _ _ _ _ (@pe_ix _ _ _ _ _ _ _ (ixT K) (pv 0) pe_int (fun u v => rfl)) pa_nil (by rfl)) (by rfl)) (by decide) (by decide) (by rfl) (by rfl)) pe_int (nomark _)))))) (by rfl)) (by rfl)), ?_⟩
  obtain ⟨x, b, rfl, nx, q⟩ := h
  cases nx with
  | no ty hk => exact ⟨_, rfl, _, _, _, _, rfl, ty, hk, false, rfl, iteT (iteT q)⟩
  | @len a xs ha hl =>
    refine ⟨_, rfl, _, _, _, _, rfl, .tup ha, kit_tt K, true, rfl, iteF ?_⟩
    refine ⟨_, rfl, a, xs, rfl, .inr ha, rfl, _, rfl, ?_⟩
    have hn : ¬ (V.int (xs.length : Int) = V.int 2) := fun z => hl (by have := V.int.inj z; lia)
    exact iteTc (by rw [decide_eq_false hn] <;> rfl) q
  | @one a p q' ha wp =>
    refine ⟨_, rfl, _, _, _, _, rfl, .tup ha, kit_tt K, true, rfl, iteF ?_⟩
    refine ⟨_, rfl, a, _, rfl, .inr ha, rfl, _, rfl, iteF ?_⟩
    refine ⟨_, rfl, a, _, _, _, rfl, rfl, ha, rfl, _, _, rfl, wp, _, rfl, iteT (iteT q)⟩
  | @two a i q' ha wq =>
    refine ⟨_, rfl, _, _, _, _, rfl, .tup ha, kit_tt K, true, rfl, iteF ?_⟩
    refine ⟨_, rfl, a, _, rfl, .inr ha, rfl, _, rfl, iteF ?_⟩
    refine ⟨_, rfl, a, _, _, _, rfl, rfl, ha, rfl, _, _, rfl, .int i, _, rfl, iteF ?_⟩
    refine ⟨_, rfl, a, _, _, _, rfl, rfl, ha, rfl, _, _, rfl, wq, _, rfl, iteT q⟩
  | @nums a i j _ ha e =>
    refine ⟨_, rfl, _, _, _, _, rfl, .tup ha, kit_tt K, true, rfl, iteF ?_⟩
    refine ⟨_, rfl, a, _, rfl, .inr ha, rfl, _, rfl, iteF ?_⟩
    refine ⟨_, rfl, a, _, _, _, rfl, rfl, ha, rfl, _, _, rfl, .int i, _, rfl, iteF ?_⟩
    refine ⟨_, rfl, a, _, _, _, rfl, rfl, ha, rfl, _, _, rfl, .int j, _, rfl, iteF ?_⟩
    refine ⟨_, rfl, a, _, _, _, rfl, rfl, ha, rfl, _, _, rfl, rfl, _, rfl, ?_⟩
    subst e
    by_cases hj : 1 ≤ j
    · rw [decide_eq_true hj] at q ⊢
      refine iteT ⟨_, rfl, a, _, _, _, rfl, rfl, ha, rfl, _, rfl, a, _, _, _, rfl, rfl, ha, rfl, _, _, rfl, rfl, ?_⟩
      have ev : decide (V.int (Int.gcd i j : Int) = V.int 1) = decide ((Int.gcd i j : Int) = 1) := by
        by_cases z : (Int.gcd i j : Int) = 1
        · rw [z]; rfl
        · rw [decide_eq_false z, decide_eq_false fun y => z (V.int.inj y)]
      rw [Bool.true_and] at q
      rw [ev]
      exact q
    · rw [decide_eq_false hj] at q ⊢
      exact iteF q
theorem sc_is_point : FnScope ["thing"] ["thing"] (defScope (top 31)) := ⟨rfl, rfl, rfl, by decide +kernel, rfl, by decide +kernel, by decide +kernel⟩
set_option maxHeartbeats 4000000 in
theorem ok_is_point {f : Addr} {fd : FuncData} (F : Fun K "is_point" "is_point" (top 31) f fd) (F_is_number : Fd P w K mg base 34 "is_number" ["thing"] (spNbO K)) (b_all : mg "all" = none) (b_isinstance : mg "isinstance" = none) (b_tuple : mg "tuple" = none) (b_len : mg "len" = none) (hT : P.given.tree = none) :
    FnOk P w K mg base CX0 35 f fd ["thing"] (spPbO K) := by
  refine F.ok sc_is_point (fun vs H Q E h => ?_) (fun cdv A outer s H vs Q E hr h => ?_)
  · obtain ⟨_, _, rfl, _⟩ := h; rfl
  refine ⟨_, (@pss_consC _ _ _ _ _ K _ (@ps_ifC _ _ _ _ _ _ _ _ K _ _ (@PW.pt _ _ _ (@pw_or _ _ _ _ _ _ _ (@pt_not _ _ _ _ (@pt_val _ _ _ (@pe_callB _ _ _ _ _ _ _ _ _ (isiK K) rfl b_isinstance bt_isinstance (@pa_cons _ _ _ _ _ (pv 0) (@pa_cons _ _ _ _ _ (@pe_bltn _ _ (.ty "tuple") _ _ rfl b_tuple bt_tuple rfl (by decide) (by decide)) pa_nil (by rfl)) (by rfl)) (by decide) (by decide) (by rfl) (by rfl)) (by intro _; rfl))) (@pw_or1 _ _ _ _ (@pt_cmpR _ _ _ _ _ _ _ _ (notInS K) (@pe_callB _ _ _ _ _ _ _ _ _ (lenK K) rfl b_len bt_len (@pa_cons _ _ _ _ _ (pv 0) pa_nil (by rfl)) (by decide) (by decide) (by rfl) (by rfl)) (@pe_tup _ _ _ _ _ (@pa_cons _ _ _ _ _ pe_int (@pa_cons _ _ _ _ _ pe_int pa_nil (by rfl)) (by rfl))) (by with_unfolding_all rfl))))) (@pss_one _ _ _ (@ps_ret _ _ _ _ pe_bl)) pss_nil (by rfl) (by rfl)) (@pss_one _ _ _ (@ps_ret _ _ _ _ (@pe_callB _ _ _ _ _ _ _ _ _ (allB K rfl) rfl b_all bt_all (@pa_cons _ _ _ _ _ (@pe_lc _ (["each"]) 1 ([]) _ _ _ _ _ _ _ _ _ _ rfl (CompOk.look (NX := ["thing"]) (sc := defScope (top 31)) rfl rfl (by decide +kernel)) (@piT _ K _ _ _ (pv 0) (by rfl)) (fun u1 u2 u3 u4 u5 => (@pg_name _ _ 0 _ (show List.Nodup (["each"] : List Str) from by decide +kernel) rfl (Or.inl rfl) (by first   | exact .inl rfl   | exact .inr rfl   | assumption))) (stays_name (by decide)) (fun u1 u2 u3 u4 u5 => pts_nil) (fun u1 u2 u3 u4 u5 => (@pe_fn _ _ _ _ _ _ _ _ _ _ _ F_is_number hr rfl (@pa_cons _ _ _ _ _ (pv 0) pa_nil (by rfl)) (by decide) (by decide) (by rfl) (by rfl))) (by intro _; rfl)) pa_nil (by rfl)) (by decide) (by decide) (by rfl) (by rfl)))) (by rfl)), ?_⟩
  obtain ⟨x, b, rfl, px, q⟩ := h
  have P2 : 2 ≤ sizeLine := by decide
  cases px with
  | no ty hk => exact ⟨_, rfl, _, _, _, _, rfl, ty, hk, false, rfl, iteT (iteT (q _ (Same.refl _)))⟩
  | @len a xs ha l2 l3 =>
    refine ⟨_, rfl, _, _, _, _, rfl, .tup ha, kit_tt K, true, rfl, iteF ?_⟩
    refine ⟨_, rfl, a, xs, rfl, .inr ha, P2, fun t ht => ?_⟩
    have s1 : Same H (upd H t (.tup [.int 2, .int 3])) := Same.new ht
    refine ⟨t, _, rfl, .inr (SqT.of upd_same), rfl, rfl, _, rfl, ?_⟩
    have hin : inV (V.int ((xs.length : Nat) : Int)) [.int 2, .int 3] = false := by
      show (((2 : Int) == ((xs.length : Nat) : Int)) || (((3 : Int) == ((xs.length : Nat) : Int)) || false)) = false
      have e2 : ((2 : Int) == ((xs.length : Nat) : Int)) = false := beq_eq_false_iff_ne.mpr (by lia)
      have e3 : ((3 : Int) == ((xs.length : Nat) : Int)) = false := beq_eq_false_iff_ne.mpr (by lia)
      rw [e2, e3]
      rfl
    rw [hin]
    exact iteT (q _ s1)
  | @all a xs bs ha h23 hb =>
    have hl := hb.length
    refine ⟨_, rfl, _, _, _, _, rfl, .tup ha, kit_tt K, true, rfl, iteF ?_⟩
    refine ⟨_, rfl, a, xs, rfl, .inr ha, P2, fun t ht => ?_⟩
    have s1 : Same H (upd H t (.tup [.int 2, .int 3])) := Same.new ht
    refine ⟨t, _, rfl, .inr (SqT.of upd_same), rfl, rfl, _, rfl, ?_⟩
    have hin : inV (V.int ((xs.length : Nat) : Int)) [.int 2, .int 3] = true := by
      rcases h23 with z | z
      · rw [z]; rfl
      · rw [z]; rfl
    rw [hin]
    refine iteF ?_
    generalize upd H t (.tup [.int 2, .int 3]) = H1 at s1 ⊢
    refine lc_of ⟨_, rfl, a, rfl, ⟨_, SqT.same ha s1⟩, ?_⟩
    refine lc_tup (xs := xs) (fun i zs H' => Same H1 H' ∧ zs = (bs.take i).map V.bl) ⟨Same.refl _, rfl⟩ (fun i zs H' hi p => ⟨SqT.same ha (s1.trans p.1), by rw [p.2, List.length_map, List.length_take]; lia⟩) (Nat.le_of_lt (small1000 (by lia))) ?_ ?_
    · rintro i x zs H' hx ⟨sm, rfl⟩
      obtain ⟨c, hc, hcn⟩ := (Paired.get hb hx)
      refine ⟨_, rfl, x, c, rfl, hcn.same (s1.trans sm), sm, ?_⟩
      rw [List.take_add_one, hc, List.map_append]
      rfl
    rintro zs H' ⟨sm, rfl⟩ p hp
    rw [hl, List.take_length]
    exact ⟨p, bs, rfl, SqL.of upd_same, q _ ((s1.trans sm).trans (Same.new hp))⟩
theorem sc_points_of : FnScope ["thing", "points"] ["thing"] (defScope (top 33)) := ⟨rfl, rfl, rfl, by decide +kernel, rfl, by decide +kernel, by decide +kernel⟩
set_option maxHeartbeats 4000000 in
theorem ok_points_of {f : Addr} {fd : FuncData} (F : Fun K "points_of" "points_of" (top 33) f fd) (F_are_unlike : Fd P w K mg base 33 "are_unlike" ["places"] (spUnlikeD K)) (F_told_in : Fd P w K mg base 33 "told_in" ["points"] (spToldT K)) (F_is_point : Fd P w K mg base 35 "is_point" ["thing"] (spPbO K)) (b_tuple : mg "tuple" = none) (b_all : mg "all" = none) (b_len : mg "len" = none) (b_isinstance : mg "isinstance" = none) (b_list : mg "list" = none) {t_MOST_TOLD : Tok} (c_MOST_TOLD : mg "MOST_TOLD" = some (.int 12 t_MOST_TOLD)) (hT : P.given.tree = none) :
    FnOk P w K mg base CX0 36 f fd ["thing"] (spPtsOf K) := by
  refine F.ok sc_points_of (fun vs H Q E h => ?_) (fun cdv A outer s H vs Q E hr h => ?_)
  · obtain ⟨_, _, _, _, rfl, _⟩ := h; rfl
  refine ⟨_, (@pss_consC _ _ _ _ _ K _ (@ps_ifC _ _ _ _ _ _ _ _ K _ _ (@PW.pt _ _ _ (@pw_or _ _ _ _ _ _ _ (@pt_not _ _ _ _ (@pt_val _ _ _ (@pe_callB _ _ _ _ _ _ _ _ _ (isiTX K) rfl b_isinstance bt_isinstance (@pa_cons _ _ _ _ _ (pv 0) (@pa_cons _ _ _ _ _ (@pe_tup _ _ _ _ _ (@pa_cons _ _ _ _ _ (@pe_bltn _ _ (.ty "list") _ _ rfl b_list bt_list rfl (by decide) (by decide)) (@pa_cons _ _ _ _ _ (@pe_bltn _ _ (.ty "tuple") _ _ rfl b_tuple bt_tuple rfl (by decide) (by decide)) pa_nil (by rfl)) (by rfl))) pa_nil (by rfl)) (by rfl)) (by decide) (by decide) (by rfl) (by rfl)) (by intro _; rfl))) (@pw_or1 _ _ _ _ (@pt_cmpR _ _ _ _ _ _ _ _ op_eq (@pe_callB _ _ _ _ _ _ _ _ _ (lenK K) rfl b_len bt_len (@pa_cons _ _ _ _ _ (pv 0) pa_nil (by rfl)) (by decide) (by decide) (by rfl) (by rfl)) pe_int (nomark _))))) (@pss_one _ _ _ ps_never) pss_nil (by rfl) (by rfl)) (@pss_consC _ _ _ _ _ K _ (@ps_ifC _ _ _ _ _ _ _ _ K _ _ (@pt_not _ _ _ _ (@pt_val _ _ _ (@pe_callB _ _ _ _ _ _ _ _ _ (allB K rfl) rfl b_all bt_all (@pa_cons _ _ _ _ _ (@pe_lc _ (["each"]) 1 ([]) _ _ _ _ _ _ _ _ _ _ rfl (CompOk.look (NX := ["thing", "points"]) (sc := defScope (top 33)) rfl rfl (by decide +kernel)) (@piS _ K _ _ _ (pv 0) (by rfl)) (fun u1 u2 u3 u4 u5 => (@pg_name _ _ 0 _ (show List.Nodup (["each"] : List Str) from by decide +kernel) rfl (Or.inl rfl) (by first   | exact .inl rfl   | exact .inr rfl   | assumption))) (stays_name (by decide)) (fun u1 u2 u3 u4 u5 => pts_nil) (fun u1 u2 u3 u4 u5 => (@pe_fn _ _ _ _ _ _ _ _ _ _ _ F_is_point hr rfl (@pa_cons _ _ _ _ _ (pv 0) pa_nil (by rfl)) (by decide) (by decide) (by rfl) (by rfl))) (by intro _; rfl)) pa_nil (by rfl)) (by decide) (by decide) (by rfl) (by rfl)) (by intro _; rfl))) (@pss_one _ _ _ ps_never) pss_nil (by rfl) (by rfl)) (@pss_consC _ _ _ _ _ K _ (@ps_ifC _ _ _ _ _ _ _ _ K _ _ (@pt_not _ _ _ _ (@pt_val _ _ _ (@pe_fn _ _ _ _ _ _ _ _ _ _ _ F_are_unlike hr rfl (@pa_cons _ _ _ _ _ (@pe_lc _ (["point"]) 1 ([]) _ _ _ _ _ _ _ _ _ _ rfl (CompOk.look (NX := ["thing", "points"]) (sc := defScope (top 33)) rfl rfl (by decide +kernel)) (@piS _ K _ _ _ (pv 0) (by rfl)) (fun u1 u2 u3 u4 u5 => (@pg_name _ _ 0 _ (show List.Nodup (["point"] : List Str) from by decide +kernel) rfl (Or.inl rfl) (by first   | exact .inl rfl   | exact .inr rfl   | assumption))) (stays_name (by decide)) (fun u1 u2 u3 u4 u5 => pts_nil) (fun u1 u2 u3 u4 u5 => (@pe_ix _ _ _ _ _ _ _ (ixT K) (pv 0) pe_int (fun u v => rfl))) (by intro _; rfl)) pa_nil (by rfl)) (by decide) (by decide) (by rfl) (by rfl)) (by intro _; rfl))) (@pss_one _ _ _ ps_never) pss_nil (by rfl) (by rfl)) (@pss_consC _ _ _ _ _ K _ (@ps_set _ _ 1 _ _ _ _ sc_points_of.nd rfl (Or.inl rfl) (@pe_callTy _ _ _ _ _ _ _ _ _ (tupleK K) rfl b_tuple bt_tuple (@pa_cons _ _ _ _ _ (pv 0) pa_nil (by rfl)) (by decide) (by decide) (by rfl) (by rfl)) (by rfl) (by first   | exact .inl rfl   | exact .inr rfl   | assumption)) (@pss_consC _ _ _ _ _ K _ (@ps_ifC _ _ _ _ _ _ _ _ K _ _ (@pt_cmpR _ _ _ _ _ _ _ _ op_gt (@pe_callB _ _ _ _ _ _ _ _ _ (lenK K) rfl b_len bt_len (@pa_cons _ _ _ _ _ (@pe_fn _ _ _ _ _ _ _ _ _ _ _ F_told_in hr rfl (@pa_cons _ _ _ _ _ (pv 1) pa_nil (by rfl)) (by decide) (by decide) (by rfl) (by rfl)) pa_nil (by rfl)) (by decide) (by decide) (by rfl) (by rfl)) (@pe_glob _ _ (.int 12) _ _ rfl c_MOST_TOLD ⟨_, rfl⟩ (by decide)) (nomark _)) (@pss_one _ _ _ ps_never) pss_nil (by rfl) (by rfl)) (@pss_one _ _ _ (@ps_ret _ _ _ _ (pv 1))) (by rfl)) (by rfl)) (by rfl)) (by rfl)) (by rfl)), ?_⟩
  obtain ⟨b, r, xs, pss, rfl, hS, hp, h23, h1, hnd, h12, q⟩ := h
  have P2 : 2 ≤ sizeLine := by decide
  have hl := hp.length
  have hge := tell_ge h23
  refine ⟨_, rfl, P2, fun tp htp => ?_⟩
  have s1 : Same H (upd H tp (.tup [.ty "list", .ty "tuple"])) := Same.new htp
  have hS1 := Sq.same hS s1
  refine ⟨_, if b then .type "list" else .type "tuple", tp, [.ty "list", .ty "tuple"], [.type "list", .type "tuple"], true, rfl, ?_, upd_same, rfl, ?_, _, rfl, iteF ?_⟩
  · cases b
    · exact .tup hS1
    · exact .lst hS1
  · cases b
    · exact kitA_t K
    · exact kitA_l K
  generalize upd H tp (.tup [.ty "list", .ty "tuple"]) = H1 at s1 hS1 ⊢
  refine ⟨_, rfl, r, xs, rfl, Sq.len hS1, rfl, _, rfl, ?_⟩
  refine iteFc (by rw [decide_eq_false (show ¬ V.int ((xs.length : Nat) : Int) = V.int 0 from fun z => by have := V.int.inj z; lia)] <;> rfl) ?_
  have hp1 := PtsT.same hp s1
  refine lc_seq (b := b) (a := r) (xs := xs) rfl (fun i zs H' => Same H1 H' ∧ zs = List.replicate i (.bl true)) ⟨Same.refl _, rfl⟩ (fun i zs H' _ p => ⟨Sq.same hS1 p.1, by rw [p.2, List.length_replicate]⟩) (Nat.le_of_lt (small1000 (by lia))) ?_ ?_
  · rintro i x zs H' hx ⟨sm, rfl⟩
    obtain ⟨ps, hps, hpt⟩ := (Paired.get hp1 hx)
    refine ⟨_, rfl, x, true, rfl, Pb.of ((hpt.pt).same sm) (h23 ps (List.mem_of_getElem? hps)), fun H2 s2 => ⟨sm.trans s2, ?_⟩⟩
    rw [← List.replicate_succ']
  rintro zs H2 ⟨s2, rfl⟩ al hal
  have s3 := s2.trans (Same.new (o := .lst (List.replicate xs.length (.bl true))) hal)
  refine ⟨al, List.replicate xs.length true, rfl, SqL.of (by rw [List.map_replicate]; exact upd_same), _, rfl, ?_⟩
  refine iteFc (by rw [all_rep] <;> rfl) ?_
  generalize upd H2 al (.lst (List.replicate xs.length (.bl true))) = H3 at s3 ⊢
  have hS3 := Sq.same hS1 s3
  have hp3 := PtsT.same hp1 s3
  refine lc_seq (b := b) (a := r) (xs := xs) rfl (L2 H3 pss fun H3 pss i zs H' => H' = H3 ∧ zs.length = i ∧ NumsT H3 zs ((pss.take i).map fun ps => ps.getD 0 0)) ⟨rfl, rfl, .nil⟩ (fun i zs H' _ p => ⟨by rw [p.1]; exact hS3, p.2.1⟩) (Nat.le_of_lt (small1000 (by lia))) ?_ ?_
  · rintro i x zs H' hx ⟨rfl, hzl, hzs⟩
    obtain ⟨ps, hps, a, us, pp, rfl, hus, hun, hu0, hpp⟩ := (Paired.get hp3 hx)
    refine ⟨_, rfl, a, us, _, _, rfl, rfl, hus, atI_nat (j := 0) hu0, rfl, by simp [hzl], ?_⟩
    rw [List.take_add_one, hps, List.map_append]
    exact Paired.snoc hzs ⟨pp, rfl, hpp⟩
  rintro zs Hq ⟨hq, hzl, hzs⟩ pl hpl
  obtain rfl : H3 = Hq := hq.symm
  rw [hl, List.take_length] at hzs
  have s4 : Same H3 (upd H3 pl (.lst zs)) := Same.new hpl
  refine ⟨pl, zs, _, rfl, SqL.of upd_same, NumsT.same hzs s4, by rw [List.length_map]; lia, fun H5 s5 => ⟨_, rfl, iteFc (by rw [decide_eq_true hnd]; rfl) ?_⟩⟩
  have s35 := s4.trans s5
  have hS5 := Sq.same hS3 s35
  have hp5 := PtsT.same hp3 s35
  have s15 := (s1.trans s3).trans s35
  have fin : ∀ (t : Addr) (H6 : Hp), Same H5 H6 → SqT K H6 t xs → (b = false → t = r) → (tCons (tVar 1) tNil) [some (.ref r), some (.ref t)] H6 fun vs H7 => True := fun t H6 _ _ _ => ⟨_, rfl, trivial⟩
  clear fin
  refine ⟨_, rfl, r, xs, rfl, ?_⟩
  cases b
  · refine .inr ⟨hS5, ?_⟩
    have sR := Same.refl H5
    refine ⟨_, rfl, r, xs, pss, rfl, (show SqT K H5 r xs from hS5), PtsT.same hp5 sR, h23, by lia, fun tl H7 tys s7 htl etl htls => ?_⟩
    refine ⟨tl, tys, rfl, .inl (SqL.of etl), _, _, rfl, rfl, _, rfl, ?_⟩
    have htyl := htls.length
    refine iteFc (by rw [decide_eq_false (show ¬ ((12 : Int) < ((tys.length : Nat) : Int)) by lia)] <;> rfl) ⟨_, rfl, q r H7 ((s15.trans sR).trans s7) ((show SqT K H5 r xs from hS5).same s7) (fun _ => rfl)⟩
  · refine .inl ⟨hS5, fun t ht => ?_⟩
    have sT : Same H5 (upd H5 t (.tup xs)) := Same.new ht
    have eT : SqT K (upd H5 t (.tup xs)) t xs := SqT.of upd_same
    refine ⟨_, rfl, t, xs, pss, rfl, eT, PtsT.same hp5 sT, h23, by lia, fun tl H7 tys s7 htl etl htls => ?_⟩
    refine ⟨tl, tys, rfl, .inl (SqL.of etl), _, _, rfl, rfl, _, rfl, ?_⟩
    have htyl := htls.length
    refine iteFc (by rw [decide_eq_false (show ¬ ((12 : Int) < ((tys.length : Nat) : Int)) by lia)] <;> rfl) ⟨_, rfl, q t H7 ((s15.trans sT).trans s7) (eT.same s7) (fun z => by cases z)⟩
set_option maxHeartbeats 4000000 in
theorem okx_points_of {f : Addr} {fd : FuncData} (F : Fun K "points_of" "points_of" (top 33) f fd) {a_NoPoints a_TooMany : Addr} (k_NoPoints : XCls K "NoPoints" a_NoPoints) (k_TooMany : XCls K "TooMany" a_TooMany) (F_are_unlike : Fd P w K mg base 33 "are_unlike" ["places"] (spUnlikeD K)) (F_told_in : Fd P w K mg base 33 "told_in" ["points"] (spToldT K)) (F_is_point : Fd P w K mg base 35 "is_point" ["thing"] (spPbO K)) (b_tuple : mg "tuple" = none) (b_all : mg "all" = none) (b_len : mg "len" = none) (b_isinstance : mg "isinstance" = none) (b_list : mg "list" = none) {t_MOST_TOLD : Tok} (c_MOST_TOLD : mg "MOST_TOLD" = some (.int 12 t_MOST_TOLD)) (hT : P.given.tree = none) :
    FnOk P w K mg base (CX2 P w) 36 f fd ["thing"] (spPtsX K a_NoPoints a_TooMany) := by
  refine F.okY sc_points_of (fun vs H Q E h => ?_) (fun cdv A outer s H vs Q E hr h => ?_)
  · obtain ⟨_, rfl, _⟩ := h; rfl
  refine ⟨_, (@pss_cons _ _ _ _ _ (@ps_ifC _ _ _ _ _ _ _ _ K _ _ (@PW.pt _ _ _ (@pw_or _ _ _ _ _ _ _ (@pt_not _ _ _ _ (@pt_val _ _ _ (@pe_callB _ _ _ _ _ _ _ _ _ (isiTX K) rfl b_isinstance bt_isinstance (@pa_cons _ _ _ _ _ (pv 0) (@pa_cons _ _ _ _ _ (@pe_tup _ _ _ _ _ (@pa_cons _ _ _ _ _ (@pe_bltn _ _ (.ty "list") _ _ rfl b_list bt_list rfl (by decide) (by decide)) (@pa_cons _ _ _ _ _ (@pe_bltn _ _ (.ty "tuple") _ _ rfl b_tuple bt_tuple rfl (by decide) (by decide)) pa_nil (by rfl)) (by rfl))) pa_nil (by rfl)) (by rfl)) (by decide) (by decide) (by rfl) (by rfl)) (by intro _; rfl))) (@pw_or1 _ _ _ _ (@pt_cmpR _ _ _ _ _ _ _ _ op_eq (@pe_callB _ _ _ _ _ _ _ _ _ (lenK K) rfl b_len bt_len (@pa_cons _ _ _ _ _ (pv 0) pa_nil (by rfl)) (by decide) (by decide) (by rfl) (by rfl)) pe_int (nomark _))))) (@pss_one _ _ _ (@ps_raise _ _ _ _ _ _ _ _ _ _ k_NoPoints rfl makes2 rfl (@pa_cons _ _ _ _ _ pe_str pa_nil (by rfl)) (by decide) (by rfl) (by rfl))) pss_nil (by rfl) (by rfl)) (@pss_cons _ _ _ _ _ (@ps_ifC _ _ _ _ _ _ _ _ K _ _ (@pt_not _ _ _ _ (@pt_val _ _ _ (@pe_callB _ _ _ _ _ _ _ _ _ (allB K rfl) rfl b_all bt_all (@pa_cons _ _ _ _ _ (@pe_lc _ (["each"]) 1 ([]) _ _ _ _ _ _ _ _ _ _ rfl (CompOk.look (NX := ["thing", "points"]) (sc := defScope (top 33)) rfl rfl (by decide +kernel)) (@piS _ K _ _ _ (pv 0) (by rfl)) (fun u1 u2 u3 u4 u5 => (@pg_name _ _ 0 _ (show List.Nodup (["each"] : List Str) from by decide +kernel) rfl (Or.inl rfl) (by first   | exact .inl rfl   | exact .inr rfl   | assumption))) (stays_name (by decide)) (fun u1 u2 u3 u4 u5 => pts_nil) (fun u1 u2 u3 u4 u5 => (@pe_fn _ _ _ _ _ _ _ _ _ _ _ F_is_point hr rfl (@pa_cons _ _ _ _ _ (pv 0) pa_nil (by rfl)) (by decide) (by decide) (by rfl) (by rfl))) (by intro _; rfl)) pa_nil (by rfl)) (by decide) (by decide) (by rfl) (by rfl)) (by intro _; rfl))) (@pss_one _ _ _ (@ps_raise _ _ _ _ _ _ _ _ _ _ k_NoPoints rfl makes2 rfl (@pa_cons _ _ _ _ _ pe_str pa_nil (by rfl)) (by decide) (by rfl) (by rfl))) pss_nil (by rfl) (by rfl)) (@pss_cons _ _ _ _ _ (@ps_ifC _ _ _ _ _ _ _ _ K _ _ (@pt_not _ _ _ _ (@pt_val _ _ _ (@pe_fn _ _ _ _ _ _ _ _ _ _ _ F_are_unlike hr rfl (@pa_cons _ _ _ _ _ (@pe_lc _ (["point"]) 1 ([]) _ _ _ _ _ _ _ _ _ _ rfl (CompOk.look (NX := ["thing", "points"]) (sc := defScope (top 33)) rfl rfl (by decide +kernel)) (@piS _ K _ _ _ (pv 0) (by rfl)) (fun u1 u2 u3 u4 u5 => (@pg_name _ _ 0 _ (show List.Nodup (["point"] : List Str) from by decide +kernel) rfl (Or.inl rfl) (by first   | exact .inl rfl   | exact .inr rfl   | assumption))) (stays_name (by decide)) (fun u1 u2 u3 u4 u5 => pts_nil) (fun u1 u2 u3 u4 u5 => (@pe_ix _ _ _ _ _ _ _ (ixT K) (pv 0) pe_int (fun u v => rfl))) (by intro _; rfl)) pa_nil (by rfl)) (by decide) (by decide) (by rfl) (by rfl)) (by intro _; rfl))) (@pss_one _ _ _ (@ps_raise _ _ _ _ _ _ _ _ _ _ k_NoPoints rfl makes2 rfl (@pa_cons _ _ _ _ _ pe_str pa_nil (by rfl)) (by decide) (by rfl) (by rfl))) pss_nil (by rfl) (by rfl)) (@pss_cons _ _ _ _ _ (@ps_set _ _ 1 _ _ _ _ sc_points_of.nd rfl (Or.inl rfl) (@pe_callTy _ _ _ _ _ _ _ _ _ (tupleK K) rfl b_tuple bt_tuple (@pa_cons _ _ _ _ _ (pv 0) pa_nil (by rfl)) (by decide) (by decide) (by rfl) (by rfl)) (by rfl) (by first   | exact .inl rfl   | exact .inr rfl   | assumption)) (@pss_cons _ _ _ _ _ (@ps_ifC _ _ _ _ _ _ _ _ K _ _ (@pt_cmpR _ _ _ _ _ _ _ _ op_gt (@pe_callB _ _ _ _ _ _ _ _ _ (lenK K) rfl b_len bt_len (@pa_cons _ _ _ _ _ (@pe_fn _ _ _ _ _ _ _ _ _ _ _ F_told_in hr rfl (@pa_cons _ _ _ _ _ (pv 1) pa_nil (by rfl)) (by decide) (by decide) (by rfl) (by rfl)) pa_nil (by rfl)) (by decide) (by decide) (by rfl) (by rfl)) (@pe_glob _ _ (.int 12) _ _ rfl c_MOST_TOLD ⟨_, rfl⟩ (by decide)) (nomark _)) (@pss_one _ _ _ (@ps_raise _ _ _ _ _ _ _ _ _ _ k_TooMany rfl makes2 rfl (@pa_cons _ _ _ _ _ pe_str pa_nil (by rfl)) (by decide) (by rfl) (by rfl))) pss_nil (by rfl) (by rfl)) pss_never))))), ?_⟩
  obtain ⟨x, rfl, hx⟩ := h
  have P1 : 1 ≤ sizeLine := by decide
  have P2 : 2 ≤ sizeLine := by decide
  rcases hx with ⟨bad, qE⟩ | ⟨many, qE⟩
  · cases bad with
    | no ty hk =>
      exact ⟨_, rfl, P2, fun tp htp => ⟨_, _, tp, [.ty "list", .ty "tuple"], [.type "list", .type "tuple"], false, rfl, TyP.same ty (Same.new htp), upd_same, rfl, hk, _, rfl, iteTc rfl (iteT ⟨P1, qE _ (Same.new htp)⟩)⟩⟩
    | @nil b r hS =>
      refine ⟨_, rfl, P2, fun tp htp => ?_⟩
      have s1 : Same H (upd H tp (.tup [.ty "list", .ty "tuple"])) := Same.new htp
      have hS1 := Sq.same hS s1
      refine ⟨_, if b then .type "list" else .type "tuple", tp, [.ty "list", .ty "tuple"], [.type "list", .type "tuple"], true, rfl, ?_, upd_same, rfl, ?_, _, rfl, iteFc rfl ?_⟩
      · cases b
        · exact .tup hS1
        · exact .lst hS1
      · cases b
        · exact kitA_t K
        · exact kitA_l K
      generalize upd H tp (.tup [.ty "list", .ty "tuple"]) = H1 at s1 hS1 ⊢
      refine ⟨_, rfl, r, _, rfl, Sq.len hS1, rfl, _, rfl, ?_⟩
      exact iteTc rfl ⟨P1, qE _ s1⟩
    | @pt b r xs bs hS hpb hb h17 =>
      have hne : xs.length ≠ 0 := fun z => by
        have h0 := hpb.length
        rw [z] at h0
        have : bs = [] := List.eq_nil_of_length_eq_zero h0.symm
        rw [this] at hb
        cases hb
      refine ⟨_, rfl, P2, fun tp htp => ?_⟩
      have s1 : Same H (upd H tp (.tup [.ty "list", .ty "tuple"])) := Same.new htp
      have hS1 := Sq.same hS s1
      refine ⟨_, if b then .type "list" else .type "tuple", tp, [.ty "list", .ty "tuple"], [.type "list", .type "tuple"], true, rfl, ?_, upd_same, rfl, ?_, _, rfl, iteFc rfl ?_⟩
      · cases b
        · exact .tup hS1
        · exact .lst hS1
      · cases b
        · exact kitA_t K
        · exact kitA_l K
      generalize upd H tp (.tup [.ty "list", .ty "tuple"]) = H1 at s1 hS1 ⊢
      refine ⟨_, rfl, r, _, rfl, Sq.len hS1, rfl, _, rfl, ?_⟩
      refine iteFc (decide_eq_false (fun z => by have := V.int.inj z; lia)) ?_
      have hpb1 := Paired.mapP hpb fun _ _ z => Pb.same z s1
      have hbl := hpb.length
      refine lc_seq (b := b) (a := r) (xs := xs) rfl (fun i zs H' => Same H1 H' ∧ zs = (bs.take i).map V.bl) ⟨Same.refl _, rfl⟩ (fun i zs H' hi p => ⟨Sq.same hS1 p.1, by rw [p.2, List.length_map, List.length_take]; lia⟩) (Nat.le_of_lt (small1000 (by lia))) ?_ ?_
      · rintro i x zs H' hx ⟨sm, rfl⟩
        obtain ⟨c, hc, hcn⟩ := Paired.get hpb1 hx
        refine ⟨_, rfl, x, c, rfl, Pb.same hcn sm, fun H2 s2 => ⟨sm.trans s2, ?_⟩⟩
        rw [List.take_add_one, hc, List.map_append]
        rfl
      rintro zs H2 ⟨s2, rfl⟩ al hal
      have e2 : bs.take xs.length = bs := by rw [hbl, List.take_length]
      rw [e2]
      refine ⟨al, bs, rfl, SqL.of upd_same, _, rfl, ?_⟩
      have s3 := s2.trans (Same.new (o := .lst (bs.map V.bl)) hal)
      generalize upd H2 al (.lst (bs.map V.bl)) = H3 at s3 ⊢
      exact iteTc (by rw [hb]; rfl) ⟨P1, qE _ (s1.trans s3)⟩
    | @twice b r xs pss hS hp h23 hnd h17 =>
      have hpb := pbs_of hp h23
      have hall := all_true pss.length
      have hxl := hp.length
      have hne : xs.length ≠ 0 := fun z => hnd (by
        have : pss = [] := List.eq_nil_of_length_eq_zero (by lia)
        rw [this]
        exact List.Pairwise.nil)
      generalize List.replicate pss.length true = bs at hpb hall
      refine ⟨_, rfl, P2, fun tp htp => ?_⟩
      have s1 : Same H (upd H tp (.tup [.ty "list", .ty "tuple"])) := Same.new htp
      have hS1 := Sq.same hS s1
      refine ⟨_, if b then .type "list" else .type "tuple", tp, [.ty "list", .ty "tuple"], [.type "list", .type "tuple"], true, rfl, ?_, upd_same, rfl, ?_, _, rfl, iteFc rfl ?_⟩
      · cases b
        · exact .tup hS1
        · exact .lst hS1
      · cases b
        · exact kitA_t K
        · exact kitA_l K
      generalize upd H tp (.tup [.ty "list", .ty "tuple"]) = H1 at s1 hS1 ⊢
      refine ⟨_, rfl, r, _, rfl, Sq.len hS1, rfl, _, rfl, ?_⟩
      refine iteFc (decide_eq_false (fun z => by have := V.int.inj z; lia)) ?_
      have hpb1 := Paired.mapP hpb fun _ _ z => Pb.same z s1
      have hbl := hpb.length
      refine lc_seq (b := b) (a := r) (xs := xs) rfl (fun i zs H' => Same H1 H' ∧ zs = (bs.take i).map V.bl) ⟨Same.refl _, rfl⟩ (fun i zs H' hi p => ⟨Sq.same hS1 p.1, by rw [p.2, List.length_map, List.length_take]; lia⟩) (Nat.le_of_lt (small1000 (by lia))) ?_ ?_
      · rintro i x zs H' hx ⟨sm, rfl⟩
        obtain ⟨c, hc, hcn⟩ := Paired.get hpb1 hx
        refine ⟨_, rfl, x, c, rfl, Pb.same hcn sm, fun H2 s2 => ⟨sm.trans s2, ?_⟩⟩
        rw [List.take_add_one, hc, List.map_append]
        rfl
      rintro zs H2 ⟨s2, rfl⟩ al hal
      have e2 : bs.take xs.length = bs := by rw [hbl, List.take_length]
      rw [e2]
      refine ⟨al, bs, rfl, SqL.of upd_same, _, rfl, ?_⟩
      have s3 := s2.trans (Same.new (o := .lst (bs.map V.bl)) hal)
      generalize upd H2 al (.lst (bs.map V.bl)) = H3 at s3 ⊢
      refine iteFc (by rw [hall]; rfl) ?_
      have hl := hp.length
      have hS3 := Sq.same hS1 s3
      have hp3 := PtsT.same hp (s1.trans s3)
      refine lc_seq (b := b) (a := r) (xs := xs) rfl (fun i zs H' => H' = H3 ∧ zs.length = i ∧ NumsT H3 zs ((pss.take i).map fun ps => ps.getD 0 0)) ⟨rfl, rfl, .nil⟩ (fun i zs H' _ p => ⟨by rw [p.1]; exact hS3, p.2.1⟩) (Nat.le_of_lt (small1000 (by lia))) ?_ ?_
      · rintro i x zs H' hx ⟨rfl, hzl, hzs⟩
        obtain ⟨ps, hps, a, us, pp, rfl, hus, hun, hu0, hpp⟩ := Paired.get hp3 hx
        refine ⟨_, rfl, a, us, _, _, rfl, rfl, hus, atI_nat (j := 0) hu0, rfl, by simp [hzl], ?_⟩
        rw [List.take_add_one, hps, List.map_append]
        exact Paired.snoc hzs ⟨pp, rfl, hpp⟩
      rintro zs Hq ⟨hq, hzl, hzs⟩ pl hpl
      obtain rfl : H3 = Hq := hq.symm
      rw [hl, List.take_length] at hzs
      have s4 : Same H3 (upd H3 pl (.lst zs)) := Same.new hpl
      refine ⟨pl, zs, _, rfl, SqL.of upd_same, NumsT.same hzs s4, by rw [List.length_map]; lia, fun H5 s5 => ⟨_, rfl, ?_⟩⟩
      have s15 := ((s1.trans s3).trans s4).trans s5
      exact iteTc (by rw [decide_eq_false hnd]; rfl) ⟨P1, qE _ s15⟩
  · obtain ⟨b, r, xs, pss, rfl, hS, hp, h23, h1, hnd, h12, h17⟩ := many
    have hpb := pbs_of hp h23
    have hall := all_true pss.length
    have hxl := hp.length
    have hne : xs.length ≠ 0 := by lia
    generalize List.replicate pss.length true = bs at hpb hall
    refine ⟨_, rfl, P2, fun tp htp => ?_⟩
    have s1 : Same H (upd H tp (.tup [.ty "list", .ty "tuple"])) := Same.new htp
    have hS1 := Sq.same hS s1
    refine ⟨_, if b then .type "list" else .type "tuple", tp, [.ty "list", .ty "tuple"], [.type "list", .type "tuple"], true, rfl, ?_, upd_same, rfl, ?_, _, rfl, iteFc rfl ?_⟩
    · cases b
      · exact .tup hS1
      · exact .lst hS1
    · cases b
      · exact kitA_t K
      · exact kitA_l K
    generalize upd H tp (.tup [.ty "list", .ty "tuple"]) = H1 at s1 hS1 ⊢
    refine ⟨_, rfl, r, _, rfl, Sq.len hS1, rfl, _, rfl, ?_⟩
    refine iteFc (decide_eq_false (fun z => by have := V.int.inj z; lia)) ?_
    have hpb1 := Paired.mapP hpb fun _ _ z => Pb.same z s1
    have hbl := hpb.length
    refine lc_seq (b := b) (a := r) (xs := xs) rfl (fun i zs H' => Same H1 H' ∧ zs = (bs.take i).map V.bl) ⟨Same.refl _, rfl⟩ (fun i zs H' hi p => ⟨Sq.same hS1 p.1, by rw [p.2, List.length_map, List.length_take]; lia⟩) (Nat.le_of_lt (small1000 (by lia))) ?_ ?_
    · rintro i x zs H' hx ⟨sm, rfl⟩
      obtain ⟨c, hc, hcn⟩ := Paired.get hpb1 hx
      refine ⟨_, rfl, x, c, rfl, Pb.same hcn sm, fun H2 s2 => ⟨sm.trans s2, ?_⟩⟩
      rw [List.take_add_one, hc, List.map_append]
      rfl
    rintro zs H2 ⟨s2, rfl⟩ al hal
    have e2 : bs.take xs.length = bs := by rw [hbl, List.take_length]
    rw [e2]
    refine ⟨al, bs, rfl, SqL.of upd_same, _, rfl, ?_⟩
    have s3 := s2.trans (Same.new (o := .lst (bs.map V.bl)) hal)
    generalize upd H2 al (.lst (bs.map V.bl)) = H3 at s3 ⊢
    refine iteFc (by rw [hall]; rfl) ?_
    have hl := hp.length
    have hS3 := Sq.same hS1 s3
    have hp3 := PtsT.same hp (s1.trans s3)
    refine lc_seq (b := b) (a := r) (xs := xs) rfl (fun i zs H' => H' = H3 ∧ zs.length = i ∧ NumsT H3 zs ((pss.take i).map fun ps => ps.getD 0 0)) ⟨rfl, rfl, .nil⟩ (fun i zs H' _ p => ⟨by rw [p.1]; exact hS3, p.2.1⟩) (Nat.le_of_lt (small1000 (by lia))) ?_ ?_
    · rintro i x zs H' hx ⟨rfl, hzl, hzs⟩
      obtain ⟨ps, hps, a, us, pp, rfl, hus, hun, hu0, hpp⟩ := Paired.get hp3 hx
      refine ⟨_, rfl, a, us, _, _, rfl, rfl, hus, atI_nat (j := 0) hu0, rfl, by simp [hzl], ?_⟩
      rw [List.take_add_one, hps, List.map_append]
      exact Paired.snoc hzs ⟨pp, rfl, hpp⟩
    rintro zs Hq ⟨hq, hzl, hzs⟩ pl hpl
    obtain rfl : H3 = Hq := hq.symm
    rw [hl, List.take_length] at hzs
    have s4 : Same H3 (upd H3 pl (.lst zs)) := Same.new hpl
    refine ⟨pl, zs, _, rfl, SqL.of upd_same, NumsT.same hzs s4, by rw [List.length_map]; lia, fun H5 s5 => ⟨_, rfl, ?_⟩⟩
    have s15 := ((s1.trans s3).trans s4).trans s5
    refine iteFc (by rw [decide_eq_true hnd]; rfl) ?_
    have hS5 := Sq.same hS s15
    have hp5 := PtsT.same hp s15
    refine ⟨_, rfl, r, xs, rfl, ?_⟩
    cases b
    · refine .inr ⟨hS5, ?_⟩
      refine ⟨_, rfl, r, xs, pss, rfl, hS5, hp5, h23, by lia, fun tl H7 tys s7 htl etl htls => ?_⟩
      have htyl := htls.length
      exact ⟨tl, tys, rfl, .inl (SqL.of etl), _, _, rfl, rfl, _, rfl, iteTc (decide_eq_true (by lia)) ⟨P1, qE _ (s15.trans s7)⟩⟩
    · refine .inl ⟨hS5, fun t ht => ?_⟩
      have sT : Same H5 (upd H5 t (.tup xs)) := Same.new ht
      refine ⟨_, rfl, t, xs, pss, rfl, SqT.of upd_same, PtsT.same hp5 sT, h23, by lia, fun tl H7 tys s7 htl etl htls => ?_⟩
      have htyl := htls.length
      exact ⟨tl, tys, rfl, .inl (SqL.of etl), _, _, rfl, rfl, _, rfl, iteTc (decide_eq_true (by lia)) ⟨P1, qE _ ((s15.trans sT).trans s7)⟩⟩
theorem sc_put_in : FnScope ["points", "point"] ["points", "point"] (defScope (top 49)) := ⟨rfl, rfl, rfl, by decide +kernel, rfl, by decide +kernel, by decide +kernel⟩
theorem ok_put_in {f : Addr} {fd : FuncData} (F : Fun K "put_in" "put_in" (top 49) f fd) (F_points_of : Fd P w K mg base 36 "points_of" ["thing"] (spPtsOf K)) (b_list : mg "list" = none) (hT : P.given.tree = none) :
    FnOk P w K mg base CX0 37 f fd ["points", "point"] (fun _ _ _ _ => False) := F.ok sc_put_in (fun vs H Q E h => False.elim h) (fun cdv A outer s H vs Q E hr h => False.elim h)
set_option maxHeartbeats 4000000 in
theorem okx_put_in {f : Addr} {fd : FuncData} (F : Fun K "put_in" "put_in" (top 49) f fd) {a_TooMany a_NoPoints a_NoPoint : Addr} (X_points_of : FdY P w K mg base 36 "points_of" ["thing"] (fun vs H Q E => (spPtsOf K : Sp) vs H Q E ∨ (spPtsX K a_NoPoints a_TooMany : Sp) vs H Q E)) (F_points_of : Fd P w K mg base 36 "points_of" ["thing"] (spPtsOf K)) (b_list : mg "list" = none) (hT : P.given.tree = none) :
    FnOk P w K mg base (CX2 P w) 37 f fd ["points", "point"] (spPutX K (clsOf3 a_TooMany a_NoPoints a_NoPoint)) := by
  refine F.okY sc_put_in (fun vs H Q E h => ?_) (fun cdv A outer s H vs Q E hr h => ?_)
  · obtain ⟨_, _, _, _, _, rfl, _⟩ := h; rfl
  refine ⟨_, (@pss_one _ _ _ (@ps_ret _ _ _ _ (@pe_fnY _ _ _ _ _ _ _ _ _ _ _ _ X_points_of hr rfl pass2 (@pa_cons _ _ _ _ _ (@pe_op _ _ _ _ _ _ _ _ op_cat (@pe_callTy _ _ _ _ _ _ _ _ _ (listK K) rfl b_list bt_list (@pa_cons _ _ _ _ _ (pv 0) pa_nil (by rfl)) (by decide) (by decide) (by rfl) (by rfl)) (@pe_lst _ _ _ _ (@pa_cons _ _ _ _ _ (pv 1) pa_nil (by rfl)))) pa_nil (by rfl)) (by decide) (by decide) (by rfl) (by rfl)))), ?_⟩
  obtain ⟨r, y, xs, pss, n, rfl, ok, hy, q⟩ := h
  have P1 : 1 ≤ sizeLine := by decide
  have hl := ok.len
  have hxl := ok.P.length
  refine ⟨_, rfl, r, xs, rfl, .inr ok.S, fun l1 hl1 => ⟨_, rfl, P1, fun l2 hl2 => ?_⟩⟩
  refine ⟨l1, l2, xs, [y], rfl, rfl, (Same.new hl2) _ _ upd_same, upd_same, Nat.le_trans (show _ ≤ 300 by rw [List.length_singleton]; lia) (by decide), fun l3 hl3 => ?_⟩
  have s3 : Same H _ := ((Same.new hl1).trans (Same.new hl2)).trans (Same.new (o := .lst (xs ++ [y])) hl3)
  rcases put_bad (ok.same s3) (hy.same s3) (SqL.of upd_same) with ⟨rfl, hb⟩ | ⟨rfl, hb⟩
  · exact .inr ⟨_, rfl, .inl ⟨hb, fun H' s => q H' (s3.trans s)⟩⟩
  · exact .inr ⟨_, rfl, .inr ⟨hb, fun H' s => q H' (s3.trans s)⟩⟩
theorem sc_point_at : FnScope ["points", "x", "point"] ["points", "x"] (defScope (top 50)) := ⟨rfl, rfl, rfl, by decide +kernel, rfl, by decide +kernel, by decide +kernel⟩
theorem ok_point_at {f : Addr} {fd : FuncData} (F : Fun K "point_at" "point_at" (top 50) f fd) (hT : P.given.tree = none) :
    FnOk P w K mg base CX0 33 f fd ["points", "x"] (fun _ _ _ _ => False) := F.ok sc_point_at (fun vs H Q E h => False.elim h) (fun cdv A outer s H vs Q E hr h => False.elim h)
set_option maxHeartbeats 4000000 in
theorem okx_point_at {f : Addr} {fd : FuncData} (F : Fun K "point_at" "point_at" (top 50) f fd) {a_TooMany a_NoPoints a_NoPoint : Addr} (k_NoPoint : XCls K "NoPoint" a_NoPoint) (hT : P.given.tree = none) :
    FnOk P w K mg base (CX2 P w) 33 f fd ["points", "x"] (spPtAtX K (clsOf3 a_TooMany a_NoPoints a_NoPoint)) := by
  refine F.okY sc_point_at (fun vs H Q E h => ?_) (fun cdv A outer s H vs Q E hr h => ?_)
  · obtain ⟨_, _, _, _, _, rfl, _⟩ := h; rfl
  refine ⟨_, (@pss_cons _ _ _ _ _ (@PS.nox _ _ _ (@ps_forC _ _ _ _ _ _ _ _ K _ PassesOwn.never rfl (@piT _ K _ _ _ (pv 0) (by rfl)) (@pg_name _ _ 2 _ sc_point_at.nd rfl (Or.inl rfl) (by first   | exact .inl rfl   | exact .inr rfl   | assumption)) (@pss_one _ _ _ (@ps_ifC _ _ _ _ _ _ _ _ K _ _ (@pt_cmpR _ _ _ _ _ _ _ _ (eqD K hr.units) (@pe_ix _ _ _ _ _ _ _ (ixT K) (pv 2) pe_int (fun u v => rfl)) (pv 1) (nomark _)) (@pss_one _ _ _ (@ps_ret _ _ _ _ (pv 2))) pss_nil (by rfl) (by rfl))) (by rfl) (by intro _; rfl))) (@pss_cons _ _ _ _ _ (@ps_raise _ _ _ _ _ _ _ _ _ _ k_NoPoint rfl makes2 rfl (@pa_cons _ _ _ _ _ pe_str pa_nil (by rfl)) (by decide) (by rfl) (by rfl)) pss_never)), ?_⟩
  obtain ⟨r, x, xs, pss, q0, rfl, ok, hx, hc⟩ := h
  have P1 : 1 ≤ sizeLine := by decide
  rcases hc with ⟨hno, qE⟩ | ⟨m, ps, v, hm, hv, e0, q⟩
  · refine ⟨_, rfl, r, rfl, ⟨_, ok.S⟩, for_tup (xs := xs) (fun i σ H' => H' = H ∧ ∃ z, σ = [some (.ref r), some x, z]) ⟨rfl, _, rfl⟩ (fun i σ H' _ h => by rw [h.1]; exact ok.S) ?_ ?_⟩
    · rintro i u σ H' hu ⟨rfl, z, rfl⟩
      obtain ⟨qs, hqs, a, us, pp, rfl, hus, hun, hu0, hpp⟩ := Paired.get ok.P hu
      refine ⟨_, rfl, a, us, _, _, rfl, rfl, hus, atI_nat (j := 0) hu0, _, rfl, ?_⟩
      refine eqN (NumV.of hpp) hx ?_
      refine ⟨_, rfl, iteFc (decide_eq_false fun e => hno ?_) ⟨rfl, _, rfl⟩⟩
      rw [← e]; exact List.mem_map_of_mem (f := fun ps : List Rat => ps.getD 0 0) (List.mem_of_getElem? hqs)
    · rintro σ H' ⟨rfl, z, rfl⟩
      exact ⟨P1, qE⟩
  · refine ⟨_, rfl, r, rfl, ⟨_, ok.S⟩, for_tup (xs := xs) (fun i σ H' => H' = H ∧ i ≤ m ∧ ∃ z, σ = [some (.ref r), some x, z]) ⟨rfl, Nat.zero_le _, _, rfl⟩ (fun i σ H' _ h => by rw [h.1]; exact ok.S) ?_ ?_⟩
    · rintro i u σ H' hu ⟨rfl, him, z, rfl⟩
      obtain ⟨qs, hqs, a, us, pp, rfl, hus, hun, hu0, hpp⟩ := Paired.get ok.P hu
      refine ⟨_, rfl, a, us, _, _, rfl, rfl, hus, atI_nat (j := 0) hu0, _, rfl, ?_⟩
      refine eqN (NumV.of hpp) hx ?_
      refine ⟨_, rfl, ?_⟩
      by_cases he : qs.getD 0 0 = q0
      · obtain rfl := nd_inj ok.nd hqs hm (he.trans e0.symm)
        rw [hv] at hu
        cases hu
        exact iteTc (decide_eq_true he) ⟨_, rfl, q⟩
      · refine iteFc (decide_eq_false he) ⟨rfl, ?_, _, rfl⟩
        rcases Nat.lt_or_ge i m with z | z
        · lia
        · obtain rfl : i = m := by lia
          rw [hm] at hqs
          cases hqs
          exact absurd e0 he
    · rintro σ H' ⟨rfl, him, z, rfl⟩
      exact absurd (List.getElem?_eq_some_iff.mp hv).1 (by lia)
theorem sc_taken_out : FnScope ["points", "x", "out"] ["points", "x"] (defScope (top 51)) := ⟨rfl, rfl, rfl, by decide +kernel, rfl, by decide +kernel, by decide +kernel⟩
theorem ok_taken_out {f : Addr} {fd : FuncData} (F : Fun K "taken_out" "taken_out" (top 51) f fd) (F_point_at : Fd P w K mg base 33 "point_at" ["points", "x"] (fun _ _ _ _ => False)) (b_tuple : mg "tuple" = none) (b_len : mg "len" = none) (hT : P.given.tree = none) :
    FnOk P w K mg base CX0 34 f fd ["points", "x"] (fun _ _ _ _ => False) := F.ok sc_taken_out (fun vs H Q E h => False.elim h) (fun cdv A outer s H vs Q E hr h => False.elim h)
set_option maxHeartbeats 4000000 in
theorem okx_taken_out {f : Addr} {fd : FuncData} (F : Fun K "taken_out" "taken_out" (top 51) f fd) {a_TooMany a_NoPoints a_NoPoint : Addr} (k_NoPoints : XCls K "NoPoints" a_NoPoints) (X_point_at : FdY P w K mg base 33 "point_at" ["points", "x"] (spPtAtX K (clsOf3 a_TooMany a_NoPoints a_NoPoint))) (F_point_at : Fd P w K mg base 33 "point_at" ["points", "x"] (fun _ _ _ _ => False)) (b_tuple : mg "tuple" = none) (b_len : mg "len" = none) (hT : P.given.tree = none) :
    FnOk P w K mg base (CX2 P w) 34 f fd ["points", "x"] (spTakenX K (clsOf3 a_TooMany a_NoPoints a_NoPoint)) := by
  refine F.okY sc_taken_out (fun vs H Q E h => ?_) (fun cdv A outer s H vs Q E hr h => ?_)
  · obtain ⟨_, _, _, _, _, _, rfl, _⟩ := h; rfl
  refine ⟨_, (@pss_cons _ _ _ _ _ (@ps_set _ _ 2 _ _ _ _ sc_taken_out.nd rfl (Or.inr rfl) (@pe_fnY _ _ _ _ _ _ _ _ _ _ _ _ X_point_at hr rfl pass2 (@pa_cons _ _ _ _ _ (pv 0) (@pa_cons _ _ _ _ _ (pv 1) pa_nil (by rfl)) (by rfl)) (by decide) (by decide) (by rfl) (by rfl)) (by rfl) (by first   | exact .inl rfl   | exact .inr rfl   | assumption)) (@pss_cons _ _ _ _ _ (@ps_ifC _ _ _ _ _ _ _ _ K _ _ (@pt_cmpR _ _ _ _ _ _ _ _ op_eq (@pe_callB _ _ _ _ _ _ _ _ _ (lenK K) rfl b_len bt_len (@pa_cons _ _ _ _ _ (pv 0) pa_nil (by rfl)) (by decide) (by decide) (by rfl) (by rfl)) pe_int (nomark _)) (@pss_one _ _ _ (@ps_raise _ _ _ _ _ _ _ _ _ _ k_NoPoints rfl makes2 rfl (@pa_cons _ _ _ _ _ pe_str pa_nil (by rfl)) (by decide) (by rfl) (by rfl))) pss_nil (by rfl) (by rfl)) pss_never)), ?_⟩
  obtain ⟨r, x, xs, pss, q0, n, rfl, ok, hx, hc, q⟩ := h
  have P1 : 1 ≤ sizeLine := by decide
  rcases hc with ⟨rfl, hno⟩ | ⟨rfl, h1, hin⟩
  · exact ⟨_, rfl, _, rfl, r, x, xs, pss, q0, rfl, ok, hx, .inl ⟨hno, q⟩⟩
  · obtain ⟨m, ps, hm, e0⟩ := place_at hin
    obtain ⟨v, hv, hvp⟩ := Paired.get' ok.P hm
    refine ⟨_, rfl, _, rfl, r, x, xs, pss, q0, rfl, ok, hx, .inr ⟨m, ps, v, hm, hv, e0, ?_⟩⟩
    have hl := ok.P.length
    exact ⟨_, rfl, r, xs, rfl, .inr ok.S, rfl, _, rfl, iteTc (decide_eq_true (by rw [hl, h1]; rfl)) ⟨P1, q⟩⟩
theorem sc_replaced : FnScope ["points", "old", "new"] ["points", "old", "new"] (defScope (top 52)) := ⟨rfl, rfl, rfl, by decide +kernel, rfl, by decide +kernel, by decide +kernel⟩
theorem ok_replaced {f : Addr} {fd : FuncData} (F : Fun K "replaced" "replaced" (top 52) f fd) (F_points_of : Fd P w K mg base 36 "points_of" ["thing"] (spPtsOf K)) (hT : P.given.tree = none) :
    FnOk P w K mg base CX0 37 f fd ["points", "old", "new"] (fun _ _ _ _ => False) := F.ok sc_replaced (fun vs H Q E h => False.elim h) (fun cdv A outer s H vs Q E hr h => False.elim h)
set_option maxHeartbeats 4000000 in
theorem okx_replaced {f : Addr} {fd : FuncData} (F : Fun K "replaced" "replaced" (top 52) f fd) {a_TooMany a_NoPoints a_NoPoint : Addr} (X_points_of : FdY P w K mg base 36 "points_of" ["thing"] (fun vs H Q E => (spPtsOf K : Sp) vs H Q E ∨ (spPtsX K a_NoPoints a_TooMany : Sp) vs H Q E)) (F_points_of : Fd P w K mg base 36 "points_of" ["thing"] (spPtsOf K)) (hT : P.given.tree = none) :
    FnOk P w K mg base (CX2 P w) 37 f fd ["points", "old", "new"] (spReplX K (clsOf3 a_TooMany a_NoPoints a_NoPoint)) := by
  refine F.okY sc_replaced (fun vs H Q E h => ?_) (fun cdv A outer s H vs Q E hr h => ?_)
  · obtain ⟨_, _, _, _, _, _, _, rfl, _⟩ := h; rfl
  refine ⟨_, (@pss_one _ _ _ (@ps_ret _ _ _ _ (@pe_fnY _ _ _ _ _ _ _ _ _ _ _ _ X_points_of hr rfl pass2 (@pa_cons _ _ _ _ _ (@pe_lc _ (["point", "old", "new"]) 1 ([1, 2]) _ _ _ _ _ _ _ _ _ _ rfl (CompOk.look (NX := ["points", "old", "new"]) (sc := defScope (top 52)) rfl rfl (by decide +kernel)) (@piT _ K _ _ _ (pv 0) (by rfl)) (fun u1 u2 u3 u4 u5 => (@pg_name _ _ 0 _ (show List.Nodup (["point", "old", "new"] : List Str) from by decide +kernel) rfl (Or.inl rfl) (by first   | exact .inl rfl   | exact .inr rfl   | assumption))) (stays_name (by decide)) (fun u1 u2 u3 u4 u5 => pts_nil) (fun u1 u2 u3 u4 u5 => (@pe_ifExp _ _ _ _ _ _ _ _ (@pt_cmpR _ _ _ _ _ _ _ _ (eqD K hr.units) (pv 0) (pv 1) (nomark _)) (pv 2) (pv 0))) (by intro _; rfl)) pa_nil (by rfl)) (by decide) (by decide) (by rfl) (by rfl)))), ?_⟩
  obtain ⟨r, v, y, xs, pss, m, ps, rfl, ok, hm, hv, hc⟩ := h
  have hl := ok.P.length
  have hge := ok.len
  have hp := ok.P
  have hS := ok.S
  have hnd := ok.nd
  have hlt := (List.getElem?_eq_some_iff.mp hv).1
  refine lc_of ⟨_, rfl, r, rfl, ⟨_, hS⟩, ?_⟩
  refine lc_tup (xs := xs) (fun i zs H' => H' = H ∧ zs = (xs.set m y).take i) ⟨rfl, rfl⟩ (fun i zs H' _ p => ⟨by rw [p.1]; exact hS, by rw [p.2, List.length_take, List.length_set]; lia⟩) (Nat.le_of_lt (small1000 (by lia))) ?_ ?_
  · rintro i u zs H' hu ⟨rfl, rfl⟩
    obtain ⟨us, hqs, huq⟩ := Paired.get hp hu
    obtain ⟨us2, hqs2, hvp⟩ := Paired.get hp hv
    rw [hm] at hqs2
    cases hqs2
    have hiu := (List.getElem?_eq_some_iff.mp hu).1
    obtain ⟨a, rfl, cu⟩ := huq.pt
    obtain ⟨b, rfl, cv⟩ := hvp.pt
    refine ⟨_, rfl, _, rfl, ?_⟩
    refine eqT cu cv ?_
    refine ⟨_, rfl, ?_⟩
    by_cases he : i = m
    · subst he
      rw [hm] at hqs
      cases hqs
      refine iteTc (decide_eq_true rfl) ⟨_, rfl, rfl, ?_⟩
      rw [List.take_add_one, List.getElem?_set_self hlt]; rfl
    · refine iteFc (decide_eq_false (show ¬ us = ps from fun z => he (nd_inj hnd hqs hm (by rw [z])))) ⟨_, rfl, rfl, ?_⟩
      rw [List.take_add_one, List.getElem?_set_ne (Ne.symm he), hu]; rfl
  rintro zs Hq ⟨hq, rfl⟩ l hl'
  obtain rfl : H = Hq := hq.symm
  rw [List.take_of_length_le (by rw [List.length_set]; lia)]
  have s1 : Same H (upd H l (.lst (xs.set m y))) := Same.new hl'
  rcases hc with ⟨n, hy, q⟩ | ⟨qs, hy, h0, hq23, ht, q⟩
  · rcases rep_bad (ok.same s1) hm (hy.same s1) (SqL.of upd_same) with ⟨rfl, hb⟩ | ⟨rfl, hb⟩
    · exact .inr ⟨_, rfl, .inl ⟨hb, fun H' s => q H' (s1.trans s)⟩⟩
    · exact .inr ⟨_, rfl, .inr ⟨hb, fun H' s => q H' (s1.trans s)⟩⟩
  · exact .inl ⟨true, l, xs.set m y, pss.set m qs, rfl, SqL.of upd_same, paired_set m (PtsT.same hp s1) (hy.same s1), p23_set ok.h23 hq23, by rw [List.length_set]; exact ok.h1, nd_set hm h0 hnd, ht, fun p H' s4 hp4 _ => q _ H' (s1.trans s4)⟩
theorem sc_with_height : FnScope ["points", "x", "y", "old"] ["points", "x", "y"] (defScope (top 53)) := ⟨rfl, rfl, rfl, by decide +kernel, rfl, by decide +kernel, by decide +kernel⟩
theorem ok_with_height {f : Addr} {fd : FuncData} (F : Fun K "with_height" "with_height" (top 53) f fd) (F_point_at : Fd P w K mg base 33 "point_at" ["points", "x"] (fun _ _ _ _ => False)) (F_replaced : Fd P w K mg base 37 "replaced" ["points", "old", "new"] (fun _ _ _ _ => False)) (hT : P.given.tree = none) :
    FnOk P w K mg base CX0 38 f fd ["points", "x", "y"] (fun _ _ _ _ => False) := F.ok sc_with_height (fun vs H Q E h => False.elim h) (fun cdv A outer s H vs Q E hr h => False.elim h)
set_option maxHeartbeats 4000000 in
theorem okx_with_height {f : Addr} {fd : FuncData} (F : Fun K "with_height" "with_height" (top 53) f fd) {a_TooMany a_NoPoints a_NoPoint : Addr} (X_point_at : FdY P w K mg base 33 "point_at" ["points", "x"] (spPtAtX K (clsOf3 a_TooMany a_NoPoints a_NoPoint))) (X_replaced : FdY P w K mg base 37 "replaced" ["points", "old", "new"] (spReplX K (clsOf3 a_TooMany a_NoPoints a_NoPoint))) (F_point_at : Fd P w K mg base 33 "point_at" ["points", "x"] (fun _ _ _ _ => False)) (F_replaced : Fd P w K mg base 37 "replaced" ["points", "old", "new"] (fun _ _ _ _ => False)) (hT : P.given.tree = none) :
    FnOk P w K mg base (CX2 P w) 38 f fd ["points", "x", "y"] (spWithHX K (clsOf3 a_TooMany a_NoPoints a_NoPoint)) := by
  refine F.okY sc_with_height (fun vs H Q E h => ?_) (fun cdv A outer s H vs Q E hr h => ?_)
  · obtain ⟨_, _, _, _, _, _, _, rfl, _⟩ := h; rfl
  refine ⟨_, (@pss_consC _ _ _ _ _ K _ (@ps_set _ _ 3 _ _ _ _ sc_with_height.nd rfl (Or.inl rfl) (@pe_fnY _ _ _ _ _ _ _ _ _ _ _ _ X_point_at hr rfl pass2 (@pa_cons _ _ _ _ _ (pv 0) (@pa_cons _ _ _ _ _ (pv 1) pa_nil (by rfl)) (by rfl)) (by decide) (by decide) (by rfl) (by rfl)) (by rfl) (by first   | exact .inl rfl   | exact .inr rfl   | assumption)) (@pss_one _ _ _ (@ps_ret _ _ _ _ (@pe_fnY _ _ _ _ _ _ _ _ _ _ _ _ X_replaced hr rfl pass2 (@pa_cons _ _ _ _ _ (pv 0) (@pa_cons _ _ _ _ _ (pv 3) (@pa_cons _ _ _ _ _ (@pe_op _ _ _ _ _ _ _ _ (catTA K) (@pe_tup _ _ _ _ _ (@pa_cons _ _ _ _ _ (pv 1) (@pa_cons _ _ _ _ _ (pv 2) pa_nil (by rfl)) (by rfl))) (@pe_slice _ _ _ _ _ _ _ _ _ _ (slTA K) (pv 3) (@po_some _ _ _ pe_int) po_none)) pa_nil (by rfl)) (by rfl)) (by rfl)) (by decide) (by decide) (by rfl) (by rfl)))) (by rfl)), ?_⟩
  obtain ⟨r, x, y, xs, pss, q0, n, rfl, ok, hx, hc, q⟩ := h
  have P2 : 2 ≤ sizeLine := by decide
  rcases hc with ⟨rfl, hno⟩ | ⟨rfl, hin, hy⟩
  · exact ⟨_, rfl, _, rfl, r, x, xs, pss, q0, rfl, ok, hx.num, .inl ⟨hno, q _ (Same.refl _)⟩⟩
  obtain ⟨m, ps, hm, e0⟩ := place_at hin
  have hps := ok.h23 ps (List.mem_of_getElem? hm)
  obtain ⟨v, hv, a, us, pp, rfl, hus, hun, hu0, hpp⟩ := Paired.get' ok.P hm
  have hul := hun.length
  refine ⟨_, rfl, _, rfl, r, x, xs, pss, q0, rfl, ok, hx.num, .inr ⟨m, ps, _, hm, hv, e0, ?_⟩⟩
  refine ⟨_, rfl, _, rfl, _, rfl, _, rfl, P2, fun t ht => ?_⟩
  have s1 : Same H (upd H t (.tup [x, y])) := Same.new ht
  refine ⟨_, rfl, 2, rfl, slice_from (v := 2) (hus.same s1) (by lia) fun w H2 s2 hw => ?_⟩
  have hl2 : (us.drop 2).length ≤ 1 := by rw [List.length_drop]; lia
  have s12 := s1.trans s2
  refine cat_pts (SqT.of (s2 _ _ upd_same)) hw (Nat.le_trans (show _ ≤ 300 by show 2 + _ ≤ 300; lia) (by decide)) (fun n H3 s3 hn => ?_)
  have s13 := s12.trans s3
  have hbad : Pb K H3 (.ref n) false := by
    have hb := Pb.all hn (by simp only [List.length_append, List.length_drop, List.length_cons, List.length_nil]; lia) (Paired.append (.cons (Nb.of ((hx.same s13).num)) (.cons (hy.same s13) .nil)) (Nb.all (paired_drop 2 (hun.same s13))))
    have e : ∀ l : List Bool, ([true, false] ++ l).all id = false := fun l => rfl
    rw [e] at hb
    exact hb
  exact ⟨r, _, _, xs, pss, m, ps, rfl, ok.same s13, hm, hv, .inl ⟨1, .pt hbad, fun H' s => q H' (s13.trans s)⟩⟩
theorem sc_with_slope : FnScope ["points", "x", "slope", "old"] ["points", "x", "slope"] (defScope (top 54)) := ⟨rfl, rfl, rfl, by decide +kernel, rfl, by decide +kernel, by decide +kernel⟩
theorem ok_with_slope {f : Addr} {fd : FuncData} (F : Fun K "with_slope" "with_slope" (top 54) f fd) (F_point_at : Fd P w K mg base 33 "point_at" ["points", "x"] (fun _ _ _ _ => False)) (F_replaced : Fd P w K mg base 37 "replaced" ["points", "old", "new"] (fun _ _ _ _ => False)) (hT : P.given.tree = none) :
    FnOk P w K mg base CX0 38 f fd ["points", "x", "slope"] (fun _ _ _ _ => False) := F.ok sc_with_slope (fun vs H Q E h => False.elim h) (fun cdv A outer s H vs Q E hr h => False.elim h)
set_option maxHeartbeats 4000000 in
theorem okx_with_slope {f : Addr} {fd : FuncData} (F : Fun K "with_slope" "with_slope" (top 54) f fd) {a_TooMany a_NoPoints a_NoPoint : Addr} (X_point_at : FdY P w K mg base 33 "point_at" ["points", "x"] (spPtAtX K (clsOf3 a_TooMany a_NoPoints a_NoPoint))) (X_replaced : FdY P w K mg base 37 "replaced" ["points", "old", "new"] (spReplX K (clsOf3 a_TooMany a_NoPoints a_NoPoint))) (F_point_at : Fd P w K mg base 33 "point_at" ["points", "x"] (fun _ _ _ _ => False)) (F_replaced : Fd P w K mg base 37 "replaced" ["points", "old", "new"] (fun _ _ _ _ => False)) (hT : P.given.tree = none) :
    FnOk P w K mg base (CX2 P w) 38 f fd ["points", "x", "slope"] (spWithSX K (clsOf3 a_TooMany a_NoPoints a_NoPoint)) := by
  refine F.okY sc_with_slope (fun vs H Q E h => ?_) (fun cdv A outer s H vs Q E hr h => ?_)
  · obtain ⟨_, _, _, _, _, _, rfl, _⟩ := h; rfl
  refine ⟨_, (@pss_consC _ _ _ _ _ K _ (@ps_set _ _ 3 _ _ _ _ sc_with_slope.nd rfl (Or.inl rfl) (@pe_fnY _ _ _ _ _ _ _ _ _ _ _ _ X_point_at hr rfl pass2 (@pa_cons _ _ _ _ _ (pv 0) (@pa_cons _ _ _ _ _ (pv 1) pa_nil (by rfl)) (by rfl)) (by decide) (by decide) (by rfl) (by rfl)) (by rfl) (by first   | exact .inl rfl   | exact .inr rfl   | assumption)) (@pss_consC _ _ _ _ _ K _ (@ps_ifC _ _ _ _ _ _ _ _ K _ _ (@pt_cmpR _ _ _ _ _ _ _ _ op_isN (pv 2) pe_non (nomark _)) (@pss_one _ _ _ (@ps_ret _ _ _ _ (@pe_fnY _ _ _ _ _ _ _ _ _ _ _ _ X_replaced hr rfl pass2 (@pa_cons _ _ _ _ _ (pv 0) (@pa_cons _ _ _ _ _ (pv 3) (@pa_cons _ _ _ _ _ (@pe_slice _ _ _ _ _ _ _ _ _ _ (slTA K) (pv 3) po_none (@po_some _ _ _ pe_int)) pa_nil (by rfl)) (by rfl)) (by rfl)) (by decide) (by decide) (by rfl) (by rfl)))) pss_nil (by rfl) (by rfl)) (@pss_one _ _ _ (@ps_ret _ _ _ _ (@pe_fnY _ _ _ _ _ _ _ _ _ _ _ _ X_replaced hr rfl pass2 (@pa_cons _ _ _ _ _ (pv 0) (@pa_cons _ _ _ _ _ (pv 3) (@pa_cons _ _ _ _ _ (@pe_op _ _ _ _ _ _ _ _ (catTA K) (@pe_slice _ _ _ _ _ _ _ _ _ _ (slTA K) (pv 3) po_none (@po_some _ _ _ pe_int)) (@pe_tup _ _ _ _ _ (@pa_cons _ _ _ _ _ (pv 2) pa_nil (by rfl)))) pa_nil (by rfl)) (by rfl)) (by rfl)) (by decide) (by decide) (by rfl) (by rfl)))) (by rfl)) (by rfl)), ?_⟩
  obtain ⟨r, x, s, xs, pss, q0, rfl, ok, hx, hc⟩ := h
  have P1 : 1 ≤ sizeLine := by decide
  rcases hc with ⟨n, hs, q⟩ | ⟨rfl, hin, q⟩
  · cases hs with
    | far hno => exact ⟨_, rfl, _, rfl, r, x, xs, pss, q0, rfl, ok, hx.num, .inl ⟨hno, q _ (Same.refl _)⟩⟩
    | odd hin hsb hsn =>
      obtain ⟨m, ps, hm, e0⟩ := place_at hin
      have hps := ok.h23 ps (List.mem_of_getElem? hm)
      obtain ⟨v, hv, a, us, pp, rfl, hus, hun, hu0, hpp⟩ := Paired.get' ok.P hm
      have hul := hun.length
      have hl2 : (us.take 2).length = 2 := by rw [List.length_take]; lia
      refine ⟨_, rfl, _, rfl, r, x, xs, pss, q0, rfl, ok, hx.num, .inr ⟨m, ps, _, hm, hv, e0, ?_⟩⟩
      refine ⟨_, rfl, rfl, _, rfl, iteFc (decide_eq_false hsn) ?_⟩
      refine ⟨_, rfl, _, rfl, _, rfl, 2, rfl, slice_to (v := 2) hus (by lia) fun w H2 s2 hw => ⟨_, rfl, P1, fun t ht => ?_⟩⟩
      have s3 := Same.new (o := .tup [s]) ht
      refine cat_pts (hw.same s3) (SqT.of upd_same) (Nat.le_trans (show _ ≤ 300 by rw [hl2, List.length_singleton]; decide) (by decide)) (fun n H4 s4 hn => ?_)
      have s14 := (s2.trans s3).trans s4
      have hbad : Pb K H4 (.ref n) false := by
        have hb := Pb.all hn (by rw [List.length_append, hl2]; exact .inr rfl) (Paired.append (Paired.take 2 (Nb.all (hun.same s14))) (.cons (hsb.same s14) .nil))
        rw [List.all_append] at hb
        have e : ∀ b : Bool, (b && [false].all id) = false := by decide
        rw [e] at hb
        exact hb
      exact ⟨r, _, _, xs, pss, m, ps, rfl, ok.same s14, hm, hv, .inl ⟨1, .pt hbad, fun H' s => q H' (s14.trans s)⟩⟩
    | @many c m ps hm e0 hc ht =>
      have hps := ok.h23 ps (List.mem_of_getElem? hm)
      obtain ⟨v, hv, a, us, pp, rfl, hus, hun, hu0, hpp⟩ := Paired.get' ok.P hm
      have hul := hun.length
      have hl2 : (us.take 2).length = 2 := by rw [List.length_take]; lia
      have hl2' : (ps.take 2).length = 2 := by rw [List.length_take]; lia
      refine ⟨_, rfl, _, rfl, r, x, xs, pss, q0, rfl, ok, hx.num, .inr ⟨m, ps, _, hm, hv, e0, ?_⟩⟩
      obtain ⟨sa, rfl, hsa⟩ := hc
      refine ⟨_, rfl, rfl, _, rfl, iteFc (decide_eq_false (fun z => nomatch z)) ?_⟩
      refine ⟨_, rfl, _, rfl, _, rfl, 2, rfl, slice_to (v := 2) hus (by lia) fun w H2 s2 hw => ⟨_, rfl, P1, fun t ht' => ?_⟩⟩
      have s3 := Same.new (o := .tup [.ref sa]) ht'
      refine cat_pts (hw.same s3) (SqT.of upd_same) (Nat.le_trans (show _ ≤ 300 by rw [hl2, List.length_singleton]; decide) (by decide)) (fun n H4 s4 hn => ?_)
      have s14 := (s2.trans s3).trans s4
      have e2 : (ps.take 2 ++ [c]).getD 0 0 = ps.getD 0 0 := by
        match ps, hps with
        | [a, b], _ => rfl
        | [a, b, d], _ => rfl
      have hnew : PtT K H4 (.ref n) (ps.take 2 ++ [c]) := ⟨n, _, pp, rfl, hn, Paired.snoc (Paired.take 2 (hun.same s14)) (NumV.same ⟨sa, rfl, hsa⟩ s14), by rw [List.getElem?_append_left (by lia), List.getElem?_take, if_pos (by lia)]; exact hu0, by rw [e2]; exact s14 _ _ hpp⟩
      exact ⟨r, _, _, xs, pss, m, ps, rfl, ok.same s14, hm, hv, .inl ⟨0, .many hnew e2 (by rw [List.length_append, hl2']; exact .inr rfl) ht, fun H' s => q H' (s14.trans s)⟩⟩
  · obtain ⟨m, ps, hm, e0⟩ := place_at hin
    have hps := ok.h23 ps (List.mem_of_getElem? hm)
    obtain ⟨v, hv, a, us, pp, rfl, hus, hun, hu0, hpp⟩ := Paired.get' ok.P hm
    have hul := hun.length
    have hl2' : (ps.take 2).length = 2 := by rw [List.length_take]; lia
    refine ⟨_, rfl, _, rfl, r, x, xs, pss, q0, rfl, ok, hx.num, .inr ⟨m, ps, _, hm, hv, e0, ?_⟩⟩
    refine ⟨_, rfl, rfl, _, rfl, iteTc (decide_eq_true rfl) ?_⟩
    refine ⟨_, rfl, _, rfl, _, rfl, 2, rfl, slice_to (v := 2) hus (by lia) fun w H2 s2 hw => ?_⟩
    have hnew : PtT K H2 (.ref w) (ps.take 2) := pt_cut 1 hw (hun.same s2) hu0 (s2 _ _ hpp)
    refine ⟨r, _, _, xs, pss, m, ps, rfl, ok.same s2, hm, hv, .inr ⟨_, hnew, by rw [List.getD_eq_getElem?_getD, List.getElem?_take, if_pos (by lia), ← List.getD_eq_getElem?_getD], by lia, ?_, fun v' H' s => ?_⟩⟩
    · exact Nat.le_trans (tell_cut hm hps) ok.h12
    · exact q _ H' (s2.trans s)
theorem sc_scaled : FnScope ["curve", "number"] ["curve", "number"] (defScope (top 28)) := ⟨rfl, rfl, rfl, by decide +kernel, rfl, by decide +kernel, by decide +kernel⟩
theorem ok_scaled {f : Addr} {fd : FuncData} (F : Fun K "scaled" "scaled" (top 28) f fd) (hT : P.given.tree = none) :
    FnOk P w K mg base CX0 33 f fd ["curve", "number"] (fun _ _ _ _ => False) := F.ok sc_scaled (fun vs H Q E h => False.elim h) (fun cdv A outer s H vs Q E hr h => False.elim h)
theorem sc_share_of : FnScope ["points", "x", "k", "knots", "others", "weight", "last"] ["points", "x", "k"] (defScope (top 47)) := ⟨rfl, rfl, rfl, by decide +kernel, rfl, by decide +kernel, by decide +kernel⟩
theorem ok_share_of {f : Addr} {fd : FuncData} (F : Fun K "share_of" "share_of" (top 47) f fd) (hT : P.given.tree = none) :
    FnOk P w K mg base CX0 33 f fd ["points", "x", "k"] (fun _ _ _ _ => False) := F.ok sc_share_of (fun vs H Q E h => False.elim h) (fun cdv A outer s H vs Q E hr h => False.elim h)
theorem sc_gain : FnScope ["points", "x", "k", "number"] ["points", "x", "k", "number"] (defScope (top 56)) := ⟨rfl, rfl, rfl, by decide +kernel, rfl, by decide +kernel, by decide +kernel⟩
theorem ok_gain {f : Addr} {fd : FuncData} (F : Fun K "gain" "gain" (top 56) f fd) (F_scaled : Fd P w K mg base 33 "scaled" ["curve", "number"] (fun _ _ _ _ => False)) (F_share_of : Fd P w K mg base 33 "share_of" ["points", "x", "k"] (fun _ _ _ _ => False)) (F_told_in : Fd P w K mg base 33 "told_in" ["points"] (spToldT K)) (hT : P.given.tree = none) :
    FnOk P w K mg base CX0 34 f fd ["points", "x", "k", "number"] (fun _ _ _ _ => False) := F.ok sc_gain (fun vs H Q E h => False.elim h) (fun cdv A outer s H vs Q E hr h => False.elim h)
set_option maxHeartbeats 4000000 in
theorem okx_gain {f : Addr} {fd : FuncData} (F : Fun K "gain" "gain" (top 56) f fd) {a_TooMany a_NoPoints a_NoPoint : Addr} (k_NoPoint : XCls K "NoPoint" a_NoPoint) (F_scaled : Fd P w K mg base 33 "scaled" ["curve", "number"] (fun _ _ _ _ => False)) (F_share_of : Fd P w K mg base 33 "share_of" ["points", "x", "k"] (fun _ _ _ _ => False)) (F_told_in : Fd P w K mg base 33 "told_in" ["points"] (spToldT K)) (hT : P.given.tree = none) :
    FnOk P w K mg base (CX2 P w) 34 f fd ["points", "x", "k", "number"] (spGainX K (clsOf3 a_TooMany a_NoPoints a_NoPoint)) := by
  refine F.okY sc_gain (fun vs H Q E h => ?_) (fun cdv A outer s H vs Q E hr h => ?_)
  · obtain ⟨_, _, _, _, _, _, _, rfl, _⟩ := h; rfl
  refine ⟨_, (@pss_cons _ _ _ _ _ (@ps_ifC _ _ _ _ _ _ _ _ K _ _ (@pt_cmpR _ _ _ _ _ _ _ _ (notInD K hr) (@pe_tup _ _ _ _ _ (@pa_cons _ _ _ _ _ (pv 1) (@pa_cons _ _ _ _ _ (pv 2) pa_nil (by rfl)) (by rfl))) (@pe_lc _ (["told"]) 1 ([]) _ _ _ _ _ _ _ _ _ _ rfl (CompOk.look (NX := ["points", "x", "k", "number"]) (sc := defScope (top 56)) rfl rfl (by decide +kernel)) (@piL _ K _ _ _ (@pe_fn _ _ _ _ _ _ _ _ _ _ _ F_told_in hr rfl (@pa_cons _ _ _ _ _ (pv 0) pa_nil (by rfl)) (by decide) (by decide) (by rfl) (by rfl)) (by rfl)) (fun u1 u2 u3 u4 u5 => (@pg_name _ _ 0 _ (show List.Nodup (["told"] : List Str) from by decide +kernel) rfl (Or.inl rfl) (by first   | exact .inl rfl   | exact .inr rfl   | assumption))) (stays_name (by decide)) (fun u1 u2 u3 u4 u5 => pts_nil) (fun u1 u2 u3 u4 u5 => (@pe_slice _ _ _ _ _ _ _ _ _ _ (slTA K) (pv 0) po_none (@po_some _ _ _ pe_int))) (by intro _; rfl)) (by with_unfolding_all rfl)) (@pss_one _ _ _ (@ps_raise _ _ _ _ _ _ _ _ _ _ k_NoPoint rfl makes2 rfl (@pa_cons _ _ _ _ _ pe_str pa_nil (by rfl)) (by decide) (by rfl) (by rfl))) pss_nil (by rfl) (by rfl)) pss_never), ?_⟩
  obtain ⟨r, x, z, xs, pss, q0, k, rfl, ok, hx, hno, q⟩ := h
  have P1 : 1 ≤ sizeLine := by decide
  have P2 : 2 ≤ sizeLine := by decide
  have hl := ok.len
  have h12 := ok.h12
  refine ⟨_, rfl, _, rfl, P2, fun tt htt => ?_⟩
  have s1 : Same H (upd H tt (.tup [x, .int k])) := Same.new htt
  have ett : (upd H tt (.tup [x, .int k])) tt = some (.tup [x, .int k]) := upd_same
  generalize upd H tt (.tup [x, .int k]) = H1 at s1 ett ⊢
  refine lc_of ⟨_, rfl, r, xs, pss, rfl, ok.S.same s1, PtsT.same ok.P s1, ok.h23, by lia, fun w Hw ws sw hw ew htw => ⟨w, rfl, ⟨_, SqL.of ew⟩, ?_⟩⟩
  have hwl := htw.length
  refine lc_lst (xs := ws) (fun i zs H' => Same Hw H' ∧ Mss K H' zs (((tell pss).take i).map fun t => (t.x, t.k))) ⟨Same.refl _, .nil⟩ (fun i zs H' hi h => ⟨SqL.of (h.1 _ _ ew), by rw [h.2.length, List.length_map, List.length_take]; lia⟩) (Nat.le_of_lt (small1000 (by lia))) ?_ ?_
  · rintro i v zs H' hv ⟨sm, hz⟩
    obtain ⟨t', ht', a, p, rn, rfl, ha, hxp, _⟩ := Paired.get htw hv
    refine ⟨_, rfl, 2, rfl, slice_to (v := 2) (ha.same sm) (show 2 ≤ 3 by decide) fun q2 H2 s2 hq2 => ⟨sm.trans s2, ?_⟩⟩
    rw [List.take_add_one, ht', List.map_append]
    exact Paired.snoc (mss_same hz s2) ⟨q2, _, rfl, hq2, NumV.of (s2 _ _ (sm _ _ hxp))⟩
  rintro zs H2 ⟨s2, hz⟩ l hl
  rw [hwl, List.take_length] at hz
  have s3 : Same H2 (upd H2 l (.lst zs)) := Same.new hl
  have s13 := (sw.trans s2).trans s3
  refine inM (q := (q0, k)) ⟨tt, _, rfl, SqT.of (s13 _ _ ett), ((hx.same s1).same s13).num⟩ (SqL.of upd_same) (mss_same hz s3) ?_
  exact ⟨_, rfl, iteTc (by rw [decide_eq_false hno]; rfl) ⟨P1, q _ (s1.trans s13)⟩⟩
theorem sc_steps_of : FnScope ["points"] ["points"] (defScope (top 41)) := ⟨rfl, rfl, rfl, by decide +kernel, rfl, by decide +kernel, by decide +kernel⟩
theorem ok_steps_of {f : Addr} {fd : FuncData} (F : Fun K "steps_of" "steps_of" (top 41) f fd) (hT : P.given.tree = none) :
    FnOk P w K mg base CX0 33 f fd ["points"] (fun _ _ _ _ => False) := F.ok sc_steps_of (fun vs H Q E h => False.elim h) (fun cdv A outer s H vs Q E hr h => False.elim h)
theorem sc_new_steps : FnScope ["points", "point"] ["points", "point"] (defScope (top 55)) := ⟨rfl, rfl, rfl, by decide +kernel, rfl, by decide +kernel, by decide +kernel⟩
theorem ok_new_steps {f : Addr} {fd : FuncData} (F : Fun K "new_steps" "new_steps" (top 55) f fd) (F_steps_of : Fd P w K mg base 33 "steps_of" ["points"] (fun _ _ _ _ => False)) (F_put_in : Fd P w K mg base 37 "put_in" ["points", "point"] (fun _ _ _ _ => False)) (F_told_in : Fd P w K mg base 33 "told_in" ["points"] (spToldT K)) (b_len : mg "len" = none) (hT : P.given.tree = none) :
    FnOk P w K mg base CX0 38 f fd ["points", "point"] (fun _ _ _ _ => False) := F.ok sc_new_steps (fun vs H Q E h => False.elim h) (fun cdv A outer s H vs Q E hr h => False.elim h)
set_option maxHeartbeats 4000000 in
theorem okx_new_steps {f : Addr} {fd : FuncData} (F : Fun K "new_steps" "new_steps" (top 55) f fd) {a_TooMany a_NoPoints a_NoPoint : Addr} (X_put_in : FdY P w K mg base 37 "put_in" ["points", "point"] (spPutX K (clsOf3 a_TooMany a_NoPoints a_NoPoint))) (F_steps_of : Fd P w K mg base 33 "steps_of" ["points"] (fun _ _ _ _ => False)) (F_put_in : Fd P w K mg base 37 "put_in" ["points", "point"] (fun _ _ _ _ => False)) (F_told_in : Fd P w K mg base 33 "told_in" ["points"] (spToldT K)) (b_len : mg "len" = none) (hT : P.given.tree = none) :
    FnOk P w K mg base (CX2 P w) 38 f fd ["points", "point"] (spPutX K (clsOf3 a_TooMany a_NoPoints a_NoPoint)) := by
  refine F.okY sc_new_steps (fun vs H Q E h => ?_) (fun cdv A outer s H vs Q E hr h => ?_)
  · obtain ⟨_, _, _, _, _, rfl, _⟩ := h; rfl
  refine ⟨_, (@pss_one _ _ _ (@ps_ret _ _ _ _ (@pe_slice _ _ _ _ _ _ _ _ _ _ (slL K) (@pe_fn _ _ _ _ _ _ _ _ _ _ _ F_steps_of hr rfl (@pa_cons _ _ _ _ _ (@pe_fnY _ _ _ _ _ _ _ _ _ _ _ _ X_put_in hr rfl pass2 (@pa_cons _ _ _ _ _ (pv 0) (@pa_cons _ _ _ _ _ (pv 1) pa_nil (by rfl)) (by rfl)) (by decide) (by decide) (by rfl) (by rfl)) pa_nil (by rfl)) (by decide) (by decide) (by rfl) (by rfl)) (@po_some _ _ _ (@pe_callB _ _ _ _ _ _ _ _ _ (lenK K) rfl b_len bt_len (@pa_cons _ _ _ _ _ (@pe_fn _ _ _ _ _ _ _ _ _ _ _ F_told_in hr rfl (@pa_cons _ _ _ _ _ (pv 0) pa_nil (by rfl)) (by decide) (by decide) (by rfl) (by rfl)) pa_nil (by rfl)) (by decide) (by decide) (by rfl) (by rfl))) po_none))), ?_⟩
  obtain ⟨r, y, xs, pss, n, rfl, ok, hy, q⟩ := h
  exact ⟨_, rfl, _, rfl, r, y, xs, pss, n, rfl, ok, hy, q⟩
theorem sc_knots_of : FnScope ["points"] ["points"] (defScope (top 35)) := ⟨rfl, rfl, rfl, by decide +kernel, rfl, by decide +kernel, by decide +kernel⟩
theorem ok_knots_of {f : Addr} {fd : FuncData} (F : Fun K "knots_of" "knots_of" (top 35) f fd) (hT : P.given.tree = none) :
    FnOk P w K mg base CX0 33 f fd ["points"] (fun _ _ _ _ => False) := F.ok sc_knots_of (fun vs H Q E h => False.elim h) (fun cdv A outer s H vs Q E hr h => False.elim h)
theorem sc_by_steps : FnScope ["knots", "steps", "bottom", "step_tops", "tops", "scale", "k"] ["knots", "steps"] (defScope (top 42)) := ⟨rfl, rfl, rfl, by decide +kernel, rfl, by decide +kernel, by decide +kernel⟩
theorem ok_by_steps {f : Addr} {fd : FuncData} (F : Fun K "by_steps" "by_steps" (top 42) f fd) (hT : P.given.tree = none) :
    FnOk P w K mg base CX0 33 f fd ["knots", "steps"] (fun _ _ _ _ => False) := F.ok sc_by_steps (fun vs H Q E h => False.elim h) (fun cdv A outer s H vs Q E hr h => False.elim h)
theorem sc_loss : FnScope ["points", "x", "left", "out", "steps", "knots"] ["points", "x"] (defScope (top 57)) := ⟨rfl, rfl, rfl, by decide +kernel, rfl, by decide +kernel, by decide +kernel⟩
theorem ok_loss {f : Addr} {fd : FuncData} (F : Fun K "loss" "loss" (top 57) f fd) (F_taken_out : Fd P w K mg base 34 "taken_out" ["points", "x"] (fun _ _ _ _ => False)) (F_point_at : Fd P w K mg base 33 "point_at" ["points", "x"] (fun _ _ _ _ => False)) (F_new_steps : Fd P w K mg base 38 "new_steps" ["points", "point"] (fun _ _ _ _ => False)) (F_knots_of : Fd P w K mg base 33 "knots_of" ["points"] (fun _ _ _ _ => False)) (F_by_steps : Fd P w K mg base 33 "by_steps" ["knots", "steps"] (fun _ _ _ _ => False)) (b_len : mg "len" = none) {a_NOUGHT : Addr} (c_NOUGHT : mg "NOUGHT" = some (.ref a_NOUGHT)) (n_NOUGHT : ∀ H : Hp, NumV K H (.ref a_NOUGHT) (0)) (hT : P.given.tree = none) :
    FnOk P w K mg base CX0 39 f fd ["points", "x"] (fun _ _ _ _ => False) := F.ok sc_loss (fun vs H Q E h => False.elim h) (fun cdv A outer s H vs Q E hr h => False.elim h)
set_option maxHeartbeats 4000000 in
theorem okx_loss {f : Addr} {fd : FuncData} (F : Fun K "loss" "loss" (top 57) f fd) {a_TooMany a_NoPoints a_NoPoint : Addr} (X_taken_out : FdY P w K mg base 34 "taken_out" ["points", "x"] (spTakenX K (clsOf3 a_TooMany a_NoPoints a_NoPoint))) (F_taken_out : Fd P w K mg base 34 "taken_out" ["points", "x"] (fun _ _ _ _ => False)) (F_point_at : Fd P w K mg base 33 "point_at" ["points", "x"] (fun _ _ _ _ => False)) (F_new_steps : Fd P w K mg base 38 "new_steps" ["points", "point"] (fun _ _ _ _ => False)) (F_knots_of : Fd P w K mg base 33 "knots_of" ["points"] (fun _ _ _ _ => False)) (F_by_steps : Fd P w K mg base 33 "by_steps" ["knots", "steps"] (fun _ _ _ _ => False)) (b_len : mg "len" = none) {a_NOUGHT : Addr} (c_NOUGHT : mg "NOUGHT" = some (.ref a_NOUGHT)) (n_NOUGHT : ∀ H : Hp, NumV K H (.ref a_NOUGHT) (0)) (hT : P.given.tree = none) :
    FnOk P w K mg base (CX2 P w) 39 f fd ["points", "x"] (spTakenX K (clsOf3 a_TooMany a_NoPoints a_NoPoint)) := by
  refine F.okY sc_loss (fun vs H Q E h => ?_) (fun cdv A outer s H vs Q E hr h => ?_)
  · obtain ⟨_, _, _, _, _, _, rfl, _⟩ := h; rfl
  refine ⟨_, (@pss_cons _ _ _ _ _ (@ps_set _ _ 2 _ _ _ _ sc_loss.nd rfl (Or.inl rfl) (@pe_fnY _ _ _ _ _ _ _ _ _ _ _ _ X_taken_out hr rfl pass2 (@pa_cons _ _ _ _ _ (pv 0) (@pa_cons _ _ _ _ _ (pv 1) pa_nil (by rfl)) (by rfl)) (by decide) (by decide) (by rfl) (by rfl)) (by rfl) (by first   | exact .inl rfl   | exact .inr rfl   | assumption)) pss_never), ?_⟩
  obtain ⟨r, x, xs, pss, q0, n, rfl, ok, hx, hc, q⟩ := h
  exact ⟨_, rfl, _, rfl, r, x, xs, pss, q0, n, rfl, ok, hx, hc, q⟩
theorem sc__law_done : FnScope ["_law_way", "_law_points_here", "_law_x", "_law_thing"] ["_law_way", "_law_points_here", "_law_x", "_law_thing"] (defScope (top 67)) := ⟨rfl, rfl, rfl, by decide +kernel, rfl, by decide +kernel, by decide +kernel⟩
theorem ok__law_done {f : Addr} {fd : FuncData} (F : Fun K "_law_done" "_law_done" (top 67) f fd) (F_put_in : Fd P w K mg base 37 "put_in" ["points", "point"] (fun _ _ _ _ => False)) (F_taken_out : Fd P w K mg base 34 "taken_out" ["points", "x"] (fun _ _ _ _ => False)) (F_with_height : Fd P w K mg base 38 "with_height" ["points", "x", "y"] (fun _ _ _ _ => False)) (F_with_slope : Fd P w K mg base 38 "with_slope" ["points", "x", "slope"] (fun _ _ _ _ => False)) (F_gain : Fd P w K mg base 34 "gain" ["points", "x", "k", "number"] (fun _ _ _ _ => False)) (F_loss : Fd P w K mg base 39 "loss" ["points", "x"] (fun _ _ _ _ => False)) (F_new_steps : Fd P w K mg base 38 "new_steps" ["points", "point"] (fun _ _ _ _ => False)) (hT : P.given.tree = none) :
    FnOk P w K mg base CX0 40 f fd ["_law_way", "_law_points_here", "_law_x", "_law_thing"] (fun _ _ _ _ => False) := F.ok sc__law_done (fun vs H Q E h => False.elim h) (fun cdv A outer s H vs Q E hr h => False.elim h)
set_option maxHeartbeats 4000000 in
theorem okx__law_done {f : Addr} {fd : FuncData} (F : Fun K "_law_done" "_law_done" (top 67) f fd) {a_TooMany a_NoPoints a_NoPoint : Addr} (X_put_in : FdY P w K mg base 37 "put_in" ["points", "point"] (spPutX K (clsOf3 a_TooMany a_NoPoints a_NoPoint))) (X_taken_out : FdY P w K mg base 34 "taken_out" ["points", "x"] (spTakenX K (clsOf3 a_TooMany a_NoPoints a_NoPoint))) (X_with_height : FdY P w K mg base 38 "with_height" ["points", "x", "y"] (spWithHX K (clsOf3 a_TooMany a_NoPoints a_NoPoint))) (X_with_slope : FdY P w K mg base 38 "with_slope" ["points", "x", "slope"] (spWithSX K (clsOf3 a_TooMany a_NoPoints a_NoPoint))) (X_gain : FdY P w K mg base 34 "gain" ["points", "x", "k", "number"] (spGainX K (clsOf3 a_TooMany a_NoPoints a_NoPoint))) (X_loss : FdY P w K mg base 39 "loss" ["points", "x"] (spTakenX K (clsOf3 a_TooMany a_NoPoints a_NoPoint))) (X_new_steps : FdY P w K mg base 38 "new_steps" ["points", "point"] (spPutX K (clsOf3 a_TooMany a_NoPoints a_NoPoint))) (F_put_in : Fd P w K mg base 37 "put_in" ["points", "point"] (fun _ _ _ _ => False)) (F_taken_out : Fd P w K mg base 34 "taken_out" ["points", "x"] (fun _ _ _ _ => False)) (F_with_height : Fd P w K mg base 38 "with_height" ["points", "x", "y"] (fun _ _ _ _ => False)) (F_with_slope : Fd P w K mg base 38 "with_slope" ["points", "x", "slope"] (fun _ _ _ _ => False)) (F_gain : Fd P w K mg base 34 "gain" ["points", "x", "k", "number"] (fun _ _ _ _ => False)) (F_loss : Fd P w K mg base 39 "loss" ["points", "x"] (fun _ _ _ _ => False)) (F_new_steps : Fd P w K mg base 38 "new_steps" ["points", "point"] (fun _ _ _ _ => False)) (hT : P.given.tree = none) :
    FnOk P w K mg base (CX2 P w) 40 f fd ["_law_way", "_law_points_here", "_law_x", "_law_thing"] (spDoneX K (clsOf3 a_TooMany a_NoPoints a_NoPoint)) := by
  refine F.okY sc__law_done (fun vs H Q E h => ?_) (fun cdv A outer s H vs Q E hr h => ?_)
  · obtain ⟨_, _, _, _, _, _, rfl, _⟩ := h; rfl
  refine ⟨_, (@pss_one _ _ _ (@ps_ifC _ _ _ _ _ _ _ _ K _ _ (@pt_cmpR _ _ _ _ _ _ _ _ op_eq (pv 0) pe_int (nomark _)) (@pss_one _ _ _ (@ps_expr _ _ _ _ (@pe_fnY _ _ _ _ _ _ _ _ _ _ _ _ X_put_in hr rfl pass2 (@pa_cons _ _ _ _ _ (pv 1) (@pa_cons _ _ _ _ _ (pv 3) pa_nil (by rfl)) (by rfl)) (by decide) (by decide) (by rfl) (by rfl)) (by rfl))) (@pss_one _ _ _ (@ps_ifC _ _ _ _ _ _ _ _ K _ _ (@pt_cmpR _ _ _ _ _ _ _ _ op_eq (pv 0) pe_int (nomark _)) (@pss_one _ _ _ (@ps_expr _ _ _ _ (@pe_fnY _ _ _ _ _ _ _ _ _ _ _ _ X_taken_out hr rfl pass2 (@pa_cons _ _ _ _ _ (pv 1) (@pa_cons _ _ _ _ _ (pv 2) pa_nil (by rfl)) (by rfl)) (by decide) (by decide) (by rfl) (by rfl)) (by rfl))) (@pss_one _ _ _ (@ps_ifC _ _ _ _ _ _ _ _ K _ _ (@pt_cmpR _ _ _ _ _ _ _ _ op_eq (pv 0) pe_int (nomark _)) (@pss_one _ _ _ (@ps_expr _ _ _ _ (@pe_fnY _ _ _ _ _ _ _ _ _ _ _ _ X_with_height hr rfl pass2 (@pa_cons _ _ _ _ _ (pv 1) (@pa_cons _ _ _ _ _ (pv 2) (@pa_cons _ _ _ _ _ (pv 3) pa_nil (by rfl)) (by rfl)) (by rfl)) (by decide) (by decide) (by rfl) (by rfl)) (by rfl))) (@pss_one _ _ _ (@ps_ifC _ _ _ _ _ _ _ _ K _ _ (@pt_cmpR _ _ _ _ _ _ _ _ op_eq (pv 0) pe_int (nomark _)) (@pss_one _ _ _ (@ps_expr _ _ _ _ (@pe_fnY _ _ _ _ _ _ _ _ _ _ _ _ X_with_slope hr rfl pass2 (@pa_cons _ _ _ _ _ (pv 1) (@pa_cons _ _ _ _ _ (pv 2) (@pa_cons _ _ _ _ _ (pv 3) pa_nil (by rfl)) (by rfl)) (by rfl)) (by decide) (by decide) (by rfl) (by rfl)) (by rfl))) (@pss_one _ _ _ (@ps_ifC _ _ _ _ _ _ _ _ K _ _ (@pt_cmpR _ _ _ _ _ _ _ _ op_eq (pv 0) pe_int (nomark _)) (@pss_one _ _ _ (@ps_expr _ _ _ _ (@pe_fnY _ _ _ _ _ _ _ _ _ _ _ _ X_gain hr rfl pass2 (@pa_cons _ _ _ _ _ (pv 1) (@pa_cons _ _ _ _ _ (pv 2) (@pa_cons _ _ _ _ _ (pv 3) (@pa_cons _ _ _ _ _ (@pe_tup _ _ _ _ _ (@pa_cons _ _ _ _ _ pe_int (@pa_cons _ _ _ _ _ pe_int pa_nil (by rfl)) (by rfl))) pa_nil (by rfl)) (by rfl)) (by rfl)) (by rfl)) (by decide) (by decide) (by rfl) (by rfl)) (by rfl))) (@pss_one _ _ _ (@ps_ifC _ _ _ _ _ _ _ _ K _ _ (@pt_cmpR _ _ _ _ _ _ _ _ op_eq (pv 0) pe_int (nomark _)) (@pss_one _ _ _ (@ps_expr _ _ _ _ (@pe_fnY _ _ _ _ _ _ _ _ _ _ _ _ X_loss hr rfl pass2 (@pa_cons _ _ _ _ _ (pv 1) (@pa_cons _ _ _ _ _ (pv 2) pa_nil (by rfl)) (by rfl)) (by decide) (by decide) (by rfl) (by rfl)) (by rfl))) (@pss_one _ _ _ (@ps_expr _ _ _ _ (@pe_fnY _ _ _ _ _ _ _ _ _ _ _ _ X_new_steps hr rfl pass2 (@pa_cons _ _ _ _ _ (pv 1) (@pa_cons _ _ _ _ _ (pv 3) pa_nil (by rfl)) (by rfl)) (by decide) (by decide) (by rfl) (by rfl)) (by rfl))) (by rfl) (by rfl))) (by rfl) (by rfl))) (by rfl) (by rfl))) (by rfl) (by rfl))) (by rfl) (by rfl))) (by rfl) (by rfl))), ?_⟩
  obtain ⟨w, r, x, y, xs, pss, rfl, ok, hc⟩ := h
  have P2 : 2 ≤ sizeLine := by decide
  rcases hc with ⟨n, hr', q⟩ | ⟨rfl, rfl, ⟨q0, hx, hin⟩, q⟩
  · cases hr' with
    | put hy => exact ⟨_, rfl, rfl, _, rfl, iteTc (decide_eq_true rfl) (⟨_, rfl, _, rfl, r, y, xs, pss, n, rfl, ok, hy, q⟩)⟩
    | out hx hk => exact ⟨_, rfl, rfl, _, rfl, iteFc (decide_eq_false (fun z => by cases z)) (⟨_, rfl, rfl, _, rfl, iteTc (decide_eq_true rfl) (⟨_, rfl, _, rfl, r, x, xs, pss, _, _, rfl, ok, hx.num, hk, q _ (Same.refl _)⟩)⟩)⟩
    | hgt hx hk => exact ⟨_, rfl, rfl, _, rfl, iteFc (decide_eq_false (fun z => by cases z)) (⟨_, rfl, rfl, _, rfl, iteFc (decide_eq_false (fun z => by cases z)) (⟨_, rfl, rfl, _, rfl, iteTc (decide_eq_true rfl) (⟨_, rfl, _, rfl, _, rfl, r, x, y, xs, pss, _, _, rfl, ok, hx, hk, q⟩)⟩)⟩)⟩
    | slo hx hk => exact ⟨_, rfl, rfl, _, rfl, iteFc (decide_eq_false (fun z => by cases z)) (⟨_, rfl, rfl, _, rfl, iteFc (decide_eq_false (fun z => by cases z)) (⟨_, rfl, rfl, _, rfl, iteFc (decide_eq_false (fun z => by cases z)) (⟨_, rfl, rfl, _, rfl, iteTc (decide_eq_true rfl) (⟨_, rfl, _, rfl, _, rfl, r, x, y, xs, pss, _, rfl, ok, hx, .inl ⟨_, hk, q⟩⟩)⟩)⟩)⟩)⟩
    | gain hx hk => exact ⟨_, rfl, rfl, _, rfl, iteFc (decide_eq_false (fun z => by cases z)) (⟨_, rfl, rfl, _, rfl, iteFc (decide_eq_false (fun z => by cases z)) (⟨_, rfl, rfl, _, rfl, iteFc (decide_eq_false (fun z => by cases z)) (⟨_, rfl, rfl, _, rfl, iteFc (decide_eq_false (fun z => by cases z)) (⟨_, rfl, rfl, _, rfl, iteTc (decide_eq_true rfl) (⟨_, rfl, _, rfl, _, rfl, P2, fun t ht => ⟨r, x, _, xs, pss, _, _, rfl, ok.same (Same.new ht), hx.same (Same.new ht), hk, fun H' s => q H' ((Same.new ht).trans s)⟩⟩)⟩)⟩)⟩)⟩)⟩
    | loss hx hk => exact ⟨_, rfl, rfl, _, rfl, iteFc (decide_eq_false (fun z => by cases z)) (⟨_, rfl, rfl, _, rfl, iteFc (decide_eq_false (fun z => by cases z)) (⟨_, rfl, rfl, _, rfl, iteFc (decide_eq_false (fun z => by cases z)) (⟨_, rfl, rfl, _, rfl, iteFc (decide_eq_false (fun z => by cases z)) (⟨_, rfl, rfl, _, rfl, iteFc (decide_eq_false (fun z => by cases z)) (⟨_, rfl, rfl, _, rfl, iteTc (decide_eq_true rfl) (⟨_, rfl, _, rfl, r, x, xs, pss, _, _, rfl, ok, hx.num, hk, q _ (Same.refl _)⟩)⟩)⟩)⟩)⟩)⟩)⟩
    | new hy => exact ⟨_, rfl, rfl, _, rfl, iteFc (decide_eq_false (fun z => by cases z)) (⟨_, rfl, rfl, _, rfl, iteFc (decide_eq_false (fun z => by cases z)) (⟨_, rfl, rfl, _, rfl, iteFc (decide_eq_false (fun z => by cases z)) (⟨_, rfl, rfl, _, rfl, iteFc (decide_eq_false (fun z => by cases z)) (⟨_, rfl, rfl, _, rfl, iteFc (decide_eq_false (fun z => by cases z)) (⟨_, rfl, rfl, _, rfl, iteFc (decide_eq_false (fun z => by cases z)) (⟨_, rfl, _, rfl, r, y, xs, pss, n, rfl, ok, hy, q⟩)⟩)⟩)⟩)⟩)⟩)⟩
  · exact ⟨_, rfl, rfl, _, rfl, iteFc (decide_eq_false (fun z => by cases z)) (⟨_, rfl, rfl, _, rfl, iteFc (decide_eq_false (fun z => by cases z)) (⟨_, rfl, rfl, _, rfl, iteFc (decide_eq_false (fun z => by cases z)) (⟨_, rfl, rfl, _, rfl, iteTc (decide_eq_true rfl) (⟨_, rfl, _, rfl, _, rfl, r, x, .non, xs, pss, q0, rfl, ok, hx, .inr ⟨rfl, hin, fun v' H' s => q H' s⟩⟩)⟩)⟩)⟩)⟩
theorem sc__law_refusal : FnScope ["_law_caught", "_law_some", "_law_found"] ["_law_caught"] (defScope (top 66)) := ⟨rfl, rfl, rfl, by decide +kernel, rfl, by decide +kernel, by decide +kernel⟩
set_option maxHeartbeats 4000000 in
theorem okh__law_refusal {f : Addr} {fd : FuncData} (F : Fun K "_law_refusal" "_law_refusal" (top 66) f fd) {a_TooMany a_NoPoints a_NoPoint a_NoNumber a_NoCurve a_NoStretch a_TooDeep a_TooFew a_NoText a_NoRow : Addr} (c_TooMany : mg "TooMany" = some (.ref a_TooMany)) (c_NoPoints : mg "NoPoints" = some (.ref a_NoPoints)) (c_NoPoint : mg "NoPoint" = some (.ref a_NoPoint)) (c_NoNumber : mg "NoNumber" = some (.ref a_NoNumber)) (c_NoCurve : mg "NoCurve" = some (.ref a_NoCurve)) (c_NoStretch : mg "NoStretch" = some (.ref a_NoStretch)) (c_TooDeep : mg "TooDeep" = some (.ref a_TooDeep)) (c_TooFew : mg "TooFew" = some (.ref a_TooFew)) (c_NoText : mg "NoText" = some (.ref a_NoText)) (c_NoRow : mg "NoRow" = some (.ref a_NoRow)) (b_isinstance : mg "isinstance" = none) (b_len : mg "len" = none) (b_ValueError : mg "ValueError" = none) (hT : P.given.tree = none) :
    FnH P w K mg base 33 f fd "_law_caught" (spRefH K [a_TooMany, a_NoPoints, a_NoPoint, a_NoNumber, a_NoCurve, a_NoStretch, a_TooDeep, a_TooFew, a_NoText, a_NoRow]) := by
  refine F.okH sc__law_refusal (fun cdv A outer s H ea oe Q hr hx h => ?_)
  refine ⟨_, (pss_consC (K := K) (ps_set (i := 1) sc__law_refusal.nd rfl (Or.inl rfl) (pe_lst (pa_cons (pe_tup (pa_cons pe_str (pa_cons (pe_callB (isiH K hx) rfl b_isinstance bt_isinstance (pa_cons (pv 0) (pa_cons (pe_glob (v := .ref a_TooMany) rfl c_TooMany rfl) pa_nil))) pa_nil))) (pa_cons (pe_tup (pa_cons pe_str (pa_cons (pe_callB (isiH K hx) rfl b_isinstance bt_isinstance (pa_cons (pv 0) (pa_cons (pe_glob (v := .ref a_NoPoints) rfl c_NoPoints rfl) pa_nil))) pa_nil))) pa_nil))))
    (pss_consC (K := K) (ps_set (i := 1) sc__law_refusal.nd rfl (Or.inl rfl) (pe_op op_cat (pv 1) (pe_lst (pa_cons (pe_tup (pa_cons pe_str (pa_cons (pe_callB (isiH K hx) rfl b_isinstance bt_isinstance (pa_cons (pv 0) (pa_cons (pe_glob (v := .ref a_NoPoint) rfl c_NoPoint rfl) pa_nil))) pa_nil))) (pa_cons (pe_tup (pa_cons pe_str (pa_cons (pe_callB (isiH K hx) rfl b_isinstance bt_isinstance (pa_cons (pv 0) (pa_cons (pe_glob (v := .ref a_NoNumber) rfl c_NoNumber rfl) pa_nil))) pa_nil))) pa_nil)))))
    (pss_consC (K := K) (ps_set (i := 1) sc__law_refusal.nd rfl (Or.inl rfl) (pe_op op_cat (pv 1) (pe_lst (pa_cons (pe_tup (pa_cons pe_str (pa_cons (pe_callB (isiH K hx) rfl b_isinstance bt_isinstance (pa_cons (pv 0) (pa_cons (pe_glob (v := .ref a_NoCurve) rfl c_NoCurve rfl) pa_nil))) pa_nil))) (pa_cons (pe_tup (pa_cons pe_str (pa_cons (pe_callB (isiH K hx) rfl b_isinstance bt_isinstance (pa_cons (pv 0) (pa_cons (pe_glob (v := .ref a_NoStretch) rfl c_NoStretch rfl) pa_nil))) pa_nil))) pa_nil)))))
    (pss_consC (K := K) (ps_set (i := 1) sc__law_refusal.nd rfl (Or.inl rfl) (pe_op op_cat (pv 1) (pe_lst (pa_cons (pe_tup (pa_cons pe_str (pa_cons (pe_callB (isiH K hx) rfl b_isinstance bt_isinstance (pa_cons (pv 0) (pa_cons (pe_glob (v := .ref a_TooDeep) rfl c_TooDeep rfl) pa_nil))) pa_nil))) (pa_cons (pe_tup (pa_cons pe_str (pa_cons (pe_callB (isiH K hx) rfl b_isinstance bt_isinstance (pa_cons (pv 0) (pa_cons (pe_glob (v := .ref a_TooFew) rfl c_TooFew rfl) pa_nil))) pa_nil))) pa_nil)))))
    (pss_consC (K := K) (ps_set (i := 1) sc__law_refusal.nd rfl (Or.inl rfl) (pe_op op_cat (pv 1) (pe_lst (pa_cons (pe_tup (pa_cons pe_str (pa_cons (pe_callB (isiH K hx) rfl b_isinstance bt_isinstance (pa_cons (pv 0) (pa_cons (pe_glob (v := .ref a_NoText) rfl c_NoText rfl) pa_nil))) pa_nil))) (pa_cons (pe_tup (pa_cons pe_str (pa_cons (pe_callB (isiH K hx) rfl b_isinstance bt_isinstance (pa_cons (pv 0) (pa_cons (pe_glob (v := .ref a_NoRow) rfl c_NoRow rfl) pa_nil))) pa_nil))) pa_nil)))))
    (pss_consC (K := K) (ps_lc2 (K := K) hx (i := 2) sc__law_refusal.nd rfl rfl (N := ["_law_word", "_law_one"]) (nt := 2) (js := []) (CompOk.look (NX := ["_law_caught", "_law_some", "_law_found"]) (sc := defScope (top 66)) rfl rfl (by decide +kernel)) (pv 1) (fun u1 u2 u3 u4 u5 hxx => (pgT2 (K := K) (n := 2) hxx (pgs_cons (pg_name (i := 0) (show List.Nodup (["_law_word", "_law_one"] : List Str) from by decide +kernel) rfl (Or.inl rfl)) (pgs_cons (pg_name (i := 1) (show List.Nodup (["_law_word", "_law_one"] : List Str) from by decide +kernel) rfl (Or.inl rfl)) pgs_nil)))) (stays_tup (stays_consS (by decide) (stays_consS (by decide) stays_nilS))) (fun u1 u2 u3 u4 u5 => pts_one (pt_val (pv 1))) (fun u1 u2 u3 u4 u5 => (pv 0)) rfl)
    (pss_consC (K := K) (ps_ifC (K := K) (PW.pt (pw_or (pt_cmpR op_ne (pe_callB (lenK K) rfl b_len bt_len (pa_cons (pv 2) pa_nil)) pe_int (nomark _)) (pw_or1 (pt_not (pt_val (pe_callB (isiH K hx) rfl b_isinstance bt_isinstance (pa_cons (pv 0) (pa_cons (pe_bltn (v := .ty "ValueError") rfl b_ValueError bt_ValueError rfl) pa_nil)))))))) (pss_one (ps_ret pe_str)) pss_nil (by rfl) (by rfl))
    (pss_one (ps_ret (pe_ix (ixL K) (pv 2) pe_int (fun u v => rfl)))) (by rfl)) (by rfl)) (by rfl)) (by rfl)) (by rfl)) (by rfl)) (by rfl)), ?_⟩
  obtain ⟨D, n, w, hD, R, hw, q⟩ := h
  have P2 : 2 ≤ sizeLine := by decide
  have P10 : 10 ≤ sizeLine := by decide
  refine ⟨_, rfl, D, _, _, _, hD, R.ty, rfl, rfl, R.of 0 _ rfl, P2, fun p0 h1 => ?_⟩
  have s1 : Same H (upd H p0 (.tup [.str "many", .bl (0 == n)])) := Same.new h1
  have w1 : WB K (upd H p0 (.tup [.str "many", .bl (0 == n)])) (.ref p0) ("many", (0 == n)) := ⟨p0, rfl, SqT.of upd_same⟩
  generalize upd H p0 (.tup [.str "many", .bl (0 == n)]) = A0 at s1 w1 ⊢
  refine ⟨_, rfl, D, _, _, _, hD, R.ty, rfl, rfl, R.of 1 _ rfl, P2, fun u0 h2 => ?_⟩
  have s2 : Same A0 (upd A0 u0 (.tup [.str "points", .bl (1 == n)])) := Same.new h2
  have w2 : WB K (upd A0 u0 (.tup [.str "points", .bl (1 == n)])) (.ref u0) ("points", (1 == n)) := ⟨u0, rfl, SqT.of upd_same⟩
  have w1 := w1.same s2
  have s2 := s1.trans s2
  generalize upd A0 u0 (.tup [.str "points", .bl (1 == n)]) = B0 at s2 w1 w2 ⊢
  refine ⟨P2, fun b0 hl => ?_⟩
  have s3 : Same B0 (upd B0 b0 (.lst [.ref p0, .ref u0])) := Same.new hl
  have eb : upd B0 b0 (.lst [.ref p0, .ref u0]) b0 = some (.lst [.ref p0, .ref u0]) := upd_same
  have w1 := w1.same s3
  have w2 := w2.same s3
  have sT := s2.trans s3
  generalize upd B0 b0 (.lst [.ref p0, .ref u0]) = C0 at sT eb w1 w2 ⊢
  clear s1 s2 s3 h1 h2 hl
  have l0 := b0
  have S0 := sT
  have el0 := eb
  have hn0 : [V.ref p0, V.ref u0].length = 2 := rfl
  have wS0 : Paired (WB K C0) [.ref p0, .ref u0] [("many", (0 == n)), ("points", (1 == n))] := .cons w1 (.cons w2 .nil)
  generalize [V.ref p0, V.ref u0] = xs0 at el0 wS0 hn0
  clear sT eb w1 w2
  refine ⟨_, rfl, _, rfl, D, _, _, _, hD, R.ty, rfl, rfl, R.of 2 _ rfl, P2, fun p1 h1 => ?_⟩
  have s1 : Same C0 (upd C0 p1 (.tup [.str "point", .bl (2 == n)])) := Same.new h1
  have w1 : WB K (upd C0 p1 (.tup [.str "point", .bl (2 == n)])) (.ref p1) ("point", (2 == n)) := ⟨p1, rfl, SqT.of upd_same⟩
  generalize upd C0 p1 (.tup [.str "point", .bl (2 == n)]) = A1 at s1 w1 ⊢
  refine ⟨_, rfl, D, _, _, _, hD, R.ty, rfl, rfl, R.of 3 _ rfl, P2, fun u1 h2 => ?_⟩
  have s2 : Same A1 (upd A1 u1 (.tup [.str "number", .bl (3 == n)])) := Same.new h2
  have w2 : WB K (upd A1 u1 (.tup [.str "number", .bl (3 == n)])) (.ref u1) ("number", (3 == n)) := ⟨u1, rfl, SqT.of upd_same⟩
  have w1 := w1.same s2
  have s2 := s1.trans s2
  generalize upd A1 u1 (.tup [.str "number", .bl (3 == n)]) = B1 at s2 w1 w2 ⊢
  refine ⟨P2, fun b1 hl => ?_⟩
  have s3 : Same B1 (upd B1 b1 (.lst [.ref p1, .ref u1])) := Same.new hl
  have eb : upd B1 b1 (.lst [.ref p1, .ref u1]) b1 = some (.lst [.ref p1, .ref u1]) := upd_same
  have w1 := w1.same s3
  have w2 := w2.same s3
  have sT := s2.trans s3
  generalize upd B1 b1 (.lst [.ref p1, .ref u1]) = C1 at sT eb w1 w2 ⊢
  clear s1 s2 s3 h1 h2 hl
  have wS := WBs.snoc (WBs.same wS0 sT) w1 w2
  have ST := S0.trans sT
  refine ⟨b0, b1, xs0, _, rfl, rfl, sT _ _ el0, eb, by rw [hn0]; exact (show 2 + 2 ≤ sizeLine by decide), fun l1 hl => ?_⟩
  have s4 : Same C1 (upd C1 l1 (.lst (xs0 ++ [.ref p1, .ref u1]))) := Same.new hl
  have el1 : upd C1 l1 (.lst (xs0 ++ [.ref p1, .ref u1])) l1 = some (.lst (xs0 ++ [.ref p1, .ref u1])) := upd_same
  have wS1 : Paired (WB K (upd C1 l1 (.lst (xs0 ++ [.ref p1, .ref u1])))) _ [("many", (0 == n)), ("points", (1 == n)), ("point", (2 == n)), ("number", (3 == n))] := WBs.same wS s4
  have S1 := ST.trans s4
  have hn1 : (xs0 ++ [V.ref p1, V.ref u1]).length = 2 + 2 := by rw [List.length_append, hn0]; rfl
  generalize upd C1 l1 (.lst (xs0 ++ [.ref p1, .ref u1])) = D1 at S1 el1 wS1 ⊢
  generalize xs0 ++ [V.ref p1, V.ref u1] = xs1 at el1 wS1 hn1
  clear wS sT ST S0 eb w1 w2 s4 hl wS0 el0 hn0
  refine ⟨_, rfl, _, rfl, D, _, _, _, hD, R.ty, rfl, rfl, R.of 4 _ rfl, P2, fun p2 h1 => ?_⟩
  have s1 : Same D1 (upd D1 p2 (.tup [.str "curve", .bl (4 == n)])) := Same.new h1
  have w1 : WB K (upd D1 p2 (.tup [.str "curve", .bl (4 == n)])) (.ref p2) ("curve", (4 == n)) := ⟨p2, rfl, SqT.of upd_same⟩
  generalize upd D1 p2 (.tup [.str "curve", .bl (4 == n)]) = A2 at s1 w1 ⊢
  refine ⟨_, rfl, D, _, _, _, hD, R.ty, rfl, rfl, R.of 5 _ rfl, P2, fun u2 h2 => ?_⟩
  have s2 : Same A2 (upd A2 u2 (.tup [.str "stretch", .bl (5 == n)])) := Same.new h2
  have w2 : WB K (upd A2 u2 (.tup [.str "stretch", .bl (5 == n)])) (.ref u2) ("stretch", (5 == n)) := ⟨u2, rfl, SqT.of upd_same⟩
  have w1 := w1.same s2
  have s2 := s1.trans s2
  generalize upd A2 u2 (.tup [.str "stretch", .bl (5 == n)]) = B2 at s2 w1 w2 ⊢
  refine ⟨P2, fun b2 hl => ?_⟩
  have s3 : Same B2 (upd B2 b2 (.lst [.ref p2, .ref u2])) := Same.new hl
  have eb : upd B2 b2 (.lst [.ref p2, .ref u2]) b2 = some (.lst [.ref p2, .ref u2]) := upd_same
  have w1 := w1.same s3
  have w2 := w2.same s3
  have sT := s2.trans s3
  generalize upd B2 b2 (.lst [.ref p2, .ref u2]) = C2 at sT eb w1 w2 ⊢
  clear s1 s2 s3 h1 h2 hl
  have wS := WBs.snoc (WBs.same wS1 sT) w1 w2
  have ST := S1.trans sT
  refine ⟨l1, b2, xs1, _, rfl, rfl, sT _ _ el1, eb, by rw [hn1]; exact (show 4 + 2 ≤ sizeLine by decide), fun l2 hl => ?_⟩
  have s4 : Same C2 (upd C2 l2 (.lst (xs1 ++ [.ref p2, .ref u2]))) := Same.new hl
  have el2 : upd C2 l2 (.lst (xs1 ++ [.ref p2, .ref u2])) l2 = some (.lst (xs1 ++ [.ref p2, .ref u2])) := upd_same
  have wS2 : Paired (WB K (upd C2 l2 (.lst (xs1 ++ [.ref p2, .ref u2])))) _ [("many", (0 == n)), ("points", (1 == n)), ("point", (2 == n)), ("number", (3 == n)), ("curve", (4 == n)), ("stretch", (5 == n))] := WBs.same wS s4
  have S2 := ST.trans s4
  have hn2 : (xs1 ++ [V.ref p2, V.ref u2]).length = 4 + 2 := by rw [List.length_append, hn1]; rfl
  generalize upd C2 l2 (.lst (xs1 ++ [.ref p2, .ref u2])) = D2 at S2 el2 wS2 ⊢
  generalize xs1 ++ [V.ref p2, V.ref u2] = xs2 at el2 wS2 hn2
  clear wS sT ST S1 eb w1 w2 s4 hl wS1 el1 hn1
  refine ⟨_, rfl, _, rfl, D, _, _, _, hD, R.ty, rfl, rfl, R.of 6 _ rfl, P2, fun p3 h1 => ?_⟩
  have s1 : Same D2 (upd D2 p3 (.tup [.str "deep", .bl (6 == n)])) := Same.new h1
  have w1 : WB K (upd D2 p3 (.tup [.str "deep", .bl (6 == n)])) (.ref p3) ("deep", (6 == n)) := ⟨p3, rfl, SqT.of upd_same⟩
  generalize upd D2 p3 (.tup [.str "deep", .bl (6 == n)]) = A3 at s1 w1 ⊢
  refine ⟨_, rfl, D, _, _, _, hD, R.ty, rfl, rfl, R.of 7 _ rfl, P2, fun u3 h2 => ?_⟩
  have s2 : Same A3 (upd A3 u3 (.tup [.str "few", .bl (7 == n)])) := Same.new h2
  have w2 : WB K (upd A3 u3 (.tup [.str "few", .bl (7 == n)])) (.ref u3) ("few", (7 == n)) := ⟨u3, rfl, SqT.of upd_same⟩
  have w1 := w1.same s2
  have s2 := s1.trans s2
  generalize upd A3 u3 (.tup [.str "few", .bl (7 == n)]) = B3 at s2 w1 w2 ⊢
  refine ⟨P2, fun b3 hl => ?_⟩
  have s3 : Same B3 (upd B3 b3 (.lst [.ref p3, .ref u3])) := Same.new hl
  have eb : upd B3 b3 (.lst [.ref p3, .ref u3]) b3 = some (.lst [.ref p3, .ref u3]) := upd_same
  have w1 := w1.same s3
  have w2 := w2.same s3
  have sT := s2.trans s3
  generalize upd B3 b3 (.lst [.ref p3, .ref u3]) = C3 at sT eb w1 w2 ⊢
  clear s1 s2 s3 h1 h2 hl
  have wS := WBs.snoc (WBs.same wS2 sT) w1 w2
  have ST := S2.trans sT
  refine ⟨l2, b3, xs2, _, rfl, rfl, sT _ _ el2, eb, by rw [hn2]; exact (show 6 + 2 ≤ sizeLine by decide), fun l3 hl => ?_⟩
  have s4 : Same C3 (upd C3 l3 (.lst (xs2 ++ [.ref p3, .ref u3]))) := Same.new hl
  have el3 : upd C3 l3 (.lst (xs2 ++ [.ref p3, .ref u3])) l3 = some (.lst (xs2 ++ [.ref p3, .ref u3])) := upd_same
  have wS3 : Paired (WB K (upd C3 l3 (.lst (xs2 ++ [.ref p3, .ref u3])))) _ [("many", (0 == n)), ("points", (1 == n)), ("point", (2 == n)), ("number", (3 == n)), ("curve", (4 == n)), ("stretch", (5 == n)), ("deep", (6 == n)), ("few", (7 == n))] := WBs.same wS s4
  have S3 := ST.trans s4
  have hn3 : (xs2 ++ [V.ref p3, V.ref u3]).length = 6 + 2 := by rw [List.length_append, hn2]; rfl
  generalize upd C3 l3 (.lst (xs2 ++ [.ref p3, .ref u3])) = D3 at S3 el3 wS3 ⊢
  generalize xs2 ++ [V.ref p3, V.ref u3] = xs3 at el3 wS3 hn3
  clear wS sT ST S2 eb w1 w2 s4 hl wS2 el2 hn2
  refine ⟨_, rfl, _, rfl, D, _, _, _, hD, R.ty, rfl, rfl, R.of 8 _ rfl, P2, fun p4 h1 => ?_⟩
  have s1 : Same D3 (upd D3 p4 (.tup [.str "text", .bl (8 == n)])) := Same.new h1
  have w1 : WB K (upd D3 p4 (.tup [.str "text", .bl (8 == n)])) (.ref p4) ("text", (8 == n)) := ⟨p4, rfl, SqT.of upd_same⟩
  generalize upd D3 p4 (.tup [.str "text", .bl (8 == n)]) = A4 at s1 w1 ⊢
  refine ⟨_, rfl, D, _, _, _, hD, R.ty, rfl, rfl, R.of 9 _ rfl, P2, fun u4 h2 => ?_⟩
  have s2 : Same A4 (upd A4 u4 (.tup [.str "row", .bl (9 == n)])) := Same.new h2
  have w2 : WB K (upd A4 u4 (.tup [.str "row", .bl (9 == n)])) (.ref u4) ("row", (9 == n)) := ⟨u4, rfl, SqT.of upd_same⟩
  have w1 := w1.same s2
  have s2 := s1.trans s2
  generalize upd A4 u4 (.tup [.str "row", .bl (9 == n)]) = B4 at s2 w1 w2 ⊢
  refine ⟨P2, fun b4 hl => ?_⟩
  have s3 : Same B4 (upd B4 b4 (.lst [.ref p4, .ref u4])) := Same.new hl
  have eb : upd B4 b4 (.lst [.ref p4, .ref u4]) b4 = some (.lst [.ref p4, .ref u4]) := upd_same
  have w1 := w1.same s3
  have w2 := w2.same s3
  have sT := s2.trans s3
  generalize upd B4 b4 (.lst [.ref p4, .ref u4]) = C4 at sT eb w1 w2 ⊢
  clear s1 s2 s3 h1 h2 hl
  have wS := WBs.snoc (WBs.same wS3 sT) w1 w2
  have ST := S3.trans sT
  refine ⟨l3, b4, xs3, _, rfl, rfl, sT _ _ el3, eb, by rw [hn3]; exact (show 8 + 2 ≤ sizeLine by decide), fun l4 hl => ?_⟩
  have s4 : Same C4 (upd C4 l4 (.lst (xs3 ++ [.ref p4, .ref u4]))) := Same.new hl
  have el4 : upd C4 l4 (.lst (xs3 ++ [.ref p4, .ref u4])) l4 = some (.lst (xs3 ++ [.ref p4, .ref u4])) := upd_same
  have wS4 : Paired (WB K (upd C4 l4 (.lst (xs3 ++ [.ref p4, .ref u4])))) _ [("many", (0 == n)), ("points", (1 == n)), ("point", (2 == n)), ("number", (3 == n)), ("curve", (4 == n)), ("stretch", (5 == n)), ("deep", (6 == n)), ("few", (7 == n)), ("text", (8 == n)), ("row", (9 == n))] := WBs.same wS s4
  have S4 := ST.trans s4
  have hn4 : (xs3 ++ [V.ref p4, V.ref u4]).length = 8 + 2 := by rw [List.length_append, hn3]; rfl
  generalize upd C4 l4 (.lst (xs3 ++ [.ref p4, .ref u4])) = D4 at S4 el4 wS4 ⊢
  generalize xs3 ++ [V.ref p4, V.ref u4] = xs4 at el4 wS4 hn4
  clear wS sT ST S3 eb w1 w2 s4 hl wS3 el3 hn3
  refine lc_of ⟨_, rfl, l4, rfl, ⟨xs4, SqL.of el4⟩, ?_⟩
  have e : picked [("many", (0 == n)), ("points", (1 == n)), ("point", (2 == n)), ("number", (3 == n)), ("curve", (4 == n)), ("stretch", (5 == n)), ("deep", (6 == n)), ("few", (7 == n)), ("text", (8 == n)), ("row", (9 == n))] = [.str w] := one_word hw
  generalize [("many", (0 == n)), ("points", (1 == n)), ("point", (2 == n)), ("number", (3 == n)), ("curve", (4 == n)), ("stretch", (5 == n)), ("deep", (6 == n)), ("few", (7 == n)), ("text", (8 == n)), ("row", (9 == n))] = ps at wS4 e
  refine lc_pick (SqL.of el4) wS4 (by rw [hn4]; exact P10) (fun f hf => ?_)
  rw [e]
  have sf : Same D4 (upd D4 f (.lst [.str w])) := Same.new hf
  have ef : upd D4 f (.lst [.str w]) f = some (.lst [.str w]) := upd_same
  have SF := S4.trans sf
  generalize upd D4 f (.lst [.str w]) = D5 at ef SF ⊢
  refine ⟨_, rfl, f, _, rfl, .inl (SqL.of ef), rfl, _, rfl, iteFc (by first | rfl | decide) ?_⟩
  refine ⟨_, rfl, D, _, _, _, hD, R.ty, rfl, rfl, R.ve, _, rfl, iteFc rfl ?_⟩
  exact ⟨_, rfl, f, _, _, _, rfl, rfl, SqL.of ef, rfl, q _ SF⟩
theorem sc__law_told_of : FnScope ["_law_way", "_law_points_here", "_law_x", "_law_thing", "_law_word", "e"] ["_law_way", "_law_points_here", "_law_x", "_law_thing"] (defScope (top 68)) := ⟨rfl, rfl, rfl, by decide +kernel, rfl, by decide +kernel, by decide +kernel⟩
set_option maxHeartbeats 4000000 in
theorem ok__law_told_of {f : Addr} {fd : FuncData} (F : Fun K "_law_told_of" "_law_told_of" (top 68) f fd) {a_CurveError a_TooMany a_NoPoints a_NoPoint a_NoNumber a_NoCurve a_NoStretch a_TooDeep a_TooFew a_NoText a_NoRow : Addr} (c_CurveError : mg "CurveError" = some (.ref a_CurveError)) (xm_TooMany : PySem.W.exmOne K (.ref a_TooMany) (.ref a_CurveError) = some true) (xr_TooMany : RefK K a_TooMany [a_TooMany, a_NoPoints, a_NoPoint, a_NoNumber, a_NoCurve, a_NoStretch, a_TooDeep, a_TooFew, a_NoText, a_NoRow] 0) (xm_NoPoints : PySem.W.exmOne K (.ref a_NoPoints) (.ref a_CurveError) = some true) (xr_NoPoints : RefK K a_NoPoints [a_TooMany, a_NoPoints, a_NoPoint, a_NoNumber, a_NoCurve, a_NoStretch, a_TooDeep, a_TooFew, a_NoText, a_NoRow] 1) (xm_NoPoint : PySem.W.exmOne K (.ref a_NoPoint) (.ref a_CurveError) = some true) (xr_NoPoint : RefK K a_NoPoint [a_TooMany, a_NoPoints, a_NoPoint, a_NoNumber, a_NoCurve, a_NoStretch, a_TooDeep, a_TooFew, a_NoText, a_NoRow] 2) (H__law_refusal : FdH P w K mg base 33 "_law_refusal" "_law_caught" (spRefH K [a_TooMany, a_NoPoints, a_NoPoint, a_NoNumber, a_NoCurve, a_NoStretch, a_TooDeep, a_TooFew, a_NoText, a_NoRow])) (Y__law_done : FdY P w K mg base 40 "_law_done" ["_law_way", "_law_points_here", "_law_x", "_law_thing"] (fun vs H Q E => (fun _ _ _ _ => False : Sp) vs H Q E ∨ (spDoneX K (clsOf3 a_TooMany a_NoPoints a_NoPoint) : Sp) vs H Q E)) (F__law_done : Fd P w K mg base 40 "_law_done" ["_law_way", "_law_points_here", "_law_x", "_law_thing"] (fun _ _ _ _ => False)) (hT : P.given.tree = none) :
    FnOk P w K mg base CX0 41 f fd ["_law_way", "_law_points_here", "_law_x", "_law_thing"] (spTold26 K) := by
  refine F.ok sc__law_told_of (fun vs H Q E h => ?_) (fun cdv A outer s H vs Q E hr h => ?_)
  · obtain ⟨_, _, _, _, _, _, rfl, _⟩ := h; rfl
  refine ⟨_, (@pss_consC _ _ _ _ _ K _ (@ps_set _ _ 4 _ _ _ _ sc__law_told_of.nd rfl (Or.inl rfl) pe_non (by rfl) (by first   | exact .inl rfl   | exact .inr rfl   | assumption)) (@pss_consC _ _ _ _ _ K _ (@ps_tryR _ _ _ _ _ _ _ _ _ _ 5 4 _ _ _ _ _ _ _ _ _ _ (@pb_expr _ _ _ _ _ _ _ _ _ _ _ _ Y__law_done hr rfl (@pa_cons _ _ _ _ _ (pv 0) (@pa_cons _ _ _ _ _ (pv 1) (@pa_cons _ _ _ _ _ (pv 2) (@pa_cons _ _ _ _ _ (pv 3) pa_nil (by rfl)) (by rfl)) (by rfl)) (by rfl)) (by decide) (by rfl) (by decide) (by rfl) (by rfl)) H__law_refusal hr rfl rfl c_CurveError sc__law_told_of.nd rfl rfl rfl rfl rfl rfl (by decide) (by rfl) (by decide) (by decide) (by decide) (by decide) (by rfl)) (@pss_one _ _ _ (@ps_ret _ _ _ _ (pv 4))) (by rfl)) (by rfl)), ?_⟩
  obtain ⟨w, r, x, y, xs, pss, rfl, ok, hc⟩ := h
  refine ⟨_, rfl, _, rfl, _, rfl, _, rfl, .inr ⟨w, r, x, y, xs, pss, rfl, ok, ?_⟩⟩
  rcases hc with ⟨n, hf, q⟩ | ⟨h3, hy, hx, q⟩
  · refine .inl ⟨n, hf, fun H1 s1 => ?_⟩
    match n, q with
    | 0, q => exact ⟨xm_TooMany, fun ea he => ⟨a_TooMany, 0, "many", rfl, xr_TooMany, rfl, fun H' s => ⟨_, rfl, q _ (s1.trans s)⟩⟩⟩
    | 1, q => exact ⟨xm_NoPoints, fun ea he => ⟨a_NoPoints, 1, "points", rfl, xr_NoPoints, rfl, fun H' s => ⟨_, rfl, q _ (s1.trans s)⟩⟩⟩
    | n + 2, q => exact ⟨xm_NoPoint, fun ea he => ⟨a_NoPoint, 2, "point", rfl, xr_NoPoint, rfl, fun H' s => ⟨_, rfl, q _ (s1.trans s)⟩⟩⟩
  · exact .inr ⟨h3, hy, hx, fun H' s => ⟨_, rfl, q _ s⟩⟩
theorem sc__law_full_right : FnScope ["_law_pen_here", "_law_full", "_law_place", "_law_far"] ["_law_pen_here"] (defScope (top 71)) := ⟨rfl, rfl, rfl, by decide +kernel, rfl, by decide +kernel, by decide +kernel⟩
set_option maxHeartbeats 4000000 in
theorem ok__law_full_right {f : Addr} {fd : FuncData} (F : Fun K "_law_full_right" "_law_full_right" (top 71) f fd) (F__law_filled : Fd P w K mg base 36 "_law_filled" ["_law_pen_here"] (spFilled K)) (F__law_plus : Fd P w K mg base 34 "_law_plus" ["_law_a", "_law_b"] (spBin K (· + ·))) (F__law_number : Fd P w K mg base 34 "_law_number" ["_law_pen_here"] (spNum 40)) (F__law_told_of : Fd P w K mg base 41 "_law_told_of" ["_law_way", "_law_points_here", "_law_x", "_law_thing"] (spTold26 K)) (hT : P.given.tree = none) :
    FnOk P w K mg base CX0 42 f fd ["_law_pen_here"] (spFullR K) := by
  refine F.ok sc__law_full_right (fun vs H Q E h => ?_) (fun cdv A outer s H vs Q E hr h => ?_)
  · obtain ⟨_, rfl, _⟩ := h; rfl
  refine ⟨_, (@pss_consC _ _ _ _ _ K _ (@ps_asg _ _ _ _ _ _ (@pe_fn _ _ _ _ _ _ _ _ _ _ _ F__law_filled hr rfl (@pa_cons _ _ _ _ _ (pv 0) pa_nil (by rfl)) (by decide) (by decide) (by rfl) (by rfl)) (@pgT _ K _ _ _ 2 _ rfl (pgs_cons (@pg_name _ _ 1 _ sc__law_full_right.nd rfl (Or.inl rfl) (by first   | exact .inl rfl   | exact .inr rfl   | assumption)) (pgs_cons (@pg_name _ _ 2 _ sc__law_full_right.nd rfl (Or.inl rfl) (by first   | exact .inl rfl   | exact .inr rfl   | assumption)) pgs_nil)) (by rfl) (by rfl) (by rfl)) (by rfl) (by rfl) (by rfl)) (@pss_consC _ _ _ _ _ K _ (@ps_set _ _ 3 _ _ _ _ sc__law_full_right.nd rfl (Or.inl rfl) (@pe_fn _ _ _ _ _ _ _ _ _ _ _ F__law_plus hr rfl (@pa_cons _ _ _ _ _ (@pe_tup _ _ _ _ _ (@pa_cons _ _ _ _ _ (@pe_op _ _ _ _ _ _ _ _ op_pow pe_int pe_int) (@pa_cons _ _ _ _ _ pe_int pa_nil (by rfl)) (by rfl))) (@pa_cons _ _ _ _ _ (@pe_fn _ _ _ _ _ _ _ _ _ _ _ F__law_number hr rfl (@pa_cons _ _ _ _ _ (pv 0) pa_nil (by rfl)) (by decide) (by decide) (by rfl) (by rfl)) pa_nil (by rfl)) (by rfl)) (by decide) (by decide) (by rfl) (by rfl)) (by rfl) (by first   | exact .inl rfl   | exact .inr rfl   | assumption)) (@pss_consC _ _ _ _ _ K _ (@ps_ifC _ _ _ _ _ _ _ _ K _ _ (@PW.pt _ _ _ (@pw_or _ _ _ _ _ _ _ (@pt_cmpR _ _ _ _ _ _ _ _ op_ne (@pe_fn _ _ _ _ _ _ _ _ _ _ _ F__law_told_of hr rfl (@pa_cons _ _ _ _ _ pe_int (@pa_cons _ _ _ _ _ (pv 1) (@pa_cons _ _ _ _ _ pe_non (@pa_cons _ _ _ _ _ (@pe_tup _ _ _ _ _ (@pa_cons _ _ _ _ _ (pv 3) (@pa_cons _ _ _ _ _ (@pe_tup _ _ _ _ _ (@pa_cons _ _ _ _ _ pe_int (@pa_cons _ _ _ _ _ pe_int pa_nil (by rfl)) (by rfl))) pa_nil (by rfl)) (by rfl))) pa_nil (by rfl)) (by rfl)) (by rfl)) (by rfl)) (by decide) (by decide) (by rfl) (by rfl)) pe_str (nomark _)) (@pw_or1 _ _ _ _ (@pt_cmpR _ _ _ _ _ _ _ _ op_ne (@pe_fn _ _ _ _ _ _ _ _ _ _ _ F__law_told_of hr rfl (@pa_cons _ _ _ _ _ pe_int (@pa_cons _ _ _ _ _ (pv 1) (@pa_cons _ _ _ _ _ (pv 2) (@pa_cons _ _ _ _ _ (@pe_tup _ _ _ _ _ (@pa_cons _ _ _ _ _ pe_int (@pa_cons _ _ _ _ _ pe_int pa_nil (by rfl)) (by rfl))) pa_nil (by rfl)) (by rfl)) (by rfl)) (by rfl)) (by decide) (by decide) (by rfl) (by rfl)) pe_str (nomark _))))) (@pss_one _ _ _ (@ps_ret _ _ _ _ pe_bl)) pss_nil (by rfl) (by rfl)) (@pss_consC _ _ _ _ _ K _ (@ps_ifC _ _ _ _ _ _ _ _ K _ _ (@pt_cmpR _ _ _ _ _ _ _ _ op_ne (@pe_fn _ _ _ _ _ _ _ _ _ _ _ F__law_told_of hr rfl (@pa_cons _ _ _ _ _ pe_int (@pa_cons _ _ _ _ _ (pv 1) (@pa_cons _ _ _ _ _ pe_non (@pa_cons _ _ _ _ _ (@pe_tup _ _ _ _ _ (@pa_cons _ _ _ _ _ (pv 3) (@pa_cons _ _ _ _ _ (@pe_tup _ _ _ _ _ (@pa_cons _ _ _ _ _ pe_int (@pa_cons _ _ _ _ _ pe_int pa_nil (by rfl)) (by rfl))) pa_nil (by rfl)) (by rfl))) pa_nil (by rfl)) (by rfl)) (by rfl)) (by rfl)) (by decide) (by decide) (by rfl) (by rfl)) pe_str (nomark _)) (@pss_one _ _ _ (@ps_ret _ _ _ _ pe_bl)) pss_nil (by rfl) (by rfl)) (@pss_consC _ _ _ _ _ K _ (@ps_ifC _ _ _ _ _ _ _ _ K _ _ (@pt_cmpR _ _ _ _ _ _ _ _ op_ne (@pe_fn _ _ _ _ _ _ _ _ _ _ _ F__law_told_of hr rfl (@pa_cons _ _ _ _ _ pe_int (@pa_cons _ _ _ _ _ (pv 1) (@pa_cons _ _ _ _ _ pe_non (@pa_cons _ _ _ _ _ (@pe_tup _ _ _ _ _ (@pa_cons _ _ _ _ _ (pv 2) (@pa_cons _ _ _ _ _ (@pe_tup _ _ _ _ _ (@pa_cons _ _ _ _ _ pe_int (@pa_cons _ _ _ _ _ pe_int pa_nil (by rfl)) (by rfl))) (@pa_cons _ _ _ _ _ (@pe_tup _ _ _ _ _ (@pa_cons _ _ _ _ _ pe_int (@pa_cons _ _ _ _ _ pe_int pa_nil (by rfl)) (by rfl))) pa_nil (by rfl)) (by rfl)) (by rfl))) pa_nil (by rfl)) (by rfl)) (by rfl)) (by rfl)) (by decide) (by decide) (by rfl) (by rfl)) pe_str (nomark _)) (@pss_one _ _ _ (@ps_ret _ _ _ _ pe_bl)) pss_nil (by rfl) (by rfl)) (@pss_consC _ _ _ _ _ K _ (@ps_ifC _ _ _ _ _ _ _ _ K _ _ (@pt_cmpR _ _ _ _ _ _ _ _ op_ne (@pe_fn _ _ _ _ _ _ _ _ _ _ _ F__law_told_of hr rfl (@pa_cons _ _ _ _ _ pe_int (@pa_cons _ _ _ _ _ (pv 1) (@pa_cons _ _ _ _ _ pe_non (@pa_cons _ _ _ _ _ (@pe_tup _ _ _ _ _ (@pa_cons _ _ _ _ _ (pv 2) (@pa_cons _ _ _ _ _ (@pe_tup _ _ _ _ _ (@pa_cons _ _ _ _ _ pe_int (@pa_cons _ _ _ _ _ pe_int pa_nil (by rfl)) (by rfl))) pa_nil (by rfl)) (by rfl))) pa_nil (by rfl)) (by rfl)) (by rfl)) (by rfl)) (by decide) (by decide) (by rfl) (by rfl)) pe_str (nomark _)) (@pss_one _ _ _ (@ps_ret _ _ _ _ pe_bl)) pss_nil (by rfl) (by rfl)) (@pss_one _ _ _ (@ps_ret _ _ _ _ (@pe_cmpR _ _ _ _ _ _ _ _ op_isN (@pe_fn _ _ _ _ _ _ _ _ _ _ _ F__law_told_of hr rfl (@pa_cons _ _ _ _ _ pe_int (@pa_cons _ _ _ _ _ (pv 1) (@pa_cons _ _ _ _ _ (pv 2) (@pa_cons _ _ _ _ _ pe_non pa_nil (by rfl)) (by rfl)) (by rfl)) (by rfl)) (by decide) (by decide) (by rfl) (by rfl)) pe_non (nomark _)))) (by rfl)) (by rfl)) (by rfl)) (by rfl)) (by rfl)) (by rfl)), ?_⟩
  obtain ⟨p, rfl, pn, q⟩ := h
  have P2 : 2 ≤ sizeLine := by decide
  have P3 : 3 ≤ sizeLine := by decide
  have C13 : CPow 10 13 := by unfold CPow; decide
  refine ⟨_, rfl, p, rfl, pn, fun t r px H2 xs pss ps m2 p2 hT ok htl hbd hpx hps hp2 => ?_⟩
  refine ⟨t, _, rfl, hT, rfl, _, _, rfl, _, _, rfl, rfl, ?_⟩
  refine ⟨_, _, rfl, rfl, C13, P2, fun t1 ht1 => ?_⟩
  have n1 := Same.new (o := .tup [.int (10 ^ 13), .int 1]) ht1
  have et1 := upd_same (H := H2) (a := t1) (o := .tup [.int (10 ^ 13), .int 1])
  have p3 := p2.sm n1
  refine ⟨_, rfl, p, rfl, p3, fun y ry H4 m4 p4 hry bn _ => ?_⟩
  have m24 := n1.mv.trans m4
  have hten : NumV K H4 (.ref t1) (((10 ^ 13 : Int)) : Rat) := by
    have e := m4 _ _ (p3.ne (show _ = some (nT (((10 ^ 13 : Int)) : Rat)) by rw [nT_i26]; exact et1) (nT_ne _)) et1
    exact NumV.of (show _ = some (nT (((10 ^ 13 : Int)) : Rat)) by rw [nT_i26]; exact e)
  have hyn := (rat_lt40 bn).2
  refine ⟨_, _, _, y, 64, 64, rfl, hten, NumV.of hry, ⟨by rw [Rat.num_intCast]; unfold Bd; decide, by rw [Rat.den_intCast]; unfold Bd; decide⟩, ⟨Bd.mono bn (by decide), Bd.mono (by assumption) (by decide)⟩, by decide, fun fa hfa => ?_⟩
  have n5 := Same.new (o := nT ((((10 ^ 13 : Int)) : Rat) + y)) hfa
  have efa := upd_same (H := H4) (a := fa) (o := nT ((((10 ^ 13 : Int)) : Rat) + y))
  have ok5 := (ok.mv p2 m24).same n5
  have hpx5 := n5 _ _ (m24 _ _ (p2.ne hpx (nT_ne _)) hpx)
  generalize hfq : (((10 ^ 13 : Int)) : Rat) + y = f at n5 efa ok5 hpx5 ⊢
  have hfar : f ∉ pss.map fun ps => ps.getD 0 0 := fun h => by
    have := hbd f h
    have e : (((10 ^ 13 : Int)) : Rat) = 10000000000000 := rfl
    rw [e] at hfq
    grind
  generalize upd H4 fa (nT f) = H5 at n5 efa ok5 hpx5 ⊢
  clear n5 hten m24 p4 m4 n1 et1 p3 ht1 hfa hry hT ok hpx hfq hbd m2
  obtain ⟨m, hm, hme⟩ := (List.getElem_of_mem hps)
  have hpm : pss[m]? = some ps := by rw [List.getElem?_eq_getElem hm, hme]
  have hin : ps.getD 0 0 ∈ pss.map fun ps => ps.getD 0 0 := List.mem_map_of_mem (f := fun ps : List Rat => ps.getD 0 0) hps
  have hmany : ∀ c d : Rat, 12 < (tell (pss ++ [[c, d]])).length := fun c d => by
    have e : tell [[c, d]] = tellP [c, d] ++ tell [] := rfl
    rw [tell_app26, List.length_append, htl, e, List.length_append, tellP_length]
    show 12 < 12 + (1 + _)
    lia
  refine ⟨_, rfl, _, rfl, P2, fun a1 h1 => ⟨P2, fun a2 h2 => ?_⟩⟩
  have u1 := Same.new (o := .tup [.int 1, .int 1]) h1
  have u2 := Same.new (o := .tup [.ref fa, .ref a1]) h2
  have s6 := (u1).trans u2
  have hn : PtT K _ (.ref a2) [f, 1] := ⟨a2, _, fa, rfl, SqT.of upd_same, .cons (NumV.of (s6 _ _ efa)) (.cons ⟨a1, rfl, SqT.of (u2 _ _ upd_same)⟩ .nil), rfl, s6 _ _ efa⟩
  clear u1 u2
  refine ⟨0, r, .non, .ref a2, xs, pss, rfl, ok5.same s6, .inl ⟨0, .put (.many hn (.inl rfl) hfar (hmany _ _)), fun H7 s7 => ⟨rfl, _, rfl, iteFc (by decide) ?_⟩⟩⟩
  have s7 := s6.trans s7
  clear hn
  refine ⟨_, rfl, _, rfl, P2, fun b1 h3 => ?_⟩
  have s8 := s7.trans (Same.new (o := .tup [.int 1, .int 1]) h3)
  refine ⟨3, r, .ref px, .ref b1, xs, pss, rfl, ok5.same s8, .inl ⟨0, .slo ⟨px, rfl, s8 _ _ hpx5⟩ (.many (c := 1) hpm rfl ⟨b1, rfl, SqT.of upd_same⟩ ?_), fun H9 s9 => ⟨rfl, _, rfl, iteFc (by decide) ?_⟩⟩⟩
  · have := tell_setl (qs := ps.take 2 ++ [1]) hpm
    rw [List.length_append, List.length_take] at this
    have e : [(1 : Rat)].length = 1 := rfl
    lia
  have s9 := s8.trans s9
  clear s6 s7 s8 h1 h2 h3
  refine ⟨_, rfl, _, rfl, P2, fun a1 h1 => ⟨P2, fun a2 h2 => ?_⟩⟩
  have u1 := Same.new (o := .tup [.int 1, .int 1]) h1
  have u2 := Same.new (o := .tup [.ref fa, .ref a1]) h2
  have s6 := (s9.trans u1).trans u2
  have hn : PtT K _ (.ref a2) [f, 1] := ⟨a2, _, fa, rfl, SqT.of upd_same, .cons (NumV.of (s6 _ _ efa)) (.cons ⟨a1, rfl, SqT.of (u2 _ _ upd_same)⟩ .nil), rfl, s6 _ _ efa⟩
  clear u1 u2
  refine ⟨6, r, .non, .ref a2, xs, pss, rfl, ok5.same s6, .inl ⟨0, .new (.many hn (.inl rfl) hfar (hmany _ _)), fun H7 s7 => ⟨rfl, _, rfl, iteFc (by decide) ?_⟩⟩⟩
  have s9 := s6.trans s7
  clear hn s6 s7 h1 h2
  refine ⟨_, rfl, _, rfl, P2, fun a1 h1 => ⟨P2, fun a2 h2 => ⟨P3, fun a3 h3 => ?_⟩⟩⟩
  have u1 := Same.new (o := .tup [.int 1, .int 1]) h1
  have u2 := Same.new (o := .tup [.int 2, .int 1]) h2
  have u3 := Same.new (o := .tup [.ref px, .ref a1, .ref a2]) h3
  have s6 := ((s9.trans u1).trans u2).trans u3
  have hn : PtT K _ (.ref a3) [ps.getD 0 0, 1, 2] := ⟨a3, _, px, rfl, SqT.of upd_same, .cons (NumV.of (s6 _ _ hpx5)) (.cons ⟨a1, rfl, SqT.of (u3 _ _ (u2 _ _ upd_same))⟩ (.cons ⟨a2, rfl, SqT.of (u3 _ _ upd_same)⟩ .nil)), rfl, s6 _ _ hpx5⟩
  refine ⟨0, r, .non, .ref a3, xs, pss, rfl, ok5.same s6, .inl ⟨1, .put (.twice hn (.inr rfl) hin), fun H7 s7 => ⟨rfl, _, rfl, iteFc (by decide) ?_⟩⟩⟩
  have s9 := s6.trans s7
  clear hn s6 s7 h1 h2 h3 u1 u2 u3
  refine ⟨_, rfl, _, rfl, P2, fun a1 h1 => ⟨P2, fun a2 h2 => ?_⟩⟩
  have u1 := Same.new (o := .tup [.int 1, .int 1]) h1
  have u2 := Same.new (o := .tup [.ref px, .ref a1]) h2
  have s6 := (s9.trans u1).trans u2
  have hn : PtT K _ (.ref a2) [ps.getD 0 0, 1] := ⟨a2, _, px, rfl, SqT.of upd_same, .cons (NumV.of (s6 _ _ hpx5)) (.cons ⟨a1, rfl, SqT.of (u2 _ _ upd_same)⟩ .nil), rfl, s6 _ _ hpx5⟩
  refine ⟨6, r, .non, .ref a2, xs, pss, rfl, ok5.same s6, .inl ⟨1, .new (.twice hn (.inl rfl) hin), fun H7 s7 => ⟨rfl, _, rfl, iteFc (by decide) ?_⟩⟩⟩
  have s9 := s6.trans s7
  exact ⟨_, rfl, _, rfl, 3, r, .ref px, .non, xs, pss, rfl, ok5.same s9, .inr ⟨rfl, rfl, ⟨_, ⟨px, rfl, s9 _ _ hpx5⟩, hin⟩, fun H' s => ⟨rfl, q H'⟩⟩⟩
theorem sc_law : FnScope ["_law_script", "_law_pen_here", "_law_points_here", "_law_bad", "_law_odd", "_law_place", "_law_far", "_law_way", "_law_plain", "_law_only"] ["_law_script"] (defScope (top 72)) := ⟨rfl, rfl, rfl, by decide +kernel, rfl, by decide +kernel, by decide +kernel⟩
set_option maxHeartbeats 4000000 in
theorem ok_law {f : Addr} {fd : FuncData} (F : Fun K "law" "law" (top 72) f fd) (F__law_pen : Fd P w K mg base 33 "_law_pen" ["_law_script", "_law_k"] (spPen K)) (F__law_points : Fd P w K mg base 36 "_law_points" ["_law_pen_here", "_law_most"] (spPointsT K 40)) (F__law_no_point : Fd P w K mg base 34 "_law_no_point" ["_law_pen_here", "_law_points_here"] (spNoPt K)) (F__law_number : Fd P w K mg base 34 "_law_number" ["_law_pen_here"] (spNum 40)) (F__law_full_right : Fd P w K mg base 42 "_law_full_right" ["_law_pen_here"] (spFullR K)) (F__law_draw : Fd P w K mg base 33 "_law_draw" ["_law_pen_here", "_law_many"] (spDraw)) (F__law_plus : Fd P w K mg base 34 "_law_plus" ["_law_a", "_law_b"] (spBin K (· + ·))) (F__law_told_of : Fd P w K mg base 41 "_law_told_of" ["_law_way", "_law_points_here", "_law_x", "_law_thing"] (spTold26 K)) (b_range : mg "range" = none) (b_len : mg "len" = none) (hT : P.given.tree = none) :
    FnOk P w K mg base CX0 43 f fd ["_law_script"] (spLaw K) := by
  refine F.ok sc_law (fun vs H Q E h => ?_) (fun cdv A outer s H vs Q E hr h => ?_)
  · obtain ⟨_, _, rfl, _⟩ := h; rfl
  refine ⟨_, (@pss_consC _ _ _ _ _ K _ (@ps_set _ _ 1 _ _ _ _ sc_law.nd rfl (Or.inl rfl) (@pe_fn _ _ _ _ _ _ _ _ _ _ _ F__law_pen hr rfl (@pa_cons _ _ _ _ _ (pv 0) (@pa_cons _ _ _ _ _ pe_int pa_nil (by rfl)) (by rfl)) (by decide) (by decide) (by rfl) (by rfl)) (by rfl) (by first   | exact .inl rfl   | exact .inr rfl   | assumption)) (@pss_consC _ _ _ _ _ K _ (@ps_set _ _ 2 _ _ _ _ sc_law.nd rfl (Or.inl rfl) (@pe_fn _ _ _ _ _ _ _ _ _ _ _ F__law_points hr rfl (@pa_cons _ _ _ _ _ (pv 1) (@pa_cons _ _ _ _ _ pe_int pa_nil (by rfl)) (by rfl)) (by decide) (by decide) (by rfl) (by rfl)) (by rfl) (by first   | exact .inl rfl   | exact .inr rfl   | assumption)) (@pss_consC _ _ _ _ _ K _ (@ps_set _ _ 3 _ _ _ _ sc_law.nd rfl (Or.inl rfl) (@pe_fn _ _ _ _ _ _ _ _ _ _ _ F__law_no_point hr rfl (@pa_cons _ _ _ _ _ (pv 1) (@pa_cons _ _ _ _ _ (pv 2) pa_nil (by rfl)) (by rfl)) (by decide) (by decide) (by rfl) (by rfl)) (by rfl) (by first   | exact .inl rfl   | exact .inr rfl   | assumption)) (@pss_consC _ _ _ _ _ K _ (@ps_ifC _ _ _ _ _ _ _ _ K _ _ (@PW.pt _ _ _ (@pw_or _ _ _ _ _ _ _ (@pt_cmpR _ _ _ _ _ _ _ _ op_ne (@pe_fn _ _ _ _ _ _ _ _ _ _ _ F__law_told_of hr rfl (@pa_cons _ _ _ _ _ pe_int (@pa_cons _ _ _ _ _ (pv 2) (@pa_cons _ _ _ _ _ pe_non (@pa_cons _ _ _ _ _ (pv 3) pa_nil (by rfl)) (by rfl)) (by rfl)) (by rfl)) (by decide) (by decide) (by rfl) (by rfl)) pe_str (nomark _)) (@pw_or1 _ _ _ _ (@pt_cmpR _ _ _ _ _ _ _ _ op_ne (@pe_fn _ _ _ _ _ _ _ _ _ _ _ F__law_told_of hr rfl (@pa_cons _ _ _ _ _ pe_int (@pa_cons _ _ _ _ _ (pv 2) (@pa_cons _ _ _ _ _ pe_non (@pa_cons _ _ _ _ _ (pv 3) pa_nil (by rfl)) (by rfl)) (by rfl)) (by rfl)) (by decide) (by decide) (by rfl) (by rfl)) pe_str (nomark _))))) (@pss_one _ _ _ (@ps_ret _ _ _ _ pe_bl)) pss_nil (by rfl) (by rfl)) (@pss_consC _ _ _ _ _ K _ (@ps_setk _ _ _ _ 4 _ _ sc_law.nd rfl (Or.inl rfl) (@pek_ix _ _ _ _ _ _ _ (ixL K) (@pek_lst _ _ _ _ (@pak_cons _ _ _ _ _ (@pek_tup _ _ _ _ _ (@pak_cons _ _ _ _ _ pek_int (@pak_cons _ _ _ _ _ pek_int pak_nil se_c) se_c)) (@pak_cons _ _ _ _ _ (@pek_tup _ _ _ _ _ (@pak_cons _ _ _ _ _ pek_int (@pak_cons _ _ _ _ _ pek_int pak_nil se_c) se_c)) (@pak_cons _ _ _ _ _ (@pek_tup _ _ _ _ _ (@pak_cons _ _ _ _ _ pek_int (@pak_cons _ _ _ _ _ pek_int pak_nil se_c) se_c)) (@pak_cons _ _ _ _ _ (@pek_tup _ _ _ _ _ (@pak_cons _ _ _ _ _ pek_int (@pak_cons _ _ _ _ _ pek_neg pak_nil se_u) se_c)) (@pak_cons _ _ _ _ _ pek_int (@pak_cons _ _ _ _ _ pek_bl (@pak_cons _ _ _ _ _ pek_str (@pak_cons _ _ _ _ _ (@pek_tup _ _ _ _ _ (@pak_cons _ _ _ _ _ pek_int pak_nil se_c)) (@pak_cons _ _ _ _ _ (@pek_lst _ _ _ _ (@pak_cons _ _ _ _ _ pek_int (@pak_cons _ _ _ _ _ pek_int pak_nil se_c) se_c)) (@pak_cons _ _ _ _ _ (@pek_tup _ _ _ _ _ (@pak_cons _ _ _ _ _ pek_bl (@pak_cons _ _ _ _ _ pek_int pak_nil se_c) se_c)) (@pak_cons _ _ _ _ _ (@pek_tup _ _ _ _ _ (@pak_cons _ _ _ _ _ pek_int (@pak_cons _ _ _ _ _ pek_int (@pak_cons _ _ _ _ _ pek_int pak_nil se_c) se_c) se_c)) (@pak_cons _ _ _ _ _ (@pek_tup _ _ _ _ _ pak_nil) pak_nil se_t) se_t) se_t) se_l) se_t) se_c) se_c) se_c) se_t) se_t) se_t) se_t)) (@pek _ _ _ (@pe_fn _ _ _ _ _ _ _ _ _ _ _ F__law_draw hr rfl (@pa_cons _ _ _ _ _ (pv 1) (@pa_cons _ _ _ _ _ pe_int pa_nil (by rfl)) (by rfl)) (by decide) (by decide) (by rfl) (by rfl))) (fun u v => rfl)) (by rfl) (by first   | exact .inl rfl   | exact .inr rfl   | assumption)) (@pss_consC _ _ _ _ _ K _ (@ps_set _ _ 5 _ _ _ _ sc_law.nd rfl (Or.inl rfl) (@pe_ix _ _ _ _ _ _ _ (ixT K) (@pe_ix _ _ _ _ _ _ _ (ixT K) (pv 2) (@pe_fn _ _ _ _ _ _ _ _ _ _ _ F__law_draw hr rfl (@pa_cons _ _ _ _ _ (pv 1) (@pa_cons _ _ _ _ _ (@pe_callB _ _ _ _ _ _ _ _ _ (lenK K) rfl b_len bt_len (@pa_cons _ _ _ _ _ (pv 2) pa_nil (by rfl)) (by decide) (by decide) (by rfl) (by rfl)) pa_nil (by rfl)) (by rfl)) (by decide) (by decide) (by rfl) (by rfl)) (fun u v => rfl)) pe_int (fun u v => rfl)) (by rfl) (by first   | exact .inl rfl   | exact .inr rfl   | assumption)) (@pss_consC _ _ _ _ _ K _ (@ps_ifC _ _ _ _ _ _ _ _ K _ _ (@PW.pt _ _ _ (@pw_or _ _ _ _ _ _ _ (@pt_cmpR _ _ _ _ _ _ _ _ op_ne (@pe_fn _ _ _ _ _ _ _ _ _ _ _ F__law_told_of hr rfl (@pa_cons _ _ _ _ _ pe_int (@pa_cons _ _ _ _ _ (pv 2) (@pa_cons _ _ _ _ _ (pv 5) (@pa_cons _ _ _ _ _ (pv 4) pa_nil (by rfl)) (by rfl)) (by rfl)) (by rfl)) (by decide) (by decide) (by rfl) (by rfl)) pe_str (nomark _)) (@pw_or1 _ _ _ _ (@pt_cmpR _ _ _ _ _ _ _ _ op_ne (@pe_fn _ _ _ _ _ _ _ _ _ _ _ F__law_told_of hr rfl (@pa_cons _ _ _ _ _ pe_int (@pa_cons _ _ _ _ _ (pv 2) (@pa_cons _ _ _ _ _ (pv 5) (@pa_cons _ _ _ _ _ (pv 4) pa_nil (by rfl)) (by rfl)) (by rfl)) (by rfl)) (by decide) (by decide) (by rfl) (by rfl)) pe_str (nomark _))))) (@pss_one _ _ _ (@ps_ret _ _ _ _ pe_bl)) pss_nil (by rfl) (by rfl)) (@pss_consC _ _ _ _ _ K _ (@ps_set _ _ 6 _ _ _ _ sc_law.nd rfl (Or.inl rfl) (@pe_fn _ _ _ _ _ _ _ _ _ _ _ F__law_number hr rfl (@pa_cons _ _ _ _ _ (pv 1) pa_nil (by rfl)) (by decide) (by decide) (by rfl) (by rfl)) (by rfl) (by first   | exact .inl rfl   | exact .inr rfl   | assumption)) (@pss_consC _ _ _ _ _ K _ (@ps_while _ _ _ _ _ _ PassesOwn.never (@pt_cmpR _ _ _ _ _ _ _ _ (inD K hr) (pv 6) (@pe_lc _ (["_law_point"]) 1 ([]) _ _ _ _ _ _ _ _ _ _ rfl (CompOk.look (NX := ["_law_script", "_law_pen_here", "_law_points_here", "_law_bad", "_law_odd", "_law_place", "_law_far", "_law_way", "_law_plain", "_law_only"]) (sc := defScope (top 72)) rfl rfl (by decide +kernel)) (@piT _ K _ _ _ (pv 2) (by rfl)) (fun u1 u2 u3 u4 u5 => (@pg_name _ _ 0 _ (show List.Nodup (["_law_point"] : List Str) from by decide +kernel) rfl (Or.inl rfl) (by first   | exact .inl rfl   | exact .inr rfl   | assumption))) (stays_name (by decide)) (fun u1 u2 u3 u4 u5 => pts_nil) (fun u1 u2 u3 u4 u5 => (@pe_ix _ _ _ _ _ _ _ (ixT K) (pv 0) pe_int (fun u v => rfl))) (by intro _; rfl)) (by with_unfolding_all rfl)) (@pss_one _ _ _ (@ps_set _ _ 6 _ _ _ _ sc_law.nd rfl (Or.inl rfl) (@pe_fn _ _ _ _ _ _ _ _ _ _ _ F__law_plus hr rfl (@pa_cons _ _ _ _ _ (pv 6) (@pa_cons _ _ _ _ _ (@pe_tup _ _ _ _ _ (@pa_cons _ _ _ _ _ pe_int (@pa_cons _ _ _ _ _ pe_int pa_nil (by rfl)) (by rfl))) pa_nil (by rfl)) (by rfl)) (by decide) (by decide) (by rfl) (by rfl)) (by rfl) (by first   | exact .inl rfl   | exact .inr rfl   | assumption)))) (@pss_consC _ _ _ _ _ K _ (@ps_forC _ _ _ _ _ _ _ _ K _ PassesOwn.never rfl (@pi_range2 _ _ _ _ _ _ _ rfl b_range (@pa_cons _ _ _ _ _ pe_int (@pa_cons _ _ _ _ _ pe_int pa_nil (by rfl)) (by rfl)) (by rfl) (by rfl)) (@pg_name _ _ 7 _ sc_law.nd rfl (Or.inl rfl) (by first   | exact .inl rfl   | exact .inr rfl   | assumption)) (@pss_one _ _ _ (@ps_ifC _ _ _ _ _ _ _ _ K _ _ (@pt_cmpR _ _ _ _ _ _ _ _ op_ne (@pe_fn _ _ _ _ _ _ _ _ _ _ _ F__law_told_of hr rfl (@pa_cons _ _ _ _ _ (pv 7) (@pa_cons _ _ _ _ _ (pv 2) (@pa_cons _ _ _ _ _ (pv 6) (@pa_cons _ _ _ _ _ (@pe_ix _ _ _ _ _ _ _ (ixL K) (@pe_lst _ _ _ _ (@pa_cons _ _ _ _ _ pe_non (@pa_cons _ _ _ _ _ pe_non (@pa_cons _ _ _ _ _ (@pe_tup _ _ _ _ _ (@pa_cons _ _ _ _ _ pe_int (@pa_cons _ _ _ _ _ pe_int pa_nil (by rfl)) (by rfl))) (@pa_cons _ _ _ _ _ (@pe_tup _ _ _ _ _ (@pa_cons _ _ _ _ _ pe_int (@pa_cons _ _ _ _ _ pe_int pa_nil (by rfl)) (by rfl))) (@pa_cons _ _ _ _ _ pe_int (@pa_cons _ _ _ _ _ pe_non pa_nil (by rfl)) (by rfl)) (by rfl)) (by rfl)) (by rfl)) (by rfl))) (pv 7) (fun u v => rfl)) pa_nil (by rfl)) (by rfl)) (by rfl)) (by rfl)) (by decide) (by decide) (by rfl) (by rfl)) pe_str (nomark _)) (@pss_one _ _ _ (@ps_ret _ _ _ _ pe_bl)) pss_nil (by rfl) (by rfl))) (by rfl) (by intro _; rfl)) (@pss_consC _ _ _ _ _ K _ (@ps_ifC _ _ _ _ _ _ _ _ K _ _ (@PW.pt _ _ _ (@pw_or _ _ _ _ _ _ _ (@pt_cmpR _ _ _ _ _ _ _ _ op_ne (@pe_fn _ _ _ _ _ _ _ _ _ _ _ F__law_told_of hr rfl (@pa_cons _ _ _ _ _ pe_int (@pa_cons _ _ _ _ _ (pv 2) (@pa_cons _ _ _ _ _ (pv 6) (@pa_cons _ _ _ _ _ (pv 4) pa_nil (by rfl)) (by rfl)) (by rfl)) (by rfl)) (by decide) (by decide) (by rfl) (by rfl)) pe_str (nomark _)) (@pw_or1 _ _ _ _ (@pt_cmpR _ _ _ _ _ _ _ _ op_ne (@pe_fn _ _ _ _ _ _ _ _ _ _ _ F__law_told_of hr rfl (@pa_cons _ _ _ _ _ pe_int (@pa_cons _ _ _ _ _ (pv 2) (@pa_cons _ _ _ _ _ (pv 6) (@pa_cons _ _ _ _ _ (pv 4) pa_nil (by rfl)) (by rfl)) (by rfl)) (by rfl)) (by decide) (by decide) (by rfl) (by rfl)) pe_str (nomark _))))) (@pss_one _ _ _ (@ps_ret _ _ _ _ pe_bl)) pss_nil (by rfl) (by rfl)) (@pss_consC _ _ _ _ _ K _ (@ps_lc _ (["_law_point"]) 1 ([]) _ _ _ _ _ _ _ _ _ _ 8 _ _ _ rfl sc_law.nd rfl rfl (CompOk.look (NX := ["_law_script", "_law_pen_here", "_law_points_here", "_law_bad", "_law_odd", "_law_place", "_law_far", "_law_way", "_law_plain", "_law_only"]) (sc := defScope (top 72)) rfl rfl (by decide +kernel)) (@piT _ K _ _ _ (pv 2) (by rfl)) (fun u1 u2 u3 u4 u5 => (@pg_name _ _ 0 _ (show List.Nodup (["_law_point"] : List Str) from by decide +kernel) rfl (Or.inl rfl) (by first   | exact .inl rfl   | exact .inr rfl   | assumption))) (stays_name (by decide)) (fun u1 u2 u3 u4 u5 => pts_one (@pt_cmpR _ _ _ _ _ _ _ _ op_eq (@pe_callB _ _ _ _ _ _ _ _ _ (lenK K) rfl b_len bt_len (@pa_cons _ _ _ _ _ (pv 0) pa_nil (by rfl)) (by decide) (by decide) (by rfl) (by rfl)) pe_int (nomark _))) (fun u1 u2 u3 u4 u5 => (@pe_ix _ _ _ _ _ _ _ (ixT K) (pv 0) pe_int (fun u v => rfl))) rfl (by intro _; rfl)) (@pss_consC _ _ _ _ _ K _ (@ps_ifC _ _ _ _ _ _ _ _ K _ _ (@PW.pt _ _ _ (@pw_and _ _ _ _ _ _ _ (@pt_cmpR _ _ _ _ _ _ _ _ (neD K hr.units) (pv 8) (@pe_lst _ _ _ _ pa_nil) (nomark _)) (@pw_and1 _ _ _ _ (@pt_cmpR _ _ _ _ _ _ _ _ op_ne (@pe_fn _ _ _ _ _ _ _ _ _ _ _ F__law_told_of hr rfl (@pa_cons _ _ _ _ _ pe_int (@pa_cons _ _ _ _ _ (pv 2) (@pa_cons _ _ _ _ _ (@pe_ix _ _ _ _ _ _ _ (ixL K) (pv 8) pe_int (fun u v => rfl)) (@pa_cons _ _ _ _ _ pe_int pa_nil (by rfl)) (by rfl)) (by rfl)) (by rfl)) (by decide) (by decide) (by rfl) (by rfl)) pe_str (nomark _))))) (@pss_one _ _ _ (@ps_ret _ _ _ _ pe_bl)) pss_nil (by rfl) (by rfl)) (@pss_consC _ _ _ _ _ K _ (@ps_set _ _ 9 _ _ _ _ sc_law.nd rfl (Or.inl rfl) (@pe_slice _ _ _ _ _ _ _ _ _ _ (slTA K) (pv 2) po_none (@po_some _ _ _ pe_int)) (by rfl) (by first   | exact .inl rfl   | exact .inr rfl   | assumption)) (@pss_consC _ _ _ _ _ K _ (@ps_ifC _ _ _ _ _ _ _ _ K _ _ (@PW.pt _ _ _ (@pw_or _ _ _ _ _ _ _ (@pt_cmpR _ _ _ _ _ _ _ _ op_ne (@pe_fn _ _ _ _ _ _ _ _ _ _ _ F__law_told_of hr rfl (@pa_cons _ _ _ _ _ pe_int (@pa_cons _ _ _ _ _ (pv 9) (@pa_cons _ _ _ _ _ (@pe_ix _ _ _ _ _ _ _ (ixT K) (@pe_ix _ _ _ _ _ _ _ (ixT K) (pv 9) pe_int (fun u v => rfl)) pe_int (fun u v => rfl)) (@pa_cons _ _ _ _ _ pe_non pa_nil (by rfl)) (by rfl)) (by rfl)) (by rfl)) (by decide) (by decide) (by rfl) (by rfl)) pe_str (nomark _)) (@pw_or1 _ _ _ _ (@pt_cmpR _ _ _ _ _ _ _ _ op_ne (@pe_fn _ _ _ _ _ _ _ _ _ _ _ F__law_told_of hr rfl (@pa_cons _ _ _ _ _ pe_int (@pa_cons _ _ _ _ _ (pv 9) (@pa_cons _ _ _ _ _ (@pe_ix _ _ _ _ _ _ _ (ixT K) (@pe_ix _ _ _ _ _ _ _ (ixT K) (pv 9) pe_int (fun u v => rfl)) pe_int (fun u v => rfl)) (@pa_cons _ _ _ _ _ pe_non pa_nil (by rfl)) (by rfl)) (by rfl)) (by rfl)) (by decide) (by decide) (by rfl) (by rfl)) pe_str (nomark _))))) (@pss_one _ _ _ (@ps_ret _ _ _ _ pe_bl)) pss_nil (by rfl) (by rfl)) (@pss_one _ _ _ (@ps_ret _ _ _ _ (@pe_fn _ _ _ _ _ _ _ _ _ _ _ F__law_full_right hr rfl (@pa_cons _ _ _ _ _ (pv 1) pa_nil (by rfl)) (by decide) (by decide) (by rfl) (by rfl)))) (by rfl)) (by rfl)) (by rfl)) (by rfl)) (by rfl)) (by rfl)) (by rfl)) (by rfl)) (by rfl)) (by rfl)) (by rfl)) (by rfl)) (by rfl)) (by rfl)) (by rfl)), ?_⟩
  obtain ⟨a, ns, rfl, hS, h63, q⟩ := h
  have P1 : 1 ≤ sizeLine := by decide
  have P2 : 2 ≤ sizeLine := by decide
  have P3 : 3 ≤ sizeLine := by decide
  have P4 : 4 ≤ sizeLine := by decide
  have P0 : 0 ≤ sizeLine := by decide
  have P8 : 8 ≤ sizeLine := by decide
  have P11 : 11 ≤ sizeLine := by decide
  have P12 : 12 ≤ sizeLine := by decide
  have P6 : 6 ≤ sizeLine := by decide
  refine ⟨_, rfl, a, ns, 0, rfl, hS, h63, by decide, by decide, fun p c0 c1 hp => ?_⟩
  have pn : Pen (upd H p (.lst [.int c0, .int c1, .int 0])) p := .put
  generalize upd H p (.lst [.int c0, .int c1, .int 0]) = H1 at pn ⊢
  clear hS hp
  refine ⟨_, rfl, p, 12, rfl, pn, by decide, by decide, fun r H2 xs pss m2 p2 hS hp h23 hb h1 hle htl hnd => ?_⟩
  have hxl := hp.length
  have ok : Pok K H2 r xs pss := ⟨hS, hp, h23, h1, hnd, by lia⟩
  have hge := ok.len
  clear m2 pn hb hS hp h23 hle htl
  refine ⟨_, rfl, _, rfl, p, r, xs, pss, rfl, p2, ok, fun bad H3 m3 p3 hbad => ?_⟩
  have ok3 := ok.mv p2 m3
  refine ⟨_, rfl, _, rfl, 0, r, .non, bad, xs, pss, rfl, ok3, .inl ⟨1, .put hbad.now, fun H4 s4 => ⟨rfl, _, rfl, iteFc (by decide) ?_⟩⟩⟩
  refine ⟨_, rfl, _, rfl, 6, r, .non, bad, xs, pss, rfl, ok3.same s4, .inl ⟨1, .new (hbad.same s4).now, fun H5 s5 => ⟨rfl, _, rfl, iteFc (by decide) ?_⟩⟩⟩
  have ok5 := (ok3.same s4).same s5
  have pk := (p3.sm s4).sm s5
  clear ok ok3 hbad s4 s5 p3 m3 p2
  have hA : ∀ y ∈ ([] : List V), Kp p H5 (fun G => Nb K G y false ∧ y ≠ .non) := fun _ h => nomatch h
  have sT : Same H5 H5 := Same.refl _
  refine ⟨P2, fun A1 e => ?_⟩
  have sN : Same H5 (upd H5 A1 (.tup [.int 2, .int 4])) := Same.new e
  have ne := Pen.ne' pk e
  have h_A1 : Kp p (upd H5 A1 (.tup [.int 2, .int 4])) (fun G => SqT K G A1 [.int 2, .int 4]) := fun _ m => SqT.of (m _ _ ne upd_same)
  have hA := kps_same hA sN
  have sT := sT.trans sN
  have pk := pk.sm sN
  generalize upd H5 A1 (.tup [.int 2, .int 4]) = AH1 at hA h_A1 sT pk ⊢
  clear sN ne e
  have hA := kps_snoc hA (x := .ref A1) (fun G m => ⟨.nums (h_A1 G m) (by decide), fun z => by cases z⟩)
  clear h_A1
  refine ⟨P2, fun A2 e => ?_⟩
  have sN : Same AH1 (upd AH1 A2 (.tup [.int 1, .int 0])) := Same.new e
  have ne := Pen.ne' pk e
  have h_A2 : Kp p (upd AH1 A2 (.tup [.int 1, .int 0])) (fun G => SqT K G A2 [.int 1, .int 0]) := fun _ m => SqT.of (m _ _ ne upd_same)
  have hA := kps_same hA sN
  have sT := sT.trans sN
  have pk := pk.sm sN
  generalize upd AH1 A2 (.tup [.int 1, .int 0]) = AH2 at hA h_A2 sT pk ⊢
  clear sN ne e
  have hA := kps_snoc hA (x := .ref A2) (fun G m => ⟨.nums (h_A2 G m) (by decide), fun z => by cases z⟩)
  clear h_A2
  refine ⟨P2, fun A3 e => ?_⟩
  have sN : Same AH2 (upd AH2 A3 (.tup [.int 0, .int 2])) := Same.new e
  have ne := Pen.ne' pk e
  have h_A3 : Kp p (upd AH2 A3 (.tup [.int 0, .int 2])) (fun G => SqT K G A3 [.int 0, .int 2]) := fun _ m => SqT.of (m _ _ ne upd_same)
  have hA := kps_same hA sN
  have sT := sT.trans sN
  have pk := pk.sm sN
  generalize upd AH2 A3 (.tup [.int 0, .int 2]) = AH3 at hA h_A3 sT pk ⊢
  clear sN ne e
  have hA := kps_snoc hA (x := .ref A3) (fun G m => ⟨.nums (h_A3 G m) (by decide), fun z => by cases z⟩)
  clear h_A3
  refine ⟨_, rfl, P2, fun A4 e => ?_⟩
  have sN : Same AH3 (upd AH3 A4 (.tup [.int 1, .int (-1)])) := Same.new e
  have ne := Pen.ne' pk e
  have h_A4 : Kp p (upd AH3 A4 (.tup [.int 1, .int (-1)])) (fun G => SqT K G A4 [.int 1, .int (-1)]) := fun _ m => SqT.of (m _ _ ne upd_same)
  have hA := kps_same hA sN
  have sT := sT.trans sN
  have pk := pk.sm sN
  generalize upd AH3 A4 (.tup [.int 1, .int (-1)]) = AH4 at hA h_A4 sT pk ⊢
  clear sN ne e
  have hA := kps_snoc hA (x := .ref A4) (fun G m => ⟨.nums (h_A4 G m) (by decide), fun z => by cases z⟩)
  clear h_A4
  have hA := kps_snoc hA (x := .int 1) (fun G m => ⟨.no (.of (.int 1)) (kit_it K), fun z => by cases z⟩)
  have hA := kps_snoc hA (x := .bl false) (fun G m => ⟨.no (.of (.bl false)) (kit_bt K), fun z => by cases z⟩)
  have hA := kps_snoc hA (x := .str "1") (fun G m => ⟨.no (.of (.str "1")) (kit_st K), fun z => by cases z⟩)
  refine ⟨P1, fun A5 e => ?_⟩
  have sN : Same AH4 (upd AH4 A5 (.tup [.int 1])) := Same.new e
  have ne := Pen.ne' pk e
  have h_A5 : Kp p (upd AH4 A5 (.tup [.int 1])) (fun G => SqT K G A5 [.int 1]) := fun _ m => SqT.of (m _ _ ne upd_same)
  have hA := kps_same hA sN
  have sT := sT.trans sN
  have pk := pk.sm sN
  generalize upd AH4 A5 (.tup [.int 1]) = AH5 at hA h_A5 sT pk ⊢
  clear sN ne e
  have hA := kps_snoc hA (x := .ref A5) (fun G m => ⟨.len (h_A5 G m) (show 1 ≠ 2 by decide), fun z => by cases z⟩)
  clear h_A5
  refine ⟨P2, fun A6 e => ?_⟩
  have sN : Same AH5 (upd AH5 A6 (.lst [.int 1, .int 1])) := Same.new e
  have ne := Pen.ne' pk e
  have h_A6 : Kp p (upd AH5 A6 (.lst [.int 1, .int 1])) (fun G => SqL K G A6 [.int 1, .int 1]) := fun _ m => SqL.of (m _ _ ne upd_same)
  have hA := kps_same hA sN
  have sT := sT.trans sN
  have pk := pk.sm sN
  generalize upd AH5 A6 (.lst [.int 1, .int 1]) = AH6 at hA h_A6 sT pk ⊢
  clear sN ne e
  have hA := kps_snoc hA (x := .ref A6) (fun G m => ⟨.no (.lst (h_A6 G m)) (kit_lt K), fun z => by cases z⟩)
  clear h_A6
  refine ⟨P2, fun A7 e => ?_⟩
  have sN : Same AH6 (upd AH6 A7 (.tup [.bl true, .int 1])) := Same.new e
  have ne := Pen.ne' pk e
  have h_A7 : Kp p (upd AH6 A7 (.tup [.bl true, .int 1])) (fun G => SqT K G A7 [.bl true, .int 1]) := fun _ m => SqT.of (m _ _ ne upd_same)
  have hA := kps_same hA sN
  have sT := sT.trans sN
  have pk := pk.sm sN
  generalize upd AH6 A7 (.tup [.bl true, .int 1]) = AH7 at hA h_A7 sT pk ⊢
  clear sN ne e
  have hA := kps_snoc hA (x := .ref A7) (fun G m => ⟨.one (h_A7 G m) (.bl true), fun z => by cases z⟩)
  clear h_A7
  refine ⟨P3, fun A8 e => ?_⟩
  have sN : Same AH7 (upd AH7 A8 (.tup [.int 1, .int 1, .int 1])) := Same.new e
  have ne := Pen.ne' pk e
  have h_A8 : Kp p (upd AH7 A8 (.tup [.int 1, .int 1, .int 1])) (fun G => SqT K G A8 [.int 1, .int 1, .int 1]) := fun _ m => SqT.of (m _ _ ne upd_same)
  have hA := kps_same hA sN
  have sT := sT.trans sN
  have pk := pk.sm sN
  generalize upd AH7 A8 (.tup [.int 1, .int 1, .int 1]) = AH8 at hA h_A8 sT pk ⊢
  clear sN ne e
  have hA := kps_snoc hA (x := .ref A8) (fun G m => ⟨.len (h_A8 G m) (show 3 ≠ 2 by decide), fun z => by cases z⟩)
  clear h_A8
  refine ⟨P0, fun A9 e => ?_⟩
  have sN : Same AH8 (upd AH8 A9 (.tup [])) := Same.new e
  have ne := Pen.ne' pk e
  have h_A9 : Kp p (upd AH8 A9 (.tup [])) (fun G => SqT K G A9 []) := fun _ m => SqT.of (m _ _ ne upd_same)
  have hA := kps_same hA sN
  have sT := sT.trans sN
  have pk := pk.sm sN
  generalize upd AH8 A9 (.tup []) = AH9 at hA h_A9 sT pk ⊢
  clear sN ne e
  have hA := kps_snoc hA (x := .ref A9) (fun G m => ⟨.len (xs := []) (h_A9 G m) (show 0 ≠ 2 by decide), fun z => by cases z⟩)
  clear h_A9
  refine ⟨P12, fun A10 e => ?_⟩
  have sN : Same AH9 (upd AH9 A10 (.lst [.ref A1, .ref A2, .ref A3, .ref A4, .int 1, .bl false, .str "1", .ref A5, .ref A6, .ref A7, .ref A8, .ref A9])) := Same.new e
  have ne := Pen.ne' pk e
  have h_A10 : Kp p (upd AH9 A10 (.lst [.ref A1, .ref A2, .ref A3, .ref A4, .int 1, .bl false, .str "1", .ref A5, .ref A6, .ref A7, .ref A8, .ref A9])) (fun G => SqL K G A10 [.ref A1, .ref A2, .ref A3, .ref A4, .int 1, .bl false, .str "1", .ref A5, .ref A6, .ref A7, .ref A8, .ref A9]) := fun _ m => SqL.of (m _ _ ne upd_same)
  have ex : (upd AH9 A10 (.lst [.ref A1, .ref A2, .ref A3, .ref A4, .int 1, .bl false, .str "1", .ref A5, .ref A6, .ref A7, .ref A8, .ref A9])) A10 = some (.lst [.ref A1, .ref A2, .ref A3, .ref A4, .int 1, .bl false, .str "1", .ref A5, .ref A6, .ref A7, .ref A8, .ref A9]) := upd_same
  have hA := kps_same hA sN
  have sT := sT.trans sN
  have pk := pk.sm sN
  generalize upd AH9 A10 (.lst [.ref A1, .ref A2, .ref A3, .ref A4, .int 1, .bl false, .str "1", .ref A5, .ref A6, .ref A7, .ref A8, .ref A9]) = AH10 at hA h_A10 sT pk ex ⊢
  clear sN e
  refine ⟨_, rfl, p, 12, rfl, pk, by decide, by decide, fun i H6 i0 i1 o6 p6 => ?_⟩
  obtain ⟨od, hod, hodm⟩ := (at_menuK (n := 12) hA rfl i0 i1)
  refine ⟨_, _, _, od, rfl, rfl, SqL.of ((OnlyAt.mv o6) _ _ ne ex), hod, ?_⟩
  have hod := (hA od hodm).mv (OnlyAt.mv o6)
  have ok6 := (ok5.same sT).mv pk (OnlyAt.mv o6)
  clear hA sT ex ne o6 hodm ok5 pk
  refine ⟨_, rfl, _, rfl, _, rfl, r, xs, rfl, .inr ok6.S, p, _, rfl, p6, by lia, by lia, fun a' H7 a0 a1 o7 p7 => ?_⟩
  have ok7 := ok6.mv p6 (OnlyAt.mv o7)
  have hod := hod.mv (OnlyAt.mv o7)
  obtain ⟨A, rfl⟩ : ∃ A : Nat, (A : Int) = a' := ⟨a'.toNat, by lia⟩
  have hA0 : A < xs.length := by lia
  have hx : xs[A]? = some xs[A] := List.getElem?_eq_getElem hA0
  obtain ⟨ps, hps, b, us, pp, hb, hus, hun, hu0, hpp⟩ := (Paired.get ok7.P hx)
  rw [hb] at hx
  have hmem : ps.getD 0 0 ∈ pss.map fun ps => ps.getD 0 0 := List.mem_map_of_mem (f := fun ps : List Rat => ps.getD 0 0) (List.mem_of_getElem? hps)
  refine ⟨r, xs, _, _, rfl, rfl, ok7.S, atI_nat hx, b, us, _, _, rfl, rfl, hus, atI_nat (j := 0) hu0, ?_⟩
  clear hx hb hus hun hu0 hps ok6 p6 o7 a0 a1
  refine ⟨_, rfl, _, rfl, _, rfl, 2, r, .ref pp, od, xs, pss, rfl, ok7, .inl ⟨1, .hgt ⟨pp, rfl, hpp⟩ (.inr ⟨rfl, hmem, hod.now.1⟩), fun H8 s8 => ⟨rfl, _, rfl, iteFc (by decide) ?_⟩⟩⟩
  refine ⟨_, rfl, _, rfl, _, rfl, 3, r, .ref pp, od, xs, pss, rfl, ok7.same s8, .inl ⟨1, .slo ⟨pp, rfl, s8 _ _ hpp⟩ (.odd hmem (hod.same s8).now.1 (hod.same s8).now.2), fun H9 s9 => ⟨rfl, _, rfl, iteFc (by decide) ?_⟩⟩⟩
  have ok9 := (ok7.same s8).same s9
  have hod := (hod.same s8).same s9
  have p9 := (p7.sm s8).sm s9
  clear ok7 s8 s9 p7 hpp hmem
  refine ⟨_, rfl, p, rfl, p9, fun x0 rx H10 m10 p10 hrx bn bd => ?_⟩
  have ok10 := ok9.mv p9 m10
  have hod := hod.mv m10
  clear ok9 p9 m10
  refine ⟨fun μ σ H6 => Same H10 H6 ∧ ∃ (rx : Addr) (x : Rat) (j : Nat), σ = [some (.ref a), some (.ref p), some (.ref r), some bad, some od, some (.ref pp), some (.ref rx), none, none, none] ∧ H6 rx = some (nT x) ∧ x = x0 + (j : Rat) ∧ μ = cnt x (pss.map fun ps => ps.getD 0 0) ∧ j + cnt x (pss.map fun ps => ps.getD 0 0) ≤ pss.length,
      ⟨_, Same.refl _, rx, x0, 0, rfl, hrx, (by have z : ((0 : Nat) : Rat) = 0 := rfl; rw [z]; grind), rfl, by have := cnt_le x0 (pss.map fun ps => ps.getD 0 0); rw [List.length_map] at this; lia⟩, ?_⟩
  rintro μ σ H6 hR1
  refine anE2 hR1 fun s6 hz48 => ?_
  refine exE3 hz48 fun rx x j hz48' => ?_
  clear hz48
  refine anE5 hz48' fun hq46 hrx hx hq47 hj => ?_
  clear hz48'
  obtain rfl := hq46
  obtain rfl := hq47
  try clear hR1
  have hxb : RB (40 + 8) x := by
    rw [hx]
    exact (RB.plus ⟨bn, bd⟩ (rb_nat (j := j) (by lia))).mono (by lia)
  have ok6 := ok10.same s6
  refine ⟨_, rfl, ?_⟩
  refine lc_of ⟨_, rfl, r, rfl, ⟨_, ok6.S⟩, ?_⟩
  refine lc_tup (xs := xs) (L2 H6 pss fun H6 pss i ys H' => H' = H6 ∧ NumsT H6 ys ((pss.take i).map fun ps => ps.getD 0 0)) ⟨rfl, .nil⟩ (fun i ys H' hi h => ⟨by rw [h.1]; exact ok6.S, by rw [h.2.length, List.length_map, List.length_take]; lia⟩) (Nat.le_of_lt (small1000 (by lia))) ?_ ?_
  · rintro i u ys H' hu ⟨rfl, hys⟩
    obtain ⟨ps, hps, b, us, pp, rfl, hus, hun, hu0, hpp⟩ := (Paired.get ok6.P hu)
    refine ⟨_, rfl, b, us, _, _, rfl, rfl, hus, atI_nat (j := 0) hu0, rfl, ?_⟩
    rw [List.take_add_one, hps, List.map_append]
    exact Paired.snoc hys ⟨pp, rfl, hpp⟩
  rintro ys Hq ⟨hq, hys⟩ l hl
  obtain rfl : H6 = Hq := hq.symm
  rw [hxl, List.take_length] at hys
  have s7 : Same H6 (upd H6 l (.lst ys)) := Same.new hl
  refine inN (NumV.of (s7 _ _ hrx)) (SqL.of upd_same) (NumsT.same hys s7).nums ?_
  have s57 := s6.trans s7
  have hrx7 := s7 _ _ hrx
  generalize upd H6 l (.lst ys) = H7 at s57 s7 hrx7 ⊢
  refine ⟨_, rfl, ?_⟩
  by_cases hin : x ∈ pss.map fun ps => ps.getD 0 0
  · refine iteTc (decide_eq_true hin) ⟨_, fun _ _ h => h, ?_⟩
    refine ⟨_, rfl, P2, fun t ht => ⟨_, _, _, _, 40 + 8, 1, rfl, NumV.of ((Same.new ht) _ _ hrx7), NumV.of (upd_same (o := nT 1)), hxb, RB.one (by decide), by lia, fun u hu => ?_⟩⟩
    refine ⟨_, cnt_lt hin, (s57.trans (Same.new ht)).trans (Same.new hu), u, x + 1, j + 1, rfl, upd_same, ?_, rfl, by have := cnt_lt hin; lia⟩
    rw [hx, Rat.natCast_add]
    have z : ((1 : Nat) : Rat) = 1 := rfl
    rw [z]; grind
  refine iteFc (decide_eq_false hin) ?_
  have okF := ok10.same s57
  have hod := hod.same s57
  have pF := p10.sm s57
  clear ok10 ok6 s57 s7 s6 hys hl hrx hj hx hxb p10 bn bd
  refine ⟨1, 6, rfl, by decide, for_range (n := 5) (L8 H7 a p r bad od pp rx fun H7 a p r bad od pp rx _ σ G => Same H7 G ∧ ∃ z, σ = [some (.ref a), some (.ref p), some (.ref r), some bad, some od, some (.ref pp), some (.ref rx), z, none, none]) ⟨Same.refl _, none, rfl⟩ ?_ ?_⟩
  · rintro i σ G hi ⟨sg, z, rfl⟩
    refine ⟨_, rfl, _, rfl, _, rfl, P2, fun t1 e1 => ⟨P2, fun t2 e2 => ⟨P6, fun l e3 => ?_⟩⟩⟩
    have u1 := Same.new (o := .tup [.int 1, .int 2]) e1
    have u2 := Same.new (o := .tup [.int 1, .int 1]) e2
    have u3 := Same.new (o := .lst [.non, .non, .ref t1, .ref t2, .int 0, .non]) e3
    have s3 := ((sg.trans u1).trans u2).trans u3
    have hx3 : NumT _ (.ref rx) x := ⟨rx, rfl, s3 _ _ hrx7⟩
    have key : ∃ v, atI [V.non, .non, .ref t1, .ref t2, .int 0, .non] (1 + (i : Int)) = some v ∧ Rf K (upd (upd (upd G t1 (.tup [.int 1, .int 2])) t2 (.tup [.int 1, .int 1])) l (.lst [.non, .non, .ref t1, .ref t2, .int 0, .non])) pss (1 + (i : Int)) (.ref rx) v 2 := by
      rcases (show i = 0 ∨ i = 1 ∨ i = 2 ∨ i = 3 ∨ i = 4 by lia) with rfl | rfl | rfl | rfl | rfl
      · exact ⟨_, rfl, .out hx3 (.inl ⟨rfl, hin⟩)⟩
      · exact ⟨_, rfl, .hgt hx3 (.inl ⟨rfl, hin⟩)⟩
      · exact ⟨_, rfl, .slo hx3 (.far hin)⟩
      · exact ⟨_, rfl, .gain hx3 (no_told hin)⟩
      · exact ⟨_, rfl, .loss hx3 (.inl ⟨rfl, hin⟩)⟩
    obtain ⟨v, hat, hrf⟩ := key
    exact ⟨_, rfl, l, _, _, v, rfl, rfl, SqL.of upd_same, hat, 1 + (i : Int), r, .ref rx, v, xs, pss, rfl, okF.same s3, .inl ⟨2, hrf, fun G2 s => ⟨rfl, _, rfl, iteFc (by decide) ⟨s3.trans s, _, rfl⟩⟩⟩⟩
  rintro σ G ⟨sg, z, rfl⟩
  have ok12 := okF.same sg
  have hod := hod.same sg
  have p12 := pF.sm sg
  have hrx := sg _ _ hrx7
  clear okF sg pF hrx7
  refine ⟨_, rfl, _, rfl, _, rfl, 2, r, .ref rx, od, xs, pss, rfl, ok12, .inl ⟨2, .hgt ⟨rx, rfl, hrx⟩ (.inl ⟨rfl, hin⟩), fun H13 s13 => ⟨rfl, _, rfl, iteFc (by decide) ?_⟩⟩⟩
  refine ⟨_, rfl, _, rfl, _, rfl, 3, r, .ref rx, od, xs, pss, rfl, ok12.same s13, .inl ⟨2, .slo ⟨rx, rfl, s13 _ _ hrx⟩ (.far hin), fun H14 s14 => ⟨rfl, _, rfl, iteFc (by decide) ?_⟩⟩⟩
  have ok14 := (ok12.same s13).same s14
  have p14 := (p12.sm s13).sm s14
  clear ok12 s13 s14 p12 hod hrx
  refine lc_of ⟨_, rfl, r, rfl, ⟨_, ok14.S⟩, ?_⟩
  refine lc_filtT (xs := xs) (fun i zs G => G = H14 ∧ zs.length ≤ i ∧ ∃ qs, NumsT H14 zs qs ∧ ∀ c ∈ qs, ∃ ps ∈ pss, ps.length = 2 ∧ ps.getD 0 0 = c) ⟨rfl, Nat.le_refl _, [], .nil, (fun _ h => nomatch h)⟩ (fun i zs G _ h => ⟨by rw [h.1]; exact ok14.S, h.2.1⟩) (Nat.le_of_lt (small1000 (by lia))) ?_ ?_
  · rintro i u zs G hu hR2
    refine anE3 hR2 fun hq51 hzl hz52 => ?_
    refine exE1 hz52 fun qs hz52' => ?_
    clear hz52
    refine anE2 hz52' fun hqs hq2 => ?_
    clear hz52'
    obtain rfl := hq51
    try clear hR2
    obtain ⟨ps, hps, b, us, pp, rfl, hus, hun, hu0, hpp⟩ := (Paired.get ok14.P hu)
    have hul := hun.length
    refine ⟨_, rfl, b, us, rfl, .inr hus, rfl, _, rfl, ?_⟩
    by_cases h2 : us.length = 2
    · refine iteTc (decide_eq_true (by rw [h2]; rfl)) ⟨_, rfl, b, us, _, _, rfl, rfl, hus, atI_nat (j := 0) hu0, rfl, by rw [List.length_append, List.length_singleton]; lia, qs ++ [ps.getD 0 0], Paired.snoc hqs ⟨pp, rfl, hpp⟩, fun c hc => ?_⟩
      rcases List.mem_append.mp hc with z | z
      · exact hq2 c z
      · exact ⟨ps, List.mem_of_getElem? hps, by lia, (List.mem_singleton.mp z).symm⟩
    · exact iteFc (decide_eq_false fun z => h2 (by have := V.int.inj z; lia)) ⟨rfl, by lia, qs, hqs, hq2⟩
  rintro zs Gq hR3 pl hpl
  refine anE3 hR3 fun hq hzl hz55 => ?_
  refine exE1 hz55 fun qs hz55' => ?_
  clear hz55
  refine anE2 hz55' fun hqs hq2 => ?_
  clear hz55'
  try clear hR3
  obtain rfl : H14 = Gq := hq.symm
  have n1 := Same.new (o := .lst zs) hpl
  have epl := upd_same (H := H14) (a := pl) (o := .lst zs)
  have ok15 := ok14.same n1
  have hqs := NumsT.same hqs n1
  have p15 := p14.sm n1
  generalize upd H14 pl (.lst zs) = H15 at epl ok15 hqs p15 ⊢
  clear n1 ok14 p14 hpl
  refine ⟨_, rfl, P0, fun e0 he0 => ?_⟩
  have n1 := Same.new (o := .lst []) he0
  refine eqL (SqL.of (n1 _ _ epl)) (NumsT.same hqs n1).nums (SqL.of upd_same) .nil ?_
  have ok16 := ok15.same n1
  have p16 := p15.sm n1
  have hqs := NumsT.same hqs n1
  have epl := n1 _ _ epl
  generalize upd H15 e0 (.lst []) = H16 at ok16 p16 hqs epl ⊢
  clear n1 ok15 p15 he0
  refine ⟨_, rfl, ?_⟩
  cases hqs with
  | nil =>
    refine iteFc (by decide) (iteFc (by decide) ?_)
    refine ⟨_, rfl, _, rfl, slice_to (v := 1) ok16.S (by have := ok16.P.length; lia) fun ol H15 s15 hol => ?_⟩
    have ok1 := (ok16.same s15).cut hol
    have h10 : (pss.take 1)[0]? = some pss[0] := by rw [List.getElem?_take, if_pos (by decide), List.getElem?_eq_getElem]
    obtain ⟨v0, hv0, b0, us0, pp0, rfl, hus0, hun0, hu00, hpp0⟩ := (Paired.get' ok1.P h10)
    have hin1 : pss[0].getD 0 0 ∈ (pss.take 1).map fun ps => ps.getD 0 0 := List.mem_map_of_mem (f := fun ps : List Rat => ps.getD 0 0) (List.mem_of_getElem? h10)
    have hl1 : (pss.take 1).length = 1 := by rw [List.length_take]; lia
    refine ⟨_, rfl, _, rfl, ol, _, _, _, rfl, rfl, hol, atI_nat (j := 0) hv0, b0, us0, _, _, rfl, rfl, hus0, atI_nat (j := 0) hu00, ?_⟩
    refine ⟨1, ol, .ref pp0, .non, _, _, rfl, ok1, .inl ⟨1, .out ⟨pp0, rfl, hpp0⟩ (.inr ⟨rfl, hl1, hin1⟩), fun H16 s16 => ⟨rfl, _, rfl, iteFc (by decide) ?_⟩⟩⟩
    refine ⟨_, rfl, _, rfl, ol, _, _, _, rfl, rfl, hol.same s16, atI_nat (j := 0) hv0, b0, us0, _, _, rfl, rfl, hus0.same s16, atI_nat (j := 0) hu00, ?_⟩
    refine ⟨5, ol, .ref pp0, .non, _, _, rfl, ok1.same s16, .inl ⟨1, .loss ⟨pp0, rfl, s16 _ _ hpp0⟩ (.inr ⟨rfl, hl1, hin1⟩), fun H17 s17 => ⟨rfl, _, rfl, iteFc (by decide) ?_⟩⟩⟩
    exact ⟨_, rfl, p, rfl, ((p16.sm s15).sm s16).sm s17, fun H' => q H'⟩
  | @cons z c zr qr hz hr =>
    obtain ⟨pz, rfl, hpz⟩ := hz
    refine exE1 (hq2 c (List.mem_cons_self ..)) fun ps hz59' => ?_
    refine anE3 hz59' fun hps hps2 hq58 => ?_
    clear hz59'
    obtain rfl := hq58
    refine iteTc (by rw [decide_eq_false (fun e => by cases e)]; rfl) ?_
    refine ⟨_, rfl, _, rfl, pl, _, _, _, rfl, rfl, SqL.of epl, atI_nat (j := 0) rfl, ?_⟩
    refine ⟨4, r, .ref pz, .int 1, xs, pss, rfl, ok16, .inl ⟨2, .gain ⟨pz, rfl, hpz⟩ (no_slope hnd hps hps2), fun H18 s18 => ⟨rfl, _, rfl, iteFc (by decide) ?_⟩⟩⟩
    have ok17 := ok16.same s18
    have p17 := p16.sm s18
    refine ⟨_, rfl, _, rfl, slice_to (v := 1) ok17.S (by have := ok17.P.length; lia) fun ol H15 s15 hol => ?_⟩
    have ok1 := (ok17.same s15).cut hol
    have h10 : (pss.take 1)[0]? = some pss[0] := by rw [List.getElem?_take, if_pos (by decide), List.getElem?_eq_getElem]
    obtain ⟨v0, hv0, b0, us0, pp0, rfl, hus0, hun0, hu00, hpp0⟩ := (Paired.get' ok1.P h10)
    have hin1 : pss[0].getD 0 0 ∈ (pss.take 1).map fun ps => ps.getD 0 0 := List.mem_map_of_mem (f := fun ps : List Rat => ps.getD 0 0) (List.mem_of_getElem? h10)
    have hl1 : (pss.take 1).length = 1 := by rw [List.length_take]; lia
    refine ⟨_, rfl, _, rfl, ol, _, _, _, rfl, rfl, hol, atI_nat (j := 0) hv0, b0, us0, _, _, rfl, rfl, hus0, atI_nat (j := 0) hu00, ?_⟩
    refine ⟨1, ol, .ref pp0, .non, _, _, rfl, ok1, .inl ⟨1, .out ⟨pp0, rfl, hpp0⟩ (.inr ⟨rfl, hl1, hin1⟩), fun H16 s16 => ⟨rfl, _, rfl, iteFc (by decide) ?_⟩⟩⟩
    refine ⟨_, rfl, _, rfl, ol, _, _, _, rfl, rfl, hol.same s16, atI_nat (j := 0) hv0, b0, us0, _, _, rfl, rfl, hus0.same s16, atI_nat (j := 0) hu00, ?_⟩
    refine ⟨5, ol, .ref pp0, .non, _, _, rfl, ok1.same s16, .inl ⟨1, .loss ⟨pp0, rfl, s16 _ _ hpp0⟩ (.inr ⟨rfl, hl1, hin1⟩), fun H17 s17 => ⟨rfl, _, rfl, iteFc (by decide) ?_⟩⟩⟩
    exact ⟨_, rfl, p, rfl, ((p17.sm s15).sm s16).sm s17, fun H' => q H'⟩
end
set_option maxHeartbeats 4000000 in
theorem all_mk {l : PySem.W.OpenLaw} {w : World} {K : PySem.W.Frag} {h : Heap} {mg : Str → Option Value} {fa f1 f2 f3 f4 f5 f6 f7 f8 f9 f10 f11 f12 f13 f14 f15 f16 f17 f18 f19 f20 f21 f22 f23 f24 f25 f26 f27 f28 f29 f30 f31 f32 f33 f34 f35 : Addr} (hT : l.prog.given.tree = none) (X : K.In h) (G : h.Ns mainGlobals mg) (hfa : mg "law" = some (.ref fa))
    {od1 an1 od2 an2 od3 an3 od4 an4 od5 an5 od6 an6 od7 an7 od8 an8 od9 an9 od10 an10 od11 an11 od12 an12 od13 an13 od14 an14 od15 an15 od16 an16 od17 an17 od18 an18 od19 an19 od20 an20 od21 an21 od22 an22 od23 an23 od24 an24 od25 an25 od26 an26 od27 an27 od28 an28 od29 an29 od30 an30 od31 an31 od32 an32 od33 an33 od34 an34 od35 an35 : Option Addr} {sl1 sl2 sl3 sl4 sl5 sl6 sl7 sl8 sl9 sl10 sl11 sl12 sl13 sl14 sl15 sl16 sl17 sl18 sl19 sl20 sl21 sl22 sl23 sl24 sl25 sl26 sl27 sl28 sl29 sl30 sl31 sl32 sl33 sl34 sl35 : Array (Option Value)} {oc1 kV1 dc1 pm1 cd1 ct1 oc2 kV2 dc2 pm2 cd2 ct2 oc3 kV3 dc3 pm3 cd3 ct3 oc4 kV4 dc4 pm4 cd4 ct4 oc5 kV5 dc5 pm5 cd5 ct5 oc6 kV6 dc6 pm6 cd6 ct6 oc7 kV7 dc7 pm7 cd7 ct7 oc8 kV8 dc8 pm8 cd8 ct8 oc9 kV9 dc9 pm9 cd9 ct9 oc10 kV10 dc10 pm10 cd10 ct10 oc11 kV11 dc11 pm11 cd11 ct11 oc12 kV12 dc12 pm12 cd12 ct12 oc13 kV13 dc13 pm13 cd13 ct13 oc14 kV14 dc14 pm14 cd14 ct14 oc15 kV15 dc15 pm15 cd15 ct15 oc16 kV16 dc16 pm16 cd16 ct16 oc17 kV17 dc17 pm17 cd17 ct17 oc18 kV18 dc18 pm18 cd18 ct18 oc19 kV19 dc19 pm19 cd19 ct19 oc20 kV20 dc20 pm20 cd20 ct20 oc21 kV21 dc21 pm21 cd21 ct21 oc22 kV22 dc22 pm22 cd22 ct22 oc23 kV23 dc23 pm23 cd23 ct23 oc24 kV24 dc24 pm24 cd24 ct24 oc25 kV25 dc25 pm25 cd25 ct25 oc26 kV26 dc26 pm26 cd26 ct26 oc27 kV27 dc27 pm27 cd27 ct27 oc28 kV28 dc28 pm28 cd28 ct28 oc29 kV29 dc29 pm29 cd29 ct29 oc30 kV30 dc30 pm30 cd30 ct30 oc31 kV31 dc31 pm31 cd31 ct31 oc32 kV32 dc32 pm32 cd32 ct32 oc33 kV33 dc33 pm33 cd33 ct33 oc34 kV34 dc34 pm34 cd34 ct34 oc35 kV35 dc35 pm35 cd35 ct35 : Value}
    (a1 : PySem.W.nsIn K mainGlobals "_law_pen" = some (some (.ref f1))) (l1 : K.lookup f1 = some ⟨oc1, od1, .func (PySem.W.fnOf "_law_pen" "_law_pen" (defArgs (top 59)) (defBody (top 59)) (defScope (top 59)) .none kV1 dc1 pm1 an1 cd1 ct1), sl1⟩) (c1 : PySem.W.codeIn K cd1 "_law_pen" = true) (k1 : PySem.W.keepIn K (.ref f1) = true)
    (a2 : PySem.W.nsIn K mainGlobals "_law_draw" = some (some (.ref f2))) (l2 : K.lookup f2 = some ⟨oc2, od2, .func (PySem.W.fnOf "_law_draw" "_law_draw" (defArgs (top 60)) (defBody (top 60)) (defScope (top 60)) .none kV2 dc2 pm2 an2 cd2 ct2), sl2⟩) (c2 : PySem.W.codeIn K cd2 "_law_draw" = true) (k2 : PySem.W.keepIn K (.ref f2) = true)
    (a3 : PySem.W.nsIn K mainGlobals "_law_lowest" = some (some (.ref f3))) (l3 : K.lookup f3 = some ⟨oc3, od3, .func (PySem.W.fnOf "_law_lowest" "_law_lowest" (defArgs (top 61)) (defBody (top 61)) (defScope (top 61)) .none kV3 dc3 pm3 an3 cd3 ct3), sl3⟩) (c3 : PySem.W.codeIn K cd3 "_law_lowest" = true) (k3 : PySem.W.keepIn K (.ref f3) = true)
    (a4 : PySem.W.nsIn K mainGlobals "_law_number" = some (some (.ref f4))) (l4 : K.lookup f4 = some ⟨oc4, od4, .func (PySem.W.fnOf "_law_number" "_law_number" (defArgs (top 63)) (defBody (top 63)) (defScope (top 63)) .none kV4 dc4 pm4 an4 cd4 ct4), sl4⟩) (c4 : PySem.W.codeIn K cd4 "_law_number" = true) (k4 : PySem.W.keepIn K (.ref f4) = true)
    (a5 : PySem.W.nsIn K mainGlobals "_law_plus" = some (some (.ref f5))) (l5 : K.lookup f5 = some ⟨oc5, od5, .func (PySem.W.fnOf "_law_plus" "_law_plus" (defArgs (top 62)) (defBody (top 62)) (defScope (top 62)) .none kV5 dc5 pm5 an5 cd5 ct5), sl5⟩) (c5 : PySem.W.codeIn K cd5 "_law_plus" = true) (k5 : PySem.W.keepIn K (.ref f5) = true)
    (a6 : PySem.W.nsIn K mainGlobals "_law_places" = some (some (.ref f6))) (l6 : K.lookup f6 = some ⟨oc6, od6, .func (PySem.W.fnOf "_law_places" "_law_places" (defArgs (top 64)) (defBody (top 64)) (defScope (top 64)) .none kV6 dc6 pm6 an6 cd6 ct6), sl6⟩) (c6 : PySem.W.codeIn K cd6 "_law_places" = true) (k6 : PySem.W.keepIn K (.ref f6) = true)
    (a7 : PySem.W.nsIn K mainGlobals "_law_points" = some (some (.ref f7))) (l7 : K.lookup f7 = some ⟨oc7, od7, .func (PySem.W.fnOf "_law_points" "_law_points" (defArgs (top 65)) (defBody (top 65)) (defScope (top 65)) .none kV7 dc7 pm7 an7 cd7 ct7), sl7⟩) (c7 : PySem.W.codeIn K cd7 "_law_points" = true) (k7 : PySem.W.keepIn K (.ref f7) = true)
    (a8 : PySem.W.nsIn K mainGlobals "_law_no_point" = some (some (.ref f8))) (l8 : K.lookup f8 = some ⟨oc8, od8, .func (PySem.W.fnOf "_law_no_point" "_law_no_point" (defArgs (top 69)) (defBody (top 69)) (defScope (top 69)) .none kV8 dc8 pm8 an8 cd8 ct8), sl8⟩) (c8 : PySem.W.codeIn K cd8 "_law_no_point" = true) (k8 : PySem.W.keepIn K (.ref f8) = true)
    (a9 : PySem.W.nsIn K mainGlobals "_law_filled" = some (some (.ref f9))) (l9 : K.lookup f9 = some ⟨oc9, od9, .func (PySem.W.fnOf "_law_filled" "_law_filled" (defArgs (top 70)) (defBody (top 70)) (defScope (top 70)) .none kV9 dc9 pm9 an9 cd9 ct9), sl9⟩) (c9 : PySem.W.codeIn K cd9 "_law_filled" = true) (k9 : PySem.W.keepIn K (.ref f9) = true)
    (a10 : PySem.W.nsIn K mainGlobals "are_unlike" = some (some (.ref f10))) (l10 : K.lookup f10 = some ⟨oc10, od10, .func (PySem.W.fnOf "are_unlike" "are_unlike" (defArgs (top 32)) (defBody (top 32)) (defScope (top 32)) .none kV10 dc10 pm10 an10 cd10 ct10), sl10⟩) (c10 : PySem.W.codeIn K cd10 "are_unlike" = true) (k10 : PySem.W.keepIn K (.ref f10) = true)
    (a11 : PySem.W.nsIn K mainGlobals "told_in" = some (some (.ref f11))) (l11 : K.lookup f11 = some ⟨oc11, od11, .func (PySem.W.fnOf "told_in" "told_in" (defArgs (top 34)) (defBody (top 34)) (defScope (top 34)) .none kV11 dc11 pm11 an11 cd11 ct11), sl11⟩) (c11 : PySem.W.codeIn K cd11 "told_in" = true) (k11 : PySem.W.keepIn K (.ref f11) = true)
    (a12 : PySem.W.nsIn K mainGlobals "is_whole" = some (some (.ref f12))) (l12 : K.lookup f12 = some ⟨oc12, od12, .func (PySem.W.fnOf "is_whole" "is_whole" (defArgs (top 13)) (defBody (top 13)) (defScope (top 13)) .none kV12 dc12 pm12 an12 cd12 ct12), sl12⟩) (c12 : PySem.W.codeIn K cd12 "is_whole" = true) (k12 : PySem.W.keepIn K (.ref f12) = true)
    (a13 : PySem.W.nsIn K mainGlobals "common_measure" = some (some (.ref f13))) (l13 : K.lookup f13 = some ⟨oc13, od13, .func (PySem.W.fnOf "common_measure" "common_measure" (defArgs (top 14)) (defBody (top 14)) (defScope (top 14)) .none kV13 dc13 pm13 an13 cd13 ct13), sl13⟩) (c13 : PySem.W.codeIn K cd13 "common_measure" = true) (k13 : PySem.W.keepIn K (.ref f13) = true)
    (a14 : PySem.W.nsIn K mainGlobals "is_number" = some (some (.ref f14))) (l14 : K.lookup f14 = some ⟨oc14, od14, .func (PySem.W.fnOf "is_number" "is_number" (defArgs (top 15)) (defBody (top 15)) (defScope (top 15)) .none kV14 dc14 pm14 an14 cd14 ct14), sl14⟩) (c14 : PySem.W.codeIn K cd14 "is_number" = true) (k14 : PySem.W.keepIn K (.ref f14) = true)
    (a15 : PySem.W.nsIn K mainGlobals "is_point" = some (some (.ref f15))) (l15 : K.lookup f15 = some ⟨oc15, od15, .func (PySem.W.fnOf "is_point" "is_point" (defArgs (top 31)) (defBody (top 31)) (defScope (top 31)) .none kV15 dc15 pm15 an15 cd15 ct15), sl15⟩) (c15 : PySem.W.codeIn K cd15 "is_point" = true) (k15 : PySem.W.keepIn K (.ref f15) = true)
    (a16 : PySem.W.nsIn K mainGlobals "points_of" = some (some (.ref f16))) (l16 : K.lookup f16 = some ⟨oc16, od16, .func (PySem.W.fnOf "points_of" "points_of" (defArgs (top 33)) (defBody (top 33)) (defScope (top 33)) .none kV16 dc16 pm16 an16 cd16 ct16), sl16⟩) (c16 : PySem.W.codeIn K cd16 "points_of" = true) (k16 : PySem.W.keepIn K (.ref f16) = true)
    (a17 : PySem.W.nsIn K mainGlobals "put_in" = some (some (.ref f17))) (l17 : K.lookup f17 = some ⟨oc17, od17, .func (PySem.W.fnOf "put_in" "put_in" (defArgs (top 49)) (defBody (top 49)) (defScope (top 49)) .none kV17 dc17 pm17 an17 cd17 ct17), sl17⟩) (c17 : PySem.W.codeIn K cd17 "put_in" = true) (k17 : PySem.W.keepIn K (.ref f17) = true)
    (a18 : PySem.W.nsIn K mainGlobals "point_at" = some (some (.ref f18))) (l18 : K.lookup f18 = some ⟨oc18, od18, .func (PySem.W.fnOf "point_at" "point_at" (defArgs (top 50)) (defBody (top 50)) (defScope (top 50)) .none kV18 dc18 pm18 an18 cd18 ct18), sl18⟩) (c18 : PySem.W.codeIn K cd18 "point_at" = true) (k18 : PySem.W.keepIn K (.ref f18) = true)
    (a19 : PySem.W.nsIn K mainGlobals "taken_out" = some (some (.ref f19))) (l19 : K.lookup f19 = some ⟨oc19, od19, .func (PySem.W.fnOf "taken_out" "taken_out" (defArgs (top 51)) (defBody (top 51)) (defScope (top 51)) .none kV19 dc19 pm19 an19 cd19 ct19), sl19⟩) (c19 : PySem.W.codeIn K cd19 "taken_out" = true) (k19 : PySem.W.keepIn K (.ref f19) = true)
    (a20 : PySem.W.nsIn K mainGlobals "replaced" = some (some (.ref f20))) (l20 : K.lookup f20 = some ⟨oc20, od20, .func (PySem.W.fnOf "replaced" "replaced" (defArgs (top 52)) (defBody (top 52)) (defScope (top 52)) .none kV20 dc20 pm20 an20 cd20 ct20), sl20⟩) (c20 : PySem.W.codeIn K cd20 "replaced" = true) (k20 : PySem.W.keepIn K (.ref f20) = true)
    (a21 : PySem.W.nsIn K mainGlobals "with_height" = some (some (.ref f21))) (l21 : K.lookup f21 = some ⟨oc21, od21, .func (PySem.W.fnOf "with_height" "with_height" (defArgs (top 53)) (defBody (top 53)) (defScope (top 53)) .none kV21 dc21 pm21 an21 cd21 ct21), sl21⟩) (c21 : PySem.W.codeIn K cd21 "with_height" = true) (k21 : PySem.W.keepIn K (.ref f21) = true)
    (a22 : PySem.W.nsIn K mainGlobals "with_slope" = some (some (.ref f22))) (l22 : K.lookup f22 = some ⟨oc22, od22, .func (PySem.W.fnOf "with_slope" "with_slope" (defArgs (top 54)) (defBody (top 54)) (defScope (top 54)) .none kV22 dc22 pm22 an22 cd22 ct22), sl22⟩) (c22 : PySem.W.codeIn K cd22 "with_slope" = true) (k22 : PySem.W.keepIn K (.ref f22) = true)
    (a23 : PySem.W.nsIn K mainGlobals "scaled" = some (some (.ref f23))) (l23 : K.lookup f23 = some ⟨oc23, od23, .func (PySem.W.fnOf "scaled" "scaled" (defArgs (top 28)) (defBody (top 28)) (defScope (top 28)) .none kV23 dc23 pm23 an23 cd23 ct23), sl23⟩) (c23 : PySem.W.codeIn K cd23 "scaled" = true) (k23 : PySem.W.keepIn K (.ref f23) = true)
    (a24 : PySem.W.nsIn K mainGlobals "share_of" = some (some (.ref f24))) (l24 : K.lookup f24 = some ⟨oc24, od24, .func (PySem.W.fnOf "share_of" "share_of" (defArgs (top 47)) (defBody (top 47)) (defScope (top 47)) .none kV24 dc24 pm24 an24 cd24 ct24), sl24⟩) (c24 : PySem.W.codeIn K cd24 "share_of" = true) (k24 : PySem.W.keepIn K (.ref f24) = true)
    (a25 : PySem.W.nsIn K mainGlobals "gain" = some (some (.ref f25))) (l25 : K.lookup f25 = some ⟨oc25, od25, .func (PySem.W.fnOf "gain" "gain" (defArgs (top 56)) (defBody (top 56)) (defScope (top 56)) .none kV25 dc25 pm25 an25 cd25 ct25), sl25⟩) (c25 : PySem.W.codeIn K cd25 "gain" = true) (k25 : PySem.W.keepIn K (.ref f25) = true)
    (a26 : PySem.W.nsIn K mainGlobals "steps_of" = some (some (.ref f26))) (l26 : K.lookup f26 = some ⟨oc26, od26, .func (PySem.W.fnOf "steps_of" "steps_of" (defArgs (top 41)) (defBody (top 41)) (defScope (top 41)) .none kV26 dc26 pm26 an26 cd26 ct26), sl26⟩) (c26 : PySem.W.codeIn K cd26 "steps_of" = true) (k26 : PySem.W.keepIn K (.ref f26) = true)
    (a27 : PySem.W.nsIn K mainGlobals "new_steps" = some (some (.ref f27))) (l27 : K.lookup f27 = some ⟨oc27, od27, .func (PySem.W.fnOf "new_steps" "new_steps" (defArgs (top 55)) (defBody (top 55)) (defScope (top 55)) .none kV27 dc27 pm27 an27 cd27 ct27), sl27⟩) (c27 : PySem.W.codeIn K cd27 "new_steps" = true) (k27 : PySem.W.keepIn K (.ref f27) = true)
    (a28 : PySem.W.nsIn K mainGlobals "knots_of" = some (some (.ref f28))) (l28 : K.lookup f28 = some ⟨oc28, od28, .func (PySem.W.fnOf "knots_of" "knots_of" (defArgs (top 35)) (defBody (top 35)) (defScope (top 35)) .none kV28 dc28 pm28 an28 cd28 ct28), sl28⟩) (c28 : PySem.W.codeIn K cd28 "knots_of" = true) (k28 : PySem.W.keepIn K (.ref f28) = true)
    (a29 : PySem.W.nsIn K mainGlobals "by_steps" = some (some (.ref f29))) (l29 : K.lookup f29 = some ⟨oc29, od29, .func (PySem.W.fnOf "by_steps" "by_steps" (defArgs (top 42)) (defBody (top 42)) (defScope (top 42)) .none kV29 dc29 pm29 an29 cd29 ct29), sl29⟩) (c29 : PySem.W.codeIn K cd29 "by_steps" = true) (k29 : PySem.W.keepIn K (.ref f29) = true)
    (a30 : PySem.W.nsIn K mainGlobals "loss" = some (some (.ref f30))) (l30 : K.lookup f30 = some ⟨oc30, od30, .func (PySem.W.fnOf "loss" "loss" (defArgs (top 57)) (defBody (top 57)) (defScope (top 57)) .none kV30 dc30 pm30 an30 cd30 ct30), sl30⟩) (c30 : PySem.W.codeIn K cd30 "loss" = true) (k30 : PySem.W.keepIn K (.ref f30) = true)
    (a31 : PySem.W.nsIn K mainGlobals "_law_done" = some (some (.ref f31))) (l31 : K.lookup f31 = some ⟨oc31, od31, .func (PySem.W.fnOf "_law_done" "_law_done" (defArgs (top 67)) (defBody (top 67)) (defScope (top 67)) .none kV31 dc31 pm31 an31 cd31 ct31), sl31⟩) (c31 : PySem.W.codeIn K cd31 "_law_done" = true) (k31 : PySem.W.keepIn K (.ref f31) = true)
    (a32 : PySem.W.nsIn K mainGlobals "_law_refusal" = some (some (.ref f32))) (l32 : K.lookup f32 = some ⟨oc32, od32, .func (PySem.W.fnOf "_law_refusal" "_law_refusal" (defArgs (top 66)) (defBody (top 66)) (defScope (top 66)) .none kV32 dc32 pm32 an32 cd32 ct32), sl32⟩) (c32 : PySem.W.codeIn K cd32 "_law_refusal" = true) (k32 : PySem.W.keepIn K (.ref f32) = true)
    (a33 : PySem.W.nsIn K mainGlobals "_law_told_of" = some (some (.ref f33))) (l33 : K.lookup f33 = some ⟨oc33, od33, .func (PySem.W.fnOf "_law_told_of" "_law_told_of" (defArgs (top 68)) (defBody (top 68)) (defScope (top 68)) .none kV33 dc33 pm33 an33 cd33 ct33), sl33⟩) (c33 : PySem.W.codeIn K cd33 "_law_told_of" = true) (k33 : PySem.W.keepIn K (.ref f33) = true)
    (a34 : PySem.W.nsIn K mainGlobals "_law_full_right" = some (some (.ref f34))) (l34 : K.lookup f34 = some ⟨oc34, od34, .func (PySem.W.fnOf "_law_full_right" "_law_full_right" (defArgs (top 71)) (defBody (top 71)) (defScope (top 71)) .none kV34 dc34 pm34 an34 cd34 ct34), sl34⟩) (c34 : PySem.W.codeIn K cd34 "_law_full_right" = true) (k34 : PySem.W.keepIn K (.ref f34) = true)
    (a35 : PySem.W.nsIn K mainGlobals "law" = some (some (.ref f35))) (l35 : K.lookup f35 = some ⟨oc35, od35, .func (PySem.W.fnOf "law" "law" (defArgs (top 72)) (defBody (top 72)) (defScope (top 72)) .none kV35 dc35 pm35 an35 cd35 ct35), sl35⟩) (c35 : PySem.W.codeIn K cd35 "law" = true) (k35 : PySem.W.keepIn K (.ref f35) = true)
    (z_len : PySem.W.nsIn K mainGlobals "len" = some none)
    (z_abs : PySem.W.nsIn K mainGlobals "abs" = some none)
    (z_range : PySem.W.nsIn K mainGlobals "range" = some none)
    (z_tuple : PySem.W.nsIn K mainGlobals "tuple" = some none)
    (z_set : PySem.W.nsIn K mainGlobals "set" = some none)
    (z_isinstance : PySem.W.nsIn K mainGlobals "isinstance" = some none)
    (z_int : PySem.W.nsIn K mainGlobals "int" = some none)
    (z_bool : PySem.W.nsIn K mainGlobals "bool" = some none)
    (z_all : PySem.W.nsIn K mainGlobals "all" = some none)
    (z_list : PySem.W.nsIn K mainGlobals "list" = some none)
    (z_ValueError : PySem.W.nsIn K mainGlobals "ValueError" = some none)
    {t_MOST_TOLD : Tok} (x_MOST_TOLD : PySem.W.nsIn K mainGlobals "MOST_TOLD" = some (some (.int 12 t_MOST_TOLD)))
    {g_NOUGHT : Addr} {o_NOUGHT : Obj} {v_NOUGHT : Array Value} {m_NOUGHT : Nat} (x_NOUGHT : PySem.W.nsIn K mainGlobals "NOUGHT" = some (some (.ref g_NOUGHT))) (y_NOUGHT : K.lookup g_NOUGHT = some o_NOUGHT) (w_NOUGHT : o_NOUGHT.cls = .type "tuple") (d_NOUGHT : o_NOUGHT.data = .seq v_NOUGHT m_NOUGHT) (e_NOUGHT : v_NOUGHT.toList.map absV = [some (.int (0 : Rat).num), some (.int ((0 : Rat).den : Int))])
    {a_CurveError : Addr} (nx_CurveError : PySem.W.nsIn K mainGlobals "CurveError" = some (some (.ref a_CurveError)))
    {a_TooMany : Addr} (nx_TooMany : PySem.W.nsIn K mainGlobals "TooMany" = some (some (.ref a_TooMany)))
    {a_NoPoints : Addr} (nx_NoPoints : PySem.W.nsIn K mainGlobals "NoPoints" = some (some (.ref a_NoPoints)))
    {a_NoPoint : Addr} (nx_NoPoint : PySem.W.nsIn K mainGlobals "NoPoint" = some (some (.ref a_NoPoint)))
    {a_NoNumber : Addr} (nx_NoNumber : PySem.W.nsIn K mainGlobals "NoNumber" = some (some (.ref a_NoNumber)))
    {a_NoCurve : Addr} (nx_NoCurve : PySem.W.nsIn K mainGlobals "NoCurve" = some (some (.ref a_NoCurve)))
    {a_NoStretch : Addr} (nx_NoStretch : PySem.W.nsIn K mainGlobals "NoStretch" = some (some (.ref a_NoStretch)))
    {a_TooDeep : Addr} (nx_TooDeep : PySem.W.nsIn K mainGlobals "TooDeep" = some (some (.ref a_TooDeep)))
    {a_TooFew : Addr} (nx_TooFew : PySem.W.nsIn K mainGlobals "TooFew" = some (some (.ref a_TooFew)))
    {a_NoText : Addr} (nx_NoText : PySem.W.nsIn K mainGlobals "NoText" = some (some (.ref a_NoText)))
    {a_NoRow : Addr} (nx_NoRow : PySem.W.nsIn K mainGlobals "NoRow" = some (some (.ref a_NoRow)))
    {bm0TooMany N0TooMany nm0TooMany q0TooMany bs0TooMany hd0TooMany sn0TooMany sub0TooMany ab0TooMany col0TooMany dd0TooMany j0TooMany j1TooMany j2TooMany j3TooMany j5TooMany} (xl_TooMany : K.lookup a_TooMany = some (PySem.excClassObj nm0TooMany q0TooMany a_TooMany N0TooMany bs0TooMany bm0TooMany hd0TooMany sn0TooMany sub0TooMany ab0TooMany col0TooMany dd0TooMany j0TooMany j1TooMany j2TooMany j3TooMany j5TooMany "ValueError.__new__"))
    (xex_TooMany : PySem.W.excIn K a_TooMany [.type "ValueError", .type "Exception", .type "BaseException", .type "object"] "ValueError.__new__" = true)
    (xga_TooMany : PySem.W.findIn K (.ref a_TooMany) "__getattribute__" = some (some (.builtin "BaseException.__getattribute__"))) (xgt_TooMany : PySem.W.findIn K (.ref a_TooMany) "__getattr__" = some none) (xca_TooMany : PySem.W.findIn K (.ref a_TooMany) "__class__" = some (some (.builtin "object.__class__")))
    (xob_TooMany : PySem.W.mroIn K a_TooMany (.type "object") = some true) (xbe_TooMany : PySem.W.mroIn K a_TooMany (.type "BaseException") = some true)
    (xm_TooMany : PySem.W.exmOne K (.ref a_TooMany) (.ref a_CurveError) = some true) (xv_TooMany : PySem.W.kitOne K (.ref a_TooMany) (.type "ValueError") = some true)
    (xk_TooMany_0 : PySem.W.kitOne K (.ref a_TooMany) (.ref a_TooMany) = some true)
    (xk_TooMany_1 : PySem.W.kitOne K (.ref a_TooMany) (.ref a_NoPoints) = some false)
    (xk_TooMany_2 : PySem.W.kitOne K (.ref a_TooMany) (.ref a_NoPoint) = some false)
    (xk_TooMany_3 : PySem.W.kitOne K (.ref a_TooMany) (.ref a_NoNumber) = some false)
    (xk_TooMany_4 : PySem.W.kitOne K (.ref a_TooMany) (.ref a_NoCurve) = some false)
    (xk_TooMany_5 : PySem.W.kitOne K (.ref a_TooMany) (.ref a_NoStretch) = some false)
    (xk_TooMany_6 : PySem.W.kitOne K (.ref a_TooMany) (.ref a_TooDeep) = some false)
    (xk_TooMany_7 : PySem.W.kitOne K (.ref a_TooMany) (.ref a_TooFew) = some false)
    (xk_TooMany_8 : PySem.W.kitOne K (.ref a_TooMany) (.ref a_NoText) = some false)
    (xk_TooMany_9 : PySem.W.kitOne K (.ref a_TooMany) (.ref a_NoRow) = some false)
    {bm0NoPoints N0NoPoints nm0NoPoints q0NoPoints bs0NoPoints hd0NoPoints sn0NoPoints sub0NoPoints ab0NoPoints col0NoPoints dd0NoPoints j0NoPoints j1NoPoints j2NoPoints j3NoPoints j5NoPoints} (xl_NoPoints : K.lookup a_NoPoints = some (PySem.excClassObj nm0NoPoints q0NoPoints a_NoPoints N0NoPoints bs0NoPoints bm0NoPoints hd0NoPoints sn0NoPoints sub0NoPoints ab0NoPoints col0NoPoints dd0NoPoints j0NoPoints j1NoPoints j2NoPoints j3NoPoints j5NoPoints "ValueError.__new__"))
    (xex_NoPoints : PySem.W.excIn K a_NoPoints [.type "ValueError", .type "Exception", .type "BaseException", .type "object"] "ValueError.__new__" = true)
    (xga_NoPoints : PySem.W.findIn K (.ref a_NoPoints) "__getattribute__" = some (some (.builtin "BaseException.__getattribute__"))) (xgt_NoPoints : PySem.W.findIn K (.ref a_NoPoints) "__getattr__" = some none) (xca_NoPoints : PySem.W.findIn K (.ref a_NoPoints) "__class__" = some (some (.builtin "object.__class__")))
    (xob_NoPoints : PySem.W.mroIn K a_NoPoints (.type "object") = some true) (xbe_NoPoints : PySem.W.mroIn K a_NoPoints (.type "BaseException") = some true)
    (xm_NoPoints : PySem.W.exmOne K (.ref a_NoPoints) (.ref a_CurveError) = some true) (xv_NoPoints : PySem.W.kitOne K (.ref a_NoPoints) (.type "ValueError") = some true)
    (xk_NoPoints_0 : PySem.W.kitOne K (.ref a_NoPoints) (.ref a_TooMany) = some false)
    (xk_NoPoints_1 : PySem.W.kitOne K (.ref a_NoPoints) (.ref a_NoPoints) = some true)
    (xk_NoPoints_2 : PySem.W.kitOne K (.ref a_NoPoints) (.ref a_NoPoint) = some false)
    (xk_NoPoints_3 : PySem.W.kitOne K (.ref a_NoPoints) (.ref a_NoNumber) = some false)
    (xk_NoPoints_4 : PySem.W.kitOne K (.ref a_NoPoints) (.ref a_NoCurve) = some false)
    (xk_NoPoints_5 : PySem.W.kitOne K (.ref a_NoPoints) (.ref a_NoStretch) = some false)
    (xk_NoPoints_6 : PySem.W.kitOne K (.ref a_NoPoints) (.ref a_TooDeep) = some false)
    (xk_NoPoints_7 : PySem.W.kitOne K (.ref a_NoPoints) (.ref a_TooFew) = some false)
    (xk_NoPoints_8 : PySem.W.kitOne K (.ref a_NoPoints) (.ref a_NoText) = some false)
    (xk_NoPoints_9 : PySem.W.kitOne K (.ref a_NoPoints) (.ref a_NoRow) = some false)
    {bm0NoPoint N0NoPoint nm0NoPoint q0NoPoint bs0NoPoint hd0NoPoint sn0NoPoint sub0NoPoint ab0NoPoint col0NoPoint dd0NoPoint j0NoPoint j1NoPoint j2NoPoint j3NoPoint j5NoPoint} (xl_NoPoint : K.lookup a_NoPoint = some (PySem.excClassObj nm0NoPoint q0NoPoint a_NoPoint N0NoPoint bs0NoPoint bm0NoPoint hd0NoPoint sn0NoPoint sub0NoPoint ab0NoPoint col0NoPoint dd0NoPoint j0NoPoint j1NoPoint j2NoPoint j3NoPoint j5NoPoint "ValueError.__new__"))
    (xex_NoPoint : PySem.W.excIn K a_NoPoint [.type "ValueError", .type "Exception", .type "BaseException", .type "object"] "ValueError.__new__" = true)
    (xga_NoPoint : PySem.W.findIn K (.ref a_NoPoint) "__getattribute__" = some (some (.builtin "BaseException.__getattribute__"))) (xgt_NoPoint : PySem.W.findIn K (.ref a_NoPoint) "__getattr__" = some none) (xca_NoPoint : PySem.W.findIn K (.ref a_NoPoint) "__class__" = some (some (.builtin "object.__class__")))
    (xob_NoPoint : PySem.W.mroIn K a_NoPoint (.type "object") = some true) (xbe_NoPoint : PySem.W.mroIn K a_NoPoint (.type "BaseException") = some true)
    (xm_NoPoint : PySem.W.exmOne K (.ref a_NoPoint) (.ref a_CurveError) = some true) (xv_NoPoint : PySem.W.kitOne K (.ref a_NoPoint) (.type "ValueError") = some true)
    (xk_NoPoint_0 : PySem.W.kitOne K (.ref a_NoPoint) (.ref a_TooMany) = some false)
    (xk_NoPoint_1 : PySem.W.kitOne K (.ref a_NoPoint) (.ref a_NoPoints) = some false)
    (xk_NoPoint_2 : PySem.W.kitOne K (.ref a_NoPoint) (.ref a_NoPoint) = some true)
    (xk_NoPoint_3 : PySem.W.kitOne K (.ref a_NoPoint) (.ref a_NoNumber) = some false)
    (xk_NoPoint_4 : PySem.W.kitOne K (.ref a_NoPoint) (.ref a_NoCurve) = some false)
    (xk_NoPoint_5 : PySem.W.kitOne K (.ref a_NoPoint) (.ref a_NoStretch) = some false)
    (xk_NoPoint_6 : PySem.W.kitOne K (.ref a_NoPoint) (.ref a_TooDeep) = some false)
    (xk_NoPoint_7 : PySem.W.kitOne K (.ref a_NoPoint) (.ref a_TooFew) = some false)
    (xk_NoPoint_8 : PySem.W.kitOne K (.ref a_NoPoint) (.ref a_NoText) = some false)
    (xk_NoPoint_9 : PySem.W.kitOne K (.ref a_NoPoint) (.ref a_NoRow) = some false)
    (xgg : PySem.W.specialIn K (.builtin "object.__class__") "__get__" = some (some (.builtin "getset_descriptor.__get__"))) (xtk : PySem.W.takesIn K (.builtin "object.__class__") = some true) :
    ∃ fd : FuncData, (∀ (s : Shared) (v : Value), BindsTo s fd ⟨[v], []⟩ [("_law_script", v)]) ∧ ∀ base : Heap, K.In base → base.Ns mainGlobals mg → FnOk l.prog w K mg base CX0 43 fa fd ["_law_script"] (spLaw K) := by
  have e := hfa.symm.trans (PySem.W.mg_of X G a35)
  cases e
  have b_len := PySem.W.mg_none_of X G z_len
  have b_abs := PySem.W.mg_none_of X G z_abs
  have b_range := PySem.W.mg_none_of X G z_range
  have b_tuple := PySem.W.mg_none_of X G z_tuple
  have b_set := PySem.W.mg_none_of X G z_set
  have b_isinstance := PySem.W.mg_none_of X G z_isinstance
  have b_int := PySem.W.mg_none_of X G z_int
  have b_bool := PySem.W.mg_none_of X G z_bool
  have b_all := PySem.W.mg_none_of X G z_all
  have b_list := PySem.W.mg_none_of X G z_list
  have b_ValueError := PySem.W.mg_none_of X G z_ValueError
  have c_MOST_TOLD := PySem.W.mg_of X G x_MOST_TOLD
  have c_NOUGHT := PySem.W.mg_of X G x_NOUGHT
  have n_NOUGHT : ∀ H : Hp, NumV K H (.ref g_NOUGHT) (0) := fun H => ⟨_, rfl, const_num y_NOUGHT w_NOUGHT d_NOUGHT e_NOUGHT⟩
  have F1 := fun_mk (st := top 59) l1 c1 k1
  have B1 := Fun.binds2 "_law_script" "_law_k" F1 fun _ _ _ _ _ _ _ _ => rfl
  have F2 := fun_mk (st := top 60) l2 c2 k2
  have B2 := Fun.binds2 "_law_pen_here" "_law_many" F2 fun _ _ _ _ _ _ _ _ => rfl
  have F3 := fun_mk (st := top 61) l3 c3 k3
  have B3 := Fun.binds2 "_law_top" "_law_bottom" F3 fun _ _ _ _ _ _ _ _ => rfl
  have F4 := fun_mk (st := top 63) l4 c4 k4
  have B4 := Fun.binds1 "_law_pen_here" F4 fun _ _ _ _ _ _ _ => rfl
  have F5 := fun_mk (st := top 62) l5 c5 k5
  have B5 := Fun.binds2 "_law_a" "_law_b" F5 fun _ _ _ _ _ _ _ _ => rfl
  have F6 := fun_mk (st := top 64) l6 c6 k6
  have B6 := Fun.binds2 "_law_pen_here" "_law_many" F6 fun _ _ _ _ _ _ _ _ => rfl
  have F7 := fun_mk (st := top 65) l7 c7 k7
  have B7 := Fun.binds2 "_law_pen_here" "_law_most" F7 fun _ _ _ _ _ _ _ _ => rfl
  have F8 := fun_mk (st := top 69) l8 c8 k8
  have B8 := Fun.binds2 "_law_pen_here" "_law_points_here" F8 fun _ _ _ _ _ _ _ _ => rfl
  have F9 := fun_mk (st := top 70) l9 c9 k9
  have B9 := Fun.binds1 "_law_pen_here" F9 fun _ _ _ _ _ _ _ => rfl
  have F10 := fun_mk (st := top 32) l10 c10 k10
  have B10 := Fun.binds1 "places" F10 fun _ _ _ _ _ _ _ => rfl
  have F11 := fun_mk (st := top 34) l11 c11 k11
  have B11 := Fun.binds1 "points" F11 fun _ _ _ _ _ _ _ => rfl
  have F12 := fun_mk (st := top 13) l12 c12 k12
  have B12 := Fun.binds1 "thing" F12 fun _ _ _ _ _ _ _ => rfl
  have F13 := fun_mk (st := top 14) l13 c13 k13
  have B13 := Fun.binds2 "one" "other" F13 fun _ _ _ _ _ _ _ _ => rfl
  have F14 := fun_mk (st := top 15) l14 c14 k14
  have B14 := Fun.binds1 "thing" F14 fun _ _ _ _ _ _ _ => rfl
  have F15 := fun_mk (st := top 31) l15 c15 k15
  have B15 := Fun.binds1 "thing" F15 fun _ _ _ _ _ _ _ => rfl
  have F16 := fun_mk (st := top 33) l16 c16 k16
  have B16 := Fun.binds1 "thing" F16 fun _ _ _ _ _ _ _ => rfl
  have F17 := fun_mk (st := top 49) l17 c17 k17
  have B17 := Fun.binds2 "points" "point" F17 fun _ _ _ _ _ _ _ _ => rfl
  have F18 := fun_mk (st := top 50) l18 c18 k18
  have B18 := Fun.binds2 "points" "x" F18 fun _ _ _ _ _ _ _ _ => rfl
  have F19 := fun_mk (st := top 51) l19 c19 k19
  have B19 := Fun.binds2 "points" "x" F19 fun _ _ _ _ _ _ _ _ => rfl
  have F20 := fun_mk (st := top 52) l20 c20 k20
  have B20 := Fun.binds3 "points" "old" "new" F20 fun _ _ _ _ _ _ _ _ _ => rfl
  have F21 := fun_mk (st := top 53) l21 c21 k21
  have B21 := Fun.binds3 "points" "x" "y" F21 fun _ _ _ _ _ _ _ _ _ => rfl
  have F22 := fun_mk (st := top 54) l22 c22 k22
  have B22 := Fun.binds3 "points" "x" "slope" F22 fun _ _ _ _ _ _ _ _ _ => rfl
  have F23 := fun_mk (st := top 28) l23 c23 k23
  have B23 := Fun.binds2 "curve" "number" F23 fun _ _ _ _ _ _ _ _ => rfl
  have F24 := fun_mk (st := top 47) l24 c24 k24
  have B24 := Fun.binds3 "points" "x" "k" F24 fun _ _ _ _ _ _ _ _ _ => rfl
  have F25 := fun_mk (st := top 56) l25 c25 k25
  have B25 := Fun.binds4 "points" "x" "k" "number" F25 fun _ _ _ _ _ _ _ _ _ _ => rfl
  have F26 := fun_mk (st := top 41) l26 c26 k26
  have B26 := Fun.binds1 "points" F26 fun _ _ _ _ _ _ _ => rfl
  have F27 := fun_mk (st := top 55) l27 c27 k27
  have B27 := Fun.binds2 "points" "point" F27 fun _ _ _ _ _ _ _ _ => rfl
  have F28 := fun_mk (st := top 35) l28 c28 k28
  have B28 := Fun.binds1 "points" F28 fun _ _ _ _ _ _ _ => rfl
  have F29 := fun_mk (st := top 42) l29 c29 k29
  have B29 := Fun.binds2 "knots" "steps" F29 fun _ _ _ _ _ _ _ _ => rfl
  have F30 := fun_mk (st := top 57) l30 c30 k30
  have B30 := Fun.binds2 "points" "x" F30 fun _ _ _ _ _ _ _ _ => rfl
  have F31 := fun_mk (st := top 67) l31 c31 k31
  have B31 := Fun.binds4 "_law_way" "_law_points_here" "_law_x" "_law_thing" F31 fun _ _ _ _ _ _ _ _ _ _ => rfl
  have F32 := fun_mk (st := top 66) l32 c32 k32
  have B32 := Fun.binds1 "_law_caught" F32 fun _ _ _ _ _ _ _ => rfl
  have F33 := fun_mk (st := top 68) l33 c33 k33
  have B33 := Fun.binds4 "_law_way" "_law_points_here" "_law_x" "_law_thing" F33 fun _ _ _ _ _ _ _ _ _ _ => rfl
  have F34 := fun_mk (st := top 71) l34 c34 k34
  have B34 := Fun.binds1 "_law_pen_here" F34 fun _ _ _ _ _ _ _ => rfl
  have F35 := fun_mk (st := top 72) l35 c35 k35
  refine ⟨PySem.W.fnOf "law" "law" (defArgs (top 72)) (defBody (top 72)) (defScope (top 72)) .none kV35 dc35 pm35 an35 cd35 ct35, fun s v => .of_eq rfl, fun base _ _ => ?_⟩
  have c_CurveError := PySem.W.mg_of X G nx_CurveError
  have c_TooMany := PySem.W.mg_of X G nx_TooMany
  have c_NoPoints := PySem.W.mg_of X G nx_NoPoints
  have c_NoPoint := PySem.W.mg_of X G nx_NoPoint
  have c_NoNumber := PySem.W.mg_of X G nx_NoNumber
  have c_NoCurve := PySem.W.mg_of X G nx_NoCurve
  have c_NoStretch := PySem.W.mg_of X G nx_NoStretch
  have c_TooDeep := PySem.W.mg_of X G nx_TooDeep
  have c_TooFew := PySem.W.mg_of X G nx_TooFew
  have c_NoText := PySem.W.mg_of X G nx_NoText
  have c_NoRow := PySem.W.mg_of X G nx_NoRow
  have k_TooMany : XCls K "TooMany" a_TooMany := ⟨nx_TooMany, ⟨_, _, _, _, _, _, _, _, _, _, _, _, _, _, _, _, xl_TooMany⟩, xex_TooMany⟩
  have xr_TooMany : RefK K a_TooMany [a_TooMany, a_NoPoints, a_NoPoint, a_NoNumber, a_NoCurve, a_NoStretch, a_TooDeep, a_TooFew, a_NoText, a_NoRow] 0 := ⟨⟨xga_TooMany, xgt_TooMany, xca_TooMany, xgg, xtk, xob_TooMany, xbe_TooMany, ⟨_, _, _, _, xl_TooMany⟩⟩, xv_TooMany, fun i c h => match i, h with | 0, h => by cases h; exact xk_TooMany_0 | 1, h => by cases h; exact xk_TooMany_1 | 2, h => by cases h; exact xk_TooMany_2 | 3, h => by cases h; exact xk_TooMany_3 | 4, h => by cases h; exact xk_TooMany_4 | 5, h => by cases h; exact xk_TooMany_5 | 6, h => by cases h; exact xk_TooMany_6 | 7, h => by cases h; exact xk_TooMany_7 | 8, h => by cases h; exact xk_TooMany_8 | 9, h => by cases h; exact xk_TooMany_9 | i + 10, h => nomatch h⟩
  have k_NoPoints : XCls K "NoPoints" a_NoPoints := ⟨nx_NoPoints, ⟨_, _, _, _, _, _, _, _, _, _, _, _, _, _, _, _, xl_NoPoints⟩, xex_NoPoints⟩
  have xr_NoPoints : RefK K a_NoPoints [a_TooMany, a_NoPoints, a_NoPoint, a_NoNumber, a_NoCurve, a_NoStretch, a_TooDeep, a_TooFew, a_NoText, a_NoRow] 1 := ⟨⟨xga_NoPoints, xgt_NoPoints, xca_NoPoints, xgg, xtk, xob_NoPoints, xbe_NoPoints, ⟨_, _, _, _, xl_NoPoints⟩⟩, xv_NoPoints, fun i c h => match i, h with | 0, h => by cases h; exact xk_NoPoints_0 | 1, h => by cases h; exact xk_NoPoints_1 | 2, h => by cases h; exact xk_NoPoints_2 | 3, h => by cases h; exact xk_NoPoints_3 | 4, h => by cases h; exact xk_NoPoints_4 | 5, h => by cases h; exact xk_NoPoints_5 | 6, h => by cases h; exact xk_NoPoints_6 | 7, h => by cases h; exact xk_NoPoints_7 | 8, h => by cases h; exact xk_NoPoints_8 | 9, h => by cases h; exact xk_NoPoints_9 | i + 10, h => nomatch h⟩
  have k_NoPoint : XCls K "NoPoint" a_NoPoint := ⟨nx_NoPoint, ⟨_, _, _, _, _, _, _, _, _, _, _, _, _, _, _, _, xl_NoPoint⟩, xex_NoPoint⟩
  have xr_NoPoint : RefK K a_NoPoint [a_TooMany, a_NoPoints, a_NoPoint, a_NoNumber, a_NoCurve, a_NoStretch, a_TooDeep, a_TooFew, a_NoText, a_NoRow] 2 := ⟨⟨xga_NoPoint, xgt_NoPoint, xca_NoPoint, xgg, xtk, xob_NoPoint, xbe_NoPoint, ⟨_, _, _, _, xl_NoPoint⟩⟩, xv_NoPoint, fun i c h => match i, h with | 0, h => by cases h; exact xk_NoPoint_0 | 1, h => by cases h; exact xk_NoPoint_1 | 2, h => by cases h; exact xk_NoPoint_2 | 3, h => by cases h; exact xk_NoPoint_3 | 4, h => by cases h; exact xk_NoPoint_4 | 5, h => by cases h; exact xk_NoPoint_5 | 6, h => by cases h; exact xk_NoPoint_6 | 7, h => by cases h; exact xk_NoPoint_7 | 8, h => by cases h; exact xk_NoPoint_8 | 9, h => by cases h; exact xk_NoPoint_9 | i + 10, h => nomatch h⟩
  have E__law_pen : Fd l.prog w K mg base 33 "_law_pen" ["_law_script", "_law_k"] (spPen K) := ⟨_, _, ok__law_pen F1 b_len hT, B1, k1, PySem.W.mg_of X G a1⟩
  have E__law_draw : Fd l.prog w K mg base 33 "_law_draw" ["_law_pen_here", "_law_many"] (spDraw) := ⟨_, _, ok__law_draw F2 hT, B2, k2, PySem.W.mg_of X G a2⟩
  have E__law_lowest : Fd l.prog w K mg base 33 "_law_lowest" ["_law_top", "_law_bottom"] (spLow) := ⟨_, _, ok__law_lowest F3 b_abs hT, B3, k3, PySem.W.mg_of X G a3⟩
  have E__law_number : Fd l.prog w K mg base 34 "_law_number" ["_law_pen_here"] (spNum 40) := ⟨_, _, ok__law_number F4 E__law_draw E__law_lowest hT, B4, k4, PySem.W.mg_of X G a4⟩
  have E__law_plus : Fd l.prog w K mg base 34 "_law_plus" ["_law_a", "_law_b"] (spBin K (· + ·)) := ⟨_, _, ok__law_plus F5 E__law_lowest hT, B5, k5, PySem.W.mg_of X G a5⟩
  have E__law_places : Fd l.prog w K mg base 35 "_law_places" ["_law_pen_here", "_law_many"] (spPlacesV K) := ⟨_, _, ok__law_places F6 E__law_number E__law_plus b_range hT, B6, k6, PySem.W.mg_of X G a6⟩
  have E__law_points : Fd l.prog w K mg base 36 "_law_points" ["_law_pen_here", "_law_most"] (spPointsT K 40) := ⟨_, _, ok__law_points F7 E__law_places E__law_draw E__law_number b_tuple hT, B7, k7, PySem.W.mg_of X G a7⟩
  have E__law_no_point : Fd l.prog w K mg base 34 "_law_no_point" ["_law_pen_here", "_law_points_here"] (spNoPt K) := ⟨_, _, ok__law_no_point F8 E__law_draw b_len hT, B8, k8, PySem.W.mg_of X G a8⟩
  have E__law_filled : Fd l.prog w K mg base 36 "_law_filled" ["_law_pen_here"] (spFilled K) := ⟨_, _, ok__law_filled F9 E__law_places E__law_draw E__law_number b_tuple hT, B9, k9, PySem.W.mg_of X G a9⟩
  have E_are_unlike : Fd l.prog w K mg base 33 "are_unlike" ["places"] (spUnlikeD K) := ⟨_, _, ok_are_unlike F10 b_len b_set hT, B10, k10, PySem.W.mg_of X G a10⟩
  have E_told_in : Fd l.prog w K mg base 33 "told_in" ["points"] (spToldT K) := ⟨_, _, ok_told_in F11 b_range b_len hT, B11, k11, PySem.W.mg_of X G a11⟩
  have E_is_whole : Fd l.prog w K mg base 33 "is_whole" ["thing"] (spWhO K) := ⟨_, _, ok_is_whole F12 b_isinstance b_int b_bool hT, B12, k12, PySem.W.mg_of X G a12⟩
  have E_common_measure : Fd l.prog w K mg base 33 "common_measure" ["one", "other"] (spGcd) := ⟨_, _, ok_common_measure F13 b_abs hT, B13, k13, PySem.W.mg_of X G a13⟩
  have E_is_number : Fd l.prog w K mg base 34 "is_number" ["thing"] (spNbO K) := ⟨_, _, ok_is_number F14 E_is_whole E_common_measure b_isinstance b_tuple b_len hT, B14, k14, PySem.W.mg_of X G a14⟩
  have E_is_point : Fd l.prog w K mg base 35 "is_point" ["thing"] (spPbO K) := ⟨_, _, ok_is_point F15 E_is_number b_all b_isinstance b_tuple b_len hT, B15, k15, PySem.W.mg_of X G a15⟩
  have E_points_of : Fd l.prog w K mg base 36 "points_of" ["thing"] (spPtsOf K) := ⟨_, _, ok_points_of F16 E_are_unlike E_told_in E_is_point b_tuple b_all b_len b_isinstance b_list c_MOST_TOLD hT, B16, k16, PySem.W.mg_of X G a16⟩
  have XF_points_of : FnOk l.prog w K mg base (CX2 l.prog w) 36 _ _ ["thing"] (spPtsX K a_NoPoints a_TooMany) := okx_points_of (base := base) (w := w) F16 k_NoPoints k_TooMany E_are_unlike E_told_in E_is_point b_tuple b_all b_len b_isinstance b_list c_MOST_TOLD hT
  have X_points_of : FdY l.prog w K mg base 36 "points_of" ["thing"] (spPtsX K a_NoPoints a_TooMany) := ⟨_, _, XF_points_of, B16, k16, PySem.W.mg_of X G a16⟩
  have Y_points_of : FdY l.prog w K mg base 36 "points_of" ["thing"] (fun vs H Q E => (spPtsOf K : Sp) vs H Q E ∨ (spPtsX K a_NoPoints a_TooMany : Sp) vs H Q E) := ⟨_, _, (ok_points_of F16 E_are_unlike E_told_in E_is_point b_tuple b_all b_len b_isinstance b_list c_MOST_TOLD hT).calm.or XF_points_of, B16, k16, PySem.W.mg_of X G a16⟩
  have E_put_in : Fd l.prog w K mg base 37 "put_in" ["points", "point"] (fun _ _ _ _ => False) := ⟨_, _, ok_put_in F17 E_points_of b_list hT, B17, k17, PySem.W.mg_of X G a17⟩
  have XF_put_in : FnOk l.prog w K mg base (CX2 l.prog w) 37 _ _ ["points", "point"] (spPutX K (clsOf3 a_TooMany a_NoPoints a_NoPoint)) := okx_put_in (base := base) (w := w) F17 Y_points_of E_points_of b_list hT
  have X_put_in : FdY l.prog w K mg base 37 "put_in" ["points", "point"] (spPutX K (clsOf3 a_TooMany a_NoPoints a_NoPoint)) := ⟨_, _, XF_put_in, B17, k17, PySem.W.mg_of X G a17⟩
  have E_point_at : Fd l.prog w K mg base 33 "point_at" ["points", "x"] (fun _ _ _ _ => False) := ⟨_, _, ok_point_at F18 hT, B18, k18, PySem.W.mg_of X G a18⟩
  have XF_point_at : FnOk l.prog w K mg base (CX2 l.prog w) 33 _ _ ["points", "x"] (spPtAtX K (clsOf3 a_TooMany a_NoPoints a_NoPoint)) := okx_point_at (base := base) (w := w) F18 k_NoPoint hT
  have X_point_at : FdY l.prog w K mg base 33 "point_at" ["points", "x"] (spPtAtX K (clsOf3 a_TooMany a_NoPoints a_NoPoint)) := ⟨_, _, XF_point_at, B18, k18, PySem.W.mg_of X G a18⟩
  have E_taken_out : Fd l.prog w K mg base 34 "taken_out" ["points", "x"] (fun _ _ _ _ => False) := ⟨_, _, ok_taken_out F19 E_point_at b_tuple b_len hT, B19, k19, PySem.W.mg_of X G a19⟩
  have XF_taken_out : FnOk l.prog w K mg base (CX2 l.prog w) 34 _ _ ["points", "x"] (spTakenX K (clsOf3 a_TooMany a_NoPoints a_NoPoint)) := okx_taken_out (base := base) (w := w) F19 k_NoPoints X_point_at E_point_at b_tuple b_len hT
  have X_taken_out : FdY l.prog w K mg base 34 "taken_out" ["points", "x"] (spTakenX K (clsOf3 a_TooMany a_NoPoints a_NoPoint)) := ⟨_, _, XF_taken_out, B19, k19, PySem.W.mg_of X G a19⟩
  have E_replaced : Fd l.prog w K mg base 37 "replaced" ["points", "old", "new"] (fun _ _ _ _ => False) := ⟨_, _, ok_replaced F20 E_points_of hT, B20, k20, PySem.W.mg_of X G a20⟩
  have XF_replaced : FnOk l.prog w K mg base (CX2 l.prog w) 37 _ _ ["points", "old", "new"] (spReplX K (clsOf3 a_TooMany a_NoPoints a_NoPoint)) := okx_replaced (base := base) (w := w) F20 Y_points_of E_points_of hT
  have X_replaced : FdY l.prog w K mg base 37 "replaced" ["points", "old", "new"] (spReplX K (clsOf3 a_TooMany a_NoPoints a_NoPoint)) := ⟨_, _, XF_replaced, B20, k20, PySem.W.mg_of X G a20⟩
  have E_with_height : Fd l.prog w K mg base 38 "with_height" ["points", "x", "y"] (fun _ _ _ _ => False) := ⟨_, _, ok_with_height F21 E_point_at E_replaced hT, B21, k21, PySem.W.mg_of X G a21⟩
  have XF_with_height : FnOk l.prog w K mg base (CX2 l.prog w) 38 _ _ ["points", "x", "y"] (spWithHX K (clsOf3 a_TooMany a_NoPoints a_NoPoint)) := okx_with_height (base := base) (w := w) F21 X_point_at X_replaced E_point_at E_replaced hT
  have X_with_height : FdY l.prog w K mg base 38 "with_height" ["points", "x", "y"] (spWithHX K (clsOf3 a_TooMany a_NoPoints a_NoPoint)) := ⟨_, _, XF_with_height, B21, k21, PySem.W.mg_of X G a21⟩
  have E_with_slope : Fd l.prog w K mg base 38 "with_slope" ["points", "x", "slope"] (fun _ _ _ _ => False) := ⟨_, _, ok_with_slope F22 E_point_at E_replaced hT, B22, k22, PySem.W.mg_of X G a22⟩
  have XF_with_slope : FnOk l.prog w K mg base (CX2 l.prog w) 38 _ _ ["points", "x", "slope"] (spWithSX K (clsOf3 a_TooMany a_NoPoints a_NoPoint)) := okx_with_slope (base := base) (w := w) F22 X_point_at X_replaced E_point_at E_replaced hT
  have X_with_slope : FdY l.prog w K mg base 38 "with_slope" ["points", "x", "slope"] (spWithSX K (clsOf3 a_TooMany a_NoPoints a_NoPoint)) := ⟨_, _, XF_with_slope, B22, k22, PySem.W.mg_of X G a22⟩
  have E_scaled : Fd l.prog w K mg base 33 "scaled" ["curve", "number"] (fun _ _ _ _ => False) := ⟨_, _, ok_scaled F23 hT, B23, k23, PySem.W.mg_of X G a23⟩
  have E_share_of : Fd l.prog w K mg base 33 "share_of" ["points", "x", "k"] (fun _ _ _ _ => False) := ⟨_, _, ok_share_of F24 hT, B24, k24, PySem.W.mg_of X G a24⟩
  have E_gain : Fd l.prog w K mg base 34 "gain" ["points", "x", "k", "number"] (fun _ _ _ _ => False) := ⟨_, _, ok_gain F25 E_scaled E_share_of E_told_in hT, B25, k25, PySem.W.mg_of X G a25⟩
  have XF_gain : FnOk l.prog w K mg base (CX2 l.prog w) 34 _ _ ["points", "x", "k", "number"] (spGainX K (clsOf3 a_TooMany a_NoPoints a_NoPoint)) := okx_gain (base := base) (w := w) F25 k_NoPoint E_scaled E_share_of E_told_in hT
  have X_gain : FdY l.prog w K mg base 34 "gain" ["points", "x", "k", "number"] (spGainX K (clsOf3 a_TooMany a_NoPoints a_NoPoint)) := ⟨_, _, XF_gain, B25, k25, PySem.W.mg_of X G a25⟩
  have E_steps_of : Fd l.prog w K mg base 33 "steps_of" ["points"] (fun _ _ _ _ => False) := ⟨_, _, ok_steps_of F26 hT, B26, k26, PySem.W.mg_of X G a26⟩
  have E_new_steps : Fd l.prog w K mg base 38 "new_steps" ["points", "point"] (fun _ _ _ _ => False) := ⟨_, _, ok_new_steps F27 E_steps_of E_put_in E_told_in b_len hT, B27, k27, PySem.W.mg_of X G a27⟩
  have XF_new_steps : FnOk l.prog w K mg base (CX2 l.prog w) 38 _ _ ["points", "point"] (spPutX K (clsOf3 a_TooMany a_NoPoints a_NoPoint)) := okx_new_steps (base := base) (w := w) F27 X_put_in E_steps_of E_put_in E_told_in b_len hT
  have X_new_steps : FdY l.prog w K mg base 38 "new_steps" ["points", "point"] (spPutX K (clsOf3 a_TooMany a_NoPoints a_NoPoint)) := ⟨_, _, XF_new_steps, B27, k27, PySem.W.mg_of X G a27⟩
  have E_knots_of : Fd l.prog w K mg base 33 "knots_of" ["points"] (fun _ _ _ _ => False) := ⟨_, _, ok_knots_of F28 hT, B28, k28, PySem.W.mg_of X G a28⟩
  have E_by_steps : Fd l.prog w K mg base 33 "by_steps" ["knots", "steps"] (fun _ _ _ _ => False) := ⟨_, _, ok_by_steps F29 hT, B29, k29, PySem.W.mg_of X G a29⟩
  have E_loss : Fd l.prog w K mg base 39 "loss" ["points", "x"] (fun _ _ _ _ => False) := ⟨_, _, ok_loss F30 E_taken_out E_point_at E_new_steps E_knots_of E_by_steps b_len c_NOUGHT n_NOUGHT hT, B30, k30, PySem.W.mg_of X G a30⟩
  have XF_loss : FnOk l.prog w K mg base (CX2 l.prog w) 39 _ _ ["points", "x"] (spTakenX K (clsOf3 a_TooMany a_NoPoints a_NoPoint)) := okx_loss (base := base) (w := w) F30 X_taken_out E_taken_out E_point_at E_new_steps E_knots_of E_by_steps b_len c_NOUGHT n_NOUGHT hT
  have X_loss : FdY l.prog w K mg base 39 "loss" ["points", "x"] (spTakenX K (clsOf3 a_TooMany a_NoPoints a_NoPoint)) := ⟨_, _, XF_loss, B30, k30, PySem.W.mg_of X G a30⟩
  have E__law_done : Fd l.prog w K mg base 40 "_law_done" ["_law_way", "_law_points_here", "_law_x", "_law_thing"] (fun _ _ _ _ => False) := ⟨_, _, ok__law_done F31 E_put_in E_taken_out E_with_height E_with_slope E_gain E_loss E_new_steps hT, B31, k31, PySem.W.mg_of X G a31⟩
  have XF__law_done : FnOk l.prog w K mg base (CX2 l.prog w) 40 _ _ ["_law_way", "_law_points_here", "_law_x", "_law_thing"] (spDoneX K (clsOf3 a_TooMany a_NoPoints a_NoPoint)) := okx__law_done (base := base) (w := w) F31 X_put_in X_taken_out X_with_height X_with_slope X_gain X_loss X_new_steps E_put_in E_taken_out E_with_height E_with_slope E_gain E_loss E_new_steps hT
  have X__law_done : FdY l.prog w K mg base 40 "_law_done" ["_law_way", "_law_points_here", "_law_x", "_law_thing"] (spDoneX K (clsOf3 a_TooMany a_NoPoints a_NoPoint)) := ⟨_, _, XF__law_done, B31, k31, PySem.W.mg_of X G a31⟩
  have Y__law_done : FdY l.prog w K mg base 40 "_law_done" ["_law_way", "_law_points_here", "_law_x", "_law_thing"] (fun vs H Q E => (fun _ _ _ _ => False : Sp) vs H Q E ∨ (spDoneX K (clsOf3 a_TooMany a_NoPoints a_NoPoint) : Sp) vs H Q E) := ⟨_, _, (ok__law_done F31 E_put_in E_taken_out E_with_height E_with_slope E_gain E_loss E_new_steps hT).calm.or XF__law_done, B31, k31, PySem.W.mg_of X G a31⟩
  have H__law_refusal : FdH l.prog w K mg base 33 "_law_refusal" "_law_caught" (spRefH K [a_TooMany, a_NoPoints, a_NoPoint, a_NoNumber, a_NoCurve, a_NoStretch, a_TooDeep, a_TooFew, a_NoText, a_NoRow]) := ⟨_, _, okh__law_refusal F32 c_TooMany c_NoPoints c_NoPoint c_NoNumber c_NoCurve c_NoStretch c_TooDeep c_TooFew c_NoText c_NoRow b_isinstance b_len b_ValueError hT, B32, k32, PySem.W.mg_of X G a32⟩
  have E__law_told_of : Fd l.prog w K mg base 41 "_law_told_of" ["_law_way", "_law_points_here", "_law_x", "_law_thing"] (spTold26 K) := ⟨_, _, ok__law_told_of F33 c_CurveError xm_TooMany xr_TooMany xm_NoPoints xr_NoPoints xm_NoPoint xr_NoPoint H__law_refusal Y__law_done E__law_done hT, B33, k33, PySem.W.mg_of X G a33⟩
  have E__law_full_right : Fd l.prog w K mg base 42 "_law_full_right" ["_law_pen_here"] (spFullR K) := ⟨_, _, ok__law_full_right F34 E__law_filled E__law_plus E__law_number E__law_told_of hT, B34, k34, PySem.W.mg_of X G a34⟩
  exact ok_law F35 E__law_pen E__law_points E__law_no_point E__law_number E__law_full_right E__law_draw E__law_plus E__law_told_of b_range b_len hT
theorem walk {l : PySem.W.OpenLaw} {q : Program} {loose : List Str} {XP : (Str → Option Value) → Heap → Prop} {YP : World → Heap → Prop} {d : DefRec} {K : Params → PySem.W.Frag} (hI : PyProof.Rows.importsNone q = true) (hn : l.most = some 63) (hdf : d.params.defaults = [])
    (hY : ∀ (w : World) (h : Heap), YP w h → (K w.params).In h)
    (F : ∀ (w : World) (mg : Str → Option Value) (fa : Addr) (h : Heap), (K w.params).In h → h.Ns mainGlobals mg → mg d.name = some (.ref fa) →
      ∃ fd : FuncData, (∀ (s : Shared) (u : Value), BindsTo s fd ⟨[u], []⟩ [("_law_script", u)]) ∧ ∀ base : Heap, (K w.params).In base → base.Ns mainGlobals mg → FnOk l.prog w (K w.params) mg base CX0 43 fa fd ["_law_script"] ((fun (K : PySem.W.Frag) => (spLaw K : Sp)) (K w.params))) :
    PySem.W.WalkO q loose XP YP l.row.toRowW d [] (fun f vs => PySem.call f vs) :=
  L2.walk_of (n := 63) (k := 43) (x := "_law_script") (CX := fun _ => CX0) (sp := fun w => (fun (K : PySem.W.Frag) => (spLaw K : Sp)) (K w.params)) hI hn (by decide) hdf ⟨rfl, by decide, by decide⟩ hY F (fun _ _ a ns hl _ hS => ⟨a, ns, rfl, hS, hl, fun _ => rfl⟩) fun _ _ _ _ _ z => z
end Pf
def PySem.W.Fast.tw13107552800002536881 : Unit := ()
def PySem.W.Fast.tw3952835872577554 : Unit := ()
def PySem.W.Fast.tw14014497771184303353 : Unit := ()
def PySem.W.Fast.tw5150027755341844351 : Unit := ()
def PySem.W.Fast.tw13651310904491317911 : Unit := ()
def PySem.W.Fast.tw11721577205371921846 : Unit := ()
def PySem.W.Fast.tw13254955418104401241 : Unit := ()
def PySem.W.Fast.tw11640446677933029613 : Unit := ()
def PySem.W.Fast.tw17129657420399911027 : Unit := ()
def PySem.W.Fast.tw17989057488529411273 : Unit := ()
def PySem.W.Fast.tw14088272483804597048 : Unit := ()
def PySem.W.Fast.tw15790755807136304354 : Unit := ()
def PySem.W.Fast.tw17563336139497151539 : Unit := ()
def PySem.W.Fast.tw1959677358588633161 : Unit := ()
def PySem.W.Fast.tw10914203351075981405 : Unit := ()
def PySem.W.Fast.tw10895274882262747240 : Unit := ()
def PySem.W.Fast.tw12644943086024959665 : Unit := ()
def PySem.W.Fast.tw9580888781541644498 : Unit := ()
def PySem.W.Fast.tw5557401598613570204 : Unit := ()
def PySem.W.Fast.tw13752016535899864812 : Unit := ()
def PySem.W.Fast.tw3581623498075048470 : Unit := ()
def PySem.W.Fast.tw5275320639013904686 : Unit := ()
def PySem.W.Fast.tw14959667649136537546 : Unit := ()
def PySem.W.Fast.tw3816000080399127404 : Unit := ()
def PySem.W.Fast.tw17405494212762971206 : Unit := ()
def PySem.W.Fast.tw10937300460422198051 : Unit := ()
def PySem.W.Fast.tw18252572076655560216 : Unit := ()
def PySem.W.Fast.tw8832675291232752954 : Unit := ()
def PySem.W.Fast.tw5921389884912172917 : Unit := ()
def PySem.W.Fast.tw473984793372667286 : Unit := ()
def PySem.W.Fast.tw15530072363872952477 : Unit := ()
def PySem.W.Fast.tw3108578880235015457 : Unit := ()
def PySem.W.Fast.tw4417504907934319830 : Unit := ()
def PySem.W.Fast.tw7606924784569734475 : Unit := ()
def PySem.W.Fast.tw4273705900482121162 : Unit := ()
def PySem.W.Fast.tw4401319959648608065 : Unit := ()
def PySem.W.Fast.tw13701081283407794999 : Unit := ()
def PySem.W.Fast.tw15180691079556225100 : Unit := ()
def PySem.W.Fast.tw7165373628416308806 : Unit := ()
def PySem.W.Fast.tw12204890704778188686 : Unit := ()
def PySem.W.Fast.tw12745659445126488691 : Unit := ()
def PySem.W.Fast.tw18200387644550915954 : Unit := ()
def PySem.W.Fast.tw4396894878674199227 : Unit := ()
def PySem.W.Fast.tw7373785435364784650 : Unit := ()
def PySem.W.Fast.tw17484991501853365430 : Unit := ()
def PySem.W.Fast.tw2683169737347839493 : Unit := ()
def PySem.W.Fast.tw4099927393557920955 : Unit := ()
def PySem.W.Fast.tw1326874600965347551 : Unit := ()
def PySem.W.Fast.tw4021149909761767623 : Unit := ()
def PySem.W.Fast.tw4885617529313054066 : Unit := ()
def PySem.W.Fast.tw1048001173497265120 : Unit := ()
def PySem.W.Fast.tw3423958646971607218 : Unit := ()
def PySem.W.Fast.tw14882447464439506487 : Unit := ()
def PySem.W.Fast.tw15381558532542848998 : Unit := ()
def PySem.W.Fast.tw6981702209442359712 : Unit := ()
def PySem.W.Fast.tw8778442817891469519 : Unit := ()
def PySem.W.Fast.tw6589314997021687931 : Unit := ()
def PySem.W.Fast.tw425829933723712708 : Unit := ()
def PySem.W.Fast.tw10251728355257061880 : Unit := ()
def PySem.W.Fast.tw14967720691410523153 : Unit := ()
def PySem.W.Fast.tw14114745617348356005 : Unit := ()
def PySem.W.Fast.tw1270358014009255594 : Unit := ()
def PySem.W.Fast.tw9609063968194818048 : Unit := ()
def PySem.W.Fast.tw1242864032787957797 : Unit := ()
def PySem.W.Fast.tw4145344647775115000 : Unit := ()
def PySem.W.Fast.tw4643144627863946656 : Unit := ()
def PySem.W.Fast.tw16584372869539171870 : Unit := ()
def PySem.W.Fast.tw17735343671403012777 : Unit := ()
def PySem.W.Fast.tw18014130675056712315 : Unit := ()
def PySem.W.Fast.tw11583123594464094617 : Unit := ()
def PySem.W.Fast.tw7338081161731928911 : Unit := ()
def PySem.W.Fast.tw13971673745565832774 : Unit := ()
def PySem.W.Fast.tw2347117383460751661 : Unit := ()
def PySem.W.Fast.tw8902490950064840031 : Unit := ()
def PySem.W.Fast.tw7081326792464370169 : Unit := ()
def PySem.W.Fast.tw15760840826380144304 : Unit := ()
def PySem.W.Fast.tw3343072202219446979 : Unit := ()
def PySem.W.Fast.tw16724004136544650417 : Unit := ()
def PySem.W.Fast.tw9404116965386578742 : Unit := ()
def PySem.W.Fast.tw2842124871969764565 : Unit := ()
def PySem.W.Fast.tw3616265471996757901 : Unit := ()
def PySem.W.Fast.tw13418724663862394495 : Unit := ()
def PySem.W.Fast.tw14885908464363349911 : Unit := ()
def PySem.W.Fast.tw5204151385139746620 : Unit := ()
def PySem.W.Fast.tw14066189661787082160 : Unit := ()
def PySem.W.Fast.tw9661677375998535062 : Unit := ()
def PySem.W.Fast.tw3823688910317262119 : Unit := ()
def PySem.W.Fast.tw192664170648504033 : Unit := ()
def PySem.W.Fast.tw18244523881870906258 : Unit := ()
def PySem.W.Fast.tw5658768158177704180 : Unit := ()
def PySem.W.Fast.tw16700270725320657823 : Unit := ()
def PySem.W.Fast.tw14631014104992965671 : Unit := ()
def PySem.W.Fast.tw11860528974570006719 : Unit := ()
def PySem.W.Fast.tw9271709232786978401 : Unit := ()
def PySem.W.Fast.tw10044148455112444076 : Unit := ()
def PySem.W.Fast.tw1790085192259488544 : Unit := ()
def PySem.W.Fast.tw4574405837791557895 : Unit := ()
def PySem.W.Fast.tw7284629553499941081 : Unit := ()
def PySem.W.Fast.tw4376790468467590669 : Unit := ()
def PySem.W.Fast.tw12658399403824697675 : Unit := ()
def PySem.W.Fast.tw14771726206500642618 : Unit := ()
def PySem.W.Fast.tw6702472660472933431 : Unit := ()
def PySem.W.Fast.tw9469743517097003002 : Unit := ()
def PySem.W.Fast.tw11808425408847898375 : Unit := ()
def PySem.W.Fast.tw36584077474203958 : Unit := ()
def PySem.W.Fast.tw3646864350037054397 : Unit := ()
def PySem.W.Fast.tw13810275144313060356 : Unit := ()
def PySem.W.Fast.tw13751999777430769793 : Unit := ()
def PySem.W.Fast.tw12417904796397524488 : Unit := ()
def PySem.W.Fast.tw17239537384370256738 : Unit := ()
def PySem.W.Fast.tw6464865255103509001 : Unit := ()
def PySem.W.Fast.tw6879023908278370593 : Unit := ()
def PySem.W.Fast.tw9140879205245445750 : Unit := ()
def PySem.W.Fast.tw3169761721312009543 : Unit := ()
def PySem.W.Fast.tw1077582973180055186 : Unit := ()
def PySem.W.Fast.tw8552519249559655907 : Unit := ()
def PySem.W.Fast.tw8876580846030219844 : Unit := ()
open PySem PySem.W PyProof.Rows
set_option maxRecDepth 100000 in
set_option maxHeartbeats 0 in
theorem PySem.Challenge.cw_onecurve_k26_changes_refused_holds : PySem.Challenge.rw_onecurve_k26_changes_refused.Holds := by
  w_on; o_law; k_head; (case hw => w_witness2)
  k_fill
  refine Pf.walk (l := PySem.Challenge.rw_onecurve_k26_changes_refused) (by decide +kernel) rfl rfl (fun w h Y => PySem.W.kIn_of Y) ?F
  case F =>
    intro w mg fa h KX G hmg
    refine' Pf.all_mk rfl KX G hmg ?a1 ?l1 ?c1 ?k1 ?a2 ?l2 ?c2 ?k2 ?a3 ?l3 ?c3 ?k3 ?a4 ?l4 ?c4 ?k4 ?a5 ?l5 ?c5 ?k5 ?a6 ?l6 ?c6 ?k6 ?a7 ?l7 ?c7 ?k7 ?a8 ?l8 ?c8 ?k8 ?a9 ?l9 ?c9 ?k9 ?a10 ?l10 ?c10 ?k10 ?a11 ?l11 ?c11 ?k11 ?a12 ?l12 ?c12 ?k12 ?a13 ?l13 ?c13 ?k13 ?a14 ?l14 ?c14 ?k14 ?a15 ?l15 ?c15 ?k15 ?a16 ?l16 ?c16 ?k16 ?a17 ?l17 ?c17 ?k17 ?a18 ?l18 ?c18 ?k18 ?a19 ?l19 ?c19 ?k19 ?a20 ?l20 ?c20 ?k20 ?a21 ?l21 ?c21 ?k21 ?a22 ?l22 ?c22 ?k22 ?a23 ?l23 ?c23 ?k23 ?a24 ?l24 ?c24 ?k24 ?a25 ?l25 ?c25 ?k25 ?a26 ?l26 ?c26 ?k26 ?a27 ?l27 ?c27 ?k27 ?a28 ?l28 ?c28 ?k28 ?a29 ?l29 ?c29 ?k29 ?a30 ?l30 ?c30 ?k30 ?a31 ?l31 ?c31 ?k31 ?a32 ?l32 ?c32 ?k32 ?a33 ?l33 ?c33 ?k33 ?a34 ?l34 ?c34 ?k34 ?a35 ?l35 ?c35 ?k35 ?z_len ?z_abs ?z_range ?z_tuple ?z_set ?z_isinstance ?z_int ?z_bool ?z_all ?z_list ?z_ValueError ?x_MOST_TOLD ?x_NOUGHT ?y_NOUGHT ?w_NOUGHT ?d_NOUGHT ?e_NOUGHT ?nx_CurveError ?nx_TooMany ?nx_NoPoints ?nx_NoPoint ?nx_NoNumber ?nx_NoCurve ?nx_NoStretch ?nx_TooDeep ?nx_TooFew ?nx_NoText ?nx_NoRow ?xl_TooMany ?xex_TooMany ?xga_TooMany ?xgt_TooMany ?xca_TooMany ?xob_TooMany ?xbe_TooMany ?xm_TooMany ?xv_TooMany ?xk_TooMany_0 ?xk_TooMany_1 ?xk_TooMany_2 ?xk_TooMany_3 ?xk_TooMany_4 ?xk_TooMany_5 ?xk_TooMany_6 ?xk_TooMany_7 ?xk_TooMany_8 ?xk_TooMany_9 ?xl_NoPoints ?xex_NoPoints ?xga_NoPoints ?xgt_NoPoints ?xca_NoPoints ?xob_NoPoints ?xbe_NoPoints ?xm_NoPoints ?xv_NoPoints ?xk_NoPoints_0 ?xk_NoPoints_1 ?xk_NoPoints_2 ?xk_NoPoints_3 ?xk_NoPoints_4 ?xk_NoPoints_5 ?xk_NoPoints_6 ?xk_NoPoints_7 ?xk_NoPoints_8 ?xk_NoPoints_9 ?xl_NoPoint ?xex_NoPoint ?xga_NoPoint ?xgt_NoPoint ?xca_NoPoint ?xob_NoPoint ?xbe_NoPoint ?xm_NoPoint ?xv_NoPoint ?xk_NoPoint_0 ?xk_NoPoint_1 ?xk_NoPoint_2 ?xk_NoPoint_3 ?xk_NoPoint_4 ?xk_NoPoint_5 ?xk_NoPoint_6 ?xk_NoPoint_7 ?xk_NoPoint_8 ?xk_NoPoint_9 ?xgg ?xtk
    (case a1 => k_is)
    (case l1 => k_is)
    (case c1 => k_is)
    (case k1 => k_is)
    (case a2 => k_is)
    (case l2 => k_is)
    (case c2 => k_is)
    (case k2 => k_is)
    (case a3 => k_is)
    (case l3 => k_is)
    (case c3 => k_is)
    (case k3 => k_is)
    (case a4 => k_is)
    (case l4 => k_is)
    (case c4 => k_is)
    (case k4 => k_is)
    (case a5 => k_is)
    (case l5 => k_is)
    (case c5 => k_is)
    (case k5 => k_is)
    (case a6 => k_is)
    (case l6 => k_is)
    (case c6 => k_is)
    (case k6 => k_is)
    (case a7 => k_is)
    (case l7 => k_is)
    (case c7 => k_is)
    (case k7 => k_is)
    (case a8 => k_is)
    (case l8 => k_is)
    (case c8 => k_is)
    (case k8 => k_is)
    (case a9 => k_is)
    (case l9 => k_is)
    (case c9 => k_is)
    (case k9 => k_is)
    (case a10 => k_is)
    (case l10 => k_is)
    (case c10 => k_is)
    (case k10 => k_is)
    (case a11 => k_is)
    (case l11 => k_is)
    (case c11 => k_is)
    (case k11 => k_is)
    (case a12 => k_is)
    (case l12 => k_is)
    (case c12 => k_is)
    (case k12 => k_is)
    (case a13 => k_is)
    (case l13 => k_is)
    (case c13 => k_is)
    (case k13 => k_is)
    (case a14 => k_is)
    (case l14 => k_is)
    (case c14 => k_is)
    (case k14 => k_is)
    (case a15 => k_is)
    (case l15 => k_is)
    (case c15 => k_is)
    (case k15 => k_is)
    (case a16 => k_is)
    (case l16 => k_is)
    (case c16 => k_is)
    (case k16 => k_is)
    (case a17 => k_is)
    (case l17 => k_is)
    (case c17 => k_is)
    (case k17 => k_is)
    (case a18 => k_is)
    (case l18 => k_is)
    (case c18 => k_is)
    (case k18 => k_is)
    (case a19 => k_is)
    (case l19 => k_is)
    (case c19 => k_is)
    (case k19 => k_is)
    (case a20 => k_is)
    (case l20 => k_is)
    (case c20 => k_is)
    (case k20 => k_is)
    (case a21 => k_is)
    (case l21 => k_is)
    (case c21 => k_is)
    (case k21 => k_is)
    (case a22 => k_is)
    (case l22 => k_is)
    (case c22 => k_is)
    (case k22 => k_is)
    (case a23 => k_is)
    (case l23 => k_is)
    (case c23 => k_is)
    (case k23 => k_is)
    (case a24 => k_is)
    (case l24 => k_is)
    (case c24 => k_is)
    (case k24 => k_is)
    (case a25 => k_is)
    (case l25 => k_is)
    (case c25 => k_is)
    (case k25 => k_is)
    (case a26 => k_is)
    (case l26 => k_is)
    (case c26 => k_is)
    (case k26 => k_is)
    (case a27 => k_is)
    (case l27 => k_is)
    (case c27 => k_is)
    (case k27 => k_is)
    (case a28 => k_is)
    (case l28 => k_is)
    (case c28 => k_is)
    (case k28 => k_is)
    (case a29 => k_is)
    (case l29 => k_is)
    (case c29 => k_is)
    (case k29 => k_is)
    (case a30 => k_is)
    (case l30 => k_is)
    (case c30 => k_is)
    (case k30 => k_is)
    (case a31 => k_is)
    (case l31 => k_is)
    (case c31 => k_is)
    (case k31 => k_is)
    (case a32 => k_is)
    (case l32 => k_is)
    (case c32 => k_is)
    (case k32 => k_is)
    (case a33 => k_is)
    (case l33 => k_is)
    (case c33 => k_is)
    (case k33 => k_is)
    (case a34 => k_is)
    (case l34 => k_is)
    (case c34 => k_is)
    (case k34 => k_is)
    (case a35 => k_is)
    (case l35 => k_is)
    (case c35 => k_is)
    (case k35 => k_is)
    (case z_len => k_is)
    (case z_abs => k_is)
    (case z_range => k_is)
    (case z_tuple => k_is)
    (case z_set => k_is)
    (case z_isinstance => k_is)
    (case z_int => k_is)
    (case z_bool => k_is)
    (case z_all => k_is)
    (case z_list => k_is)
    (case z_ValueError => k_is)
    (case x_MOST_TOLD => k_is)
    (case x_NOUGHT => k_is)
    (case y_NOUGHT => k_is)
    (case w_NOUGHT => rfl)
    (case d_NOUGHT => rfl)
    (case e_NOUGHT => rfl)
    (case nx_CurveError => k_is)
    (case nx_TooMany => k_is)
    (case nx_NoPoints => k_is)
    (case nx_NoPoint => k_is)
    (case nx_NoNumber => k_is)
    (case nx_NoCurve => k_is)
    (case nx_NoStretch => k_is)
    (case nx_TooDeep => k_is)
    (case nx_TooFew => k_is)
    (case nx_NoText => k_is)
    (case nx_NoRow => k_is)
    (case xl_TooMany => k_is)
    (case xex_TooMany => k_exc)
    (case xga_TooMany => k_is)
    (case xgt_TooMany => k_is)
    (case xca_TooMany => k_is)
    (case xob_TooMany => k_is)
    (case xbe_TooMany => k_is)
    (case xm_TooMany => kts_exm)
    (case xv_TooMany => kit_is)
    (case xk_TooMany_0 => kit_is)
    (case xk_TooMany_1 => kit_is)
    (case xk_TooMany_2 => kit_is)
    (case xk_TooMany_3 => kit_is)
    (case xk_TooMany_4 => kit_is)
    (case xk_TooMany_5 => kit_is)
    (case xk_TooMany_6 => kit_is)
    (case xk_TooMany_7 => kit_is)
    (case xk_TooMany_8 => kit_is)
    (case xk_TooMany_9 => kit_is)
    (case xl_NoPoints => k_is)
    (case xex_NoPoints => k_exc)
    (case xga_NoPoints => k_is)
    (case xgt_NoPoints => k_is)
    (case xca_NoPoints => k_is)
    (case xob_NoPoints => k_is)
    (case xbe_NoPoints => k_is)
    (case xm_NoPoints => kts_exm)
    (case xv_NoPoints => kit_is)
    (case xk_NoPoints_0 => kit_is)
    (case xk_NoPoints_1 => kit_is)
    (case xk_NoPoints_2 => kit_is)
    (case xk_NoPoints_3 => kit_is)
    (case xk_NoPoints_4 => kit_is)
    (case xk_NoPoints_5 => kit_is)
    (case xk_NoPoints_6 => kit_is)
    (case xk_NoPoints_7 => kit_is)
    (case xk_NoPoints_8 => kit_is)
    (case xk_NoPoints_9 => kit_is)
    (case xl_NoPoint => k_is)
    (case xex_NoPoint => k_exc)
    (case xga_NoPoint => k_is)
    (case xgt_NoPoint => k_is)
    (case xca_NoPoint => k_is)
    (case xob_NoPoint => k_is)
    (case xbe_NoPoint => k_is)
    (case xm_NoPoint => kts_exm)
    (case xv_NoPoint => kit_is)
    (case xk_NoPoint_0 => kit_is)
    (case xk_NoPoint_1 => kit_is)
    (case xk_NoPoint_2 => kit_is)
    (case xk_NoPoint_3 => kit_is)
    (case xk_NoPoint_4 => kit_is)
    (case xk_NoPoint_5 => kit_is)
    (case xk_NoPoint_6 => kit_is)
    (case xk_NoPoint_7 => kit_is)
    (case xk_NoPoint_8 => kit_is)
    (case xk_NoPoint_9 => kit_is)
    (case xgg => k_is)
    (case xtk => k_is)
#print axioms PySem.Challenge.cw_onecurve_k26_changes_refused_holds
