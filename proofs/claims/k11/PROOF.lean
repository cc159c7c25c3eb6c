import PyProof.Rows.All
import Wide.All
import OpenK.AllK
import Wide.FinOn
import Lean
import PyProof.EqAt
import PyProof.EqKinds
import PyProof.TupleCall
import PySem.Challenge.RW_onecurve_k11_no_points
set_option Elab.async false
set_option linter.all false
set_option maxRecDepth 100000
/-! THE HAND LAYER, for ints, bools, texts, own classes, LISTS and tuples (index, slices, in, append, pop ..), calls, loops. Paste it whole ahead of your own text; what your proof does not reach may be deleted. -/
namespace L2
open PySem PySem.Spec PyProof.Rows

/-- a key: an int or a str -/
abbrev Key := Sum Int Str
def keyIs : Key → Value → Bool
  | .inl k, v => Value.isInt k v
  | .inr x, v => Value.isStrOf x v
def keyH (w : World) : Key → Int
  | .inl k => hashInt k
  | .inr x => hashStr w x
theorem keyIs_shape : ∀ {k : Key} {v : Value}, keyIs k v = true → (∃ i t, k = Sum.inl i ∧ v = Value.int i t) ∨ (∃ x t, k = Sum.inr x ∧ v = Value.str x t)
  | .inl i, v, h => by
    obtain ⟨t, e⟩ := Value.isInt_shape (k := i) (v := v) h
    exact .inl ⟨i, t, rfl, e⟩
  | .inr x, v, h => by
    obtain ⟨t, e⟩ := Value.isStrOf_shape (x := x) (v := v) h
    exact .inr ⟨x, t, rfl, e⟩
theorem keyIs_int (i : Int) (t : Tok) : keyIs (.inl i) (.int i t) = true := by simp [keyIs, Value.isInt]
theorem keyIs_str (x : Str) (t : Tok) : keyIs (.inr x) (.str x t) = true := by simp [keyIs, Value.isStrOf]
theorem key_ll (a b : Int) : decide ((Sum.inl a : Key) = Sum.inl b) = (a == b) := by
  by_cases e : a = b
  · subst e; simp
  · have h : ¬ (Sum.inl a : Key) = Sum.inl b := fun q => e (Sum.inl.inj q)
    rw [decide_eq_false h]
    exact (beq_eq_false_iff_ne.mpr e).symm
theorem key_rr (a b : Str) : decide ((Sum.inr a : Key) = Sum.inr b) = decide (a = b) := by
  by_cases e : a = b
  · subst e; simp
  · have h : ¬ (Sum.inr a : Key) = Sum.inr b := fun q => e (Sum.inr.inj q)
    rw [decide_eq_false h, decide_eq_false e]
theorem key_lr (a : Int) (b : Str) : decide ((Sum.inl a : Key) = Sum.inr b) = false := decide_eq_false (fun q => nomatch q)
theorem key_rl (a : Str) (b : Int) : decide ((Sum.inr a : Key) = Sum.inl b) = false := decide_eq_false (fun q => nomatch q)

def mixKind (prog : Program) (w : World) : PySem.KeyKind prog w Key where
  is := keyIs
  hash := keyH w
  inj := fun v a b ha hb => by
    rcases keyIs_shape ha with ⟨i, t, rfl, rfl⟩ | ⟨x, t, rfl, rfl⟩
    · rcases keyIs_shape hb with ⟨j, u, rfl, e⟩ | ⟨y, u, rfl, e⟩
      · injection e with e1 _; rw [e1]
      · exact nomatch e
    · rcases keyIs_shape hb with ⟨j, u, rfl, e⟩ | ⟨y, u, rfl, e⟩
      · exact nomatch e
      · injection e with e1 _; rw [e1]
  byValue := fun k v h => by
    rcases keyIs_shape h with ⟨i, t, rfl, rfl⟩ | ⟨x, t, rfl, rfl⟩ <;> rfl
  pyHash := fun hv h => by
    rcases keyIs_shape hv with ⟨i, t, rfl, rfl⟩ | ⟨x, t, rfl, rfl⟩
    · exact wpAny_pyHash_int h
    · exact wpAny_pyHash_str h
  eqBool := fun hu hv h => by
    rcases keyIs_shape hu with ⟨i, t, rfl, rfl⟩ | ⟨x, t, rfl, rfl⟩
    · rcases keyIs_shape hv with ⟨j, u, rfl, rfl⟩ | ⟨y, u, rfl, rfl⟩
      · rw [key_ll] at h; exact wpAny_eqBool_int h
      · rw [key_lr] at h; exact SeqAt.EqAt.int_str i t y u _ _ _ _ h
    · rcases keyIs_shape hv with ⟨j, u, rfl, rfl⟩ | ⟨y, u, rfl, rfl⟩
      · rw [key_rl] at h; exact SeqAt.EqAt.str_int x t j u _ _ _ _ h
      · rw [key_rr] at h; exact wpAny_eqBool_str h
  «strs» := fun k x t v h => by
    rcases keyIs_shape h with ⟨i, u, rfl, e⟩ | ⟨y, u, rfl, e⟩
    · exact nomatch e
    · injection e with e1 _
      subst e1
      cases v <;> rfl

theorem mixKind_int (prog : Program) (w : World) (i : Int) (t : Tok) : (mixKind prog w).is (.inl i) (.int i t) = true := keyIs_int i t
theorem mixKind_str (prog : Program) (w : World) (x : Str) (t : Tok) : (mixKind prog w).is (.inr x) (.str x t) = true := keyIs_str x t
end L2

namespace L2
open PySem PySem.Spec PyProof.Rows

/-- a value, without the heap -/
inductive V where
  | non | bl (b : Bool) | int (i : Int) | str (x : Str) | byt (b : Array UInt8) | flt (b : UInt64) | ref (a : Addr) | ty (n : String)
  deriving DecidableEq

def RelV : V → Value → Prop
  | .non, u => u = Value.none
  | .bl b, u => u = Value.bool b
  | .int i, u => ∃ t, u = Value.int i t
  | .str x, u => ∃ t, u = Value.str x t
  | .byt b, u => ∃ t, u = Value.bytes b t
  | .flt b, u => ∃ t, u = Value.float b t
  | .ref a, u => u = Value.ref a
  | .ty n, u => u = Value.type n

abbrev Vals : List V → List Value → Prop := Paired RelV
theorem Vals.length {xs : List V} {us : List Value} (r : Vals xs us) : xs.length = us.length := Paired.length r
theorem Vals.get : ∀ {xs : List V} {us : List Value} {i : Nat} {x : V}, Vals xs us → xs[i]? = some x → ∃ u, us[i]? = some u ∧ RelV x u
  | _, _, _, _, .nil, e => by simp at e
  | _, _, 0, _, .cons r _, e => by simp at e; subst e; exact ⟨_, rfl, r⟩
  | _, _, i + 1, x, .cons _ t, e => by
    obtain ⟨u, h1, h2⟩ := Vals.get (i := i) (x := x) t (by simpa using e)
    exact ⟨u, by simpa using h1, h2⟩
theorem Vals.set {x : V} {u : Value} (r : RelV x u) : ∀ {xs : List V} {us : List Value} (i : Nat), Vals xs us → Vals (xs.set i x) (us.set i u)
  | _, _, _, .nil => .nil
  | _, _, 0, .cons _ t => .cons r t
  | _, _, i + 1, .cons q t => .cons q (Vals.set r i t)
theorem Vals.append {xs ys : List V} {us ws : List Value} (a : Vals xs us) (b : Vals ys ws) : Vals (xs ++ ys) (us ++ ws) := by
  induction a with
  | nil => exact b
  | cons r t ih => exact .cons r ih
theorem Vals.take : ∀ {xs : List V} {us : List Value} (n : Nat), Vals xs us → Vals (xs.take n) (us.take n)
  | _, _, 0, _ => .nil
  | _, _, _ + 1, .nil => .nil
  | _, _, n + 1, .cons r t => .cons r (Vals.take n t)
theorem Vals.drop : ∀ {xs : List V} {us : List Value} (n : Nat), Vals xs us → Vals (xs.drop n) (us.drop n)
  | _, _, 0, r => r
  | _, _, _ + 1, .nil => .nil
  | _, _, n + 1, .cons _ t => Vals.drop n t
def RelO : Option V → Option Value → Prop
  | some v, some u => RelV v u
  | none, none => True
  | _, _ => False
def KV {κ : Type} : List (κ × V) → List (κ × Value) → Prop := Paired fun (p : κ × V) (q : κ × Value) => p.1 = q.1 ∧ RelV p.2 q.2

/-- a key of a dict (00_mix): an int or a text -/
def kV : Key → V
  | .inl i => .int i
  | .inr x => .str x

/-- what stands at a tracked address -/
inductive HO where
  /-- a list -/
  | lst (xs : List V)
  /-- a tuple (never changes) -/
  | tup (xs : List V)
  /-- a dict whose keys are ints and texts; one whose keys are tuples of ints and texts (the empty one is both) -/
  | dK (kvs : List (Key × V)) | dT (kvs : List (List Key × V))
  /-- a set of ints: its members, its size -/
  | set (S : Int → Bool) (n : Nat)
  /-- an instance of the class at C, its dict at dx, its attributes -/
  | ins (C dx : Addr) (fs : List (Str × V))
  /-- the dict of the instance at x -/
  | own (x : Addr)
  /-- the dict of an exception -/
  | xd (fs : List (Str × V))
  /-- a bound method, f of x -/
  | met (f x : Addr)
  /-- a range object lo, lo + 1, .. below hi -/
  | rng (lo hi : Int)
  /-- a thing that is known to the object (the script; a dict while a loop walks it): read, never written while it is so -/
  | frz (o : Obj) (u : HO)
  /-- a code object's table -/
  | tbl (ps : Array Value)
  /-- any other thing, by what is true of its one object (a def of one's own: SetO a S n := HO.ext fun h => ..) -/
  | ext (φ : Heap → Prop)

abbrev Hp := Addr → Option HO
def upd (H : Hp) (a : Addr) (o : HO) : Hp := fun b => if b = a then some o else H b
theorem upd_same {H : Hp} {a : Addr} {o : HO} : upd H a o a = some o := by unfold upd; rw [if_pos rfl]
theorem upd_ne {H : Hp} {a b : Addr} {o : HO} (h : b ≠ a) : upd H a o b = H b := by unfold upd; rw [if_neg h]
theorem upd_upd {H : Hp} {a : Addr} {o u : HO} : upd (upd H a o) a u = upd H a u := by
  funext b; unfold upd; split <;> rfl
/-- two objects of different content stand apart -/
theorem ne_of {H : Hp} {a b : Addr} {o u : HO} (h : H a = some o) (h' : H b = some u) (d : o ≠ u) : a ≠ b := by
  intro e; subst e; rw [h] at h'; exact d (Option.some.inj h')
theorem ne_of_none {H : Hp} {a b : Addr} {o : HO} (h : H a = some o) (h' : H b = none) : a ≠ b := by
  intro e; subst e; rw [h] at h'; cases h'

section
variable (P : Program) (w : World)
def ObjOk (H : Hp) (h : Heap) (a : Addr) : HO → Prop
  | .lst xs => xs.length ≤ sizeLine ∧ ∃ (its : List Value) (n : Nat), Vals xs its ∧ h.get? a = some { cls := .type "list", data := .seq its.toArray n }
  | .tup xs => xs.length ≤ sizeLine ∧ ∃ its : List Value, Vals xs its ∧ IsTup h a its.toArray
  | .dK kvs => kvs.length ≤ sizeLine ∧ (a == sysModules) = false ∧ ∃ vs, KV kvs vs ∧ h.DictOf (mixKind P w) a vs
  | .dT kvs => kvs.length ≤ sizeLine ∧ (a == sysModules) = false ∧ ∃ xs : List (List Key × Addr × Value),
      Paired (fun (p : List Key × V) (q : List Key × Addr × Value) => p.1 = q.1 ∧ H q.2.1 = some (.tup (p.1.map kV)) ∧ RelV p.2 q.2.2) kvs xs ∧
      ∃ o es ep, h.get? a = some o ∧ o.ExactDict ∧ o.data = .dict es ep ∧ es.toList = xs.map (entryOfKey (tupleKind (mixKind P w))) ∧ (xs.map (·.1)).Nodup
  | .set S n => h.SetOf (intKind P w) a S n
  | .ins C dx fs => H dx = some (.own a) ∧ fs.length ≤ 1000 ∧ dx ≠ a ∧ h.get? a = some (PySem.W.instObj C dx) ∧
      ∃ mA, h.Ns1 dx mA ∧ (∀ f, RelO (fs.lookup f) (mA f)) ∧ PySem.Within mA (fs.map (·.1))
  | .own _ => ∃ o, h.get? a = some o
  | .xd fs => ∃ mA, h.Ns1 a mA ∧ ∀ f, RelO (fs.lookup f) (mA f)
  | .rng lo hi => ∃ t u v, h.get? a = some { cls := .type "range", data := .fields #[.int lo t, .int hi u, .int 1 v] }
  | .frz o u => h.get? a = some o ∧ ObjOk H h a u
  | .tbl ps => h.get? a = some { cls := .none, data := .fields ps }
  | .met f x => h.get? a = some (PySem.W.methodObj (.ref f) (.ref x))
  | .ext φ => φ h ∧ (∃ o, h.get? a = some o) ∧ ∀ h1 h2 : Heap, φ h1 → (∀ o, h1.get? a = some o → h2.get? a = some o) → φ h2
/-- the abstract heap is held -/
def HOk (H : Hp) (h : Heap) : Prop := ∀ a o, H a = some o → ObjOk P w H h a o
end

section
variable {P : Program} {w : World} {H H' : Hp} {h h' : Heap} {a : Addr} {o : HO}
theorem ObjOk.lt (x : ObjOk P w H h a o) : a < h.objs.size := by
  cases o with
  | lst xs => obtain ⟨_, _, _, _, e⟩ := x; exact Heap.lt_size e
  | tup xs => obtain ⟨_, _, _, p⟩ := x; exact p.lt
  | dK kvs => obtain ⟨_, _, _, _, o, _, _, e, _⟩ := x; exact Heap.lt_size e
  | dT kvs => obtain ⟨_, _, _, _, o, _, _, e, _⟩ := x; exact Heap.lt_size e
  | set S n => obtain ⟨o, _, _, _, e, _⟩ := x; exact Heap.lt_size e
  | ins C dx fs => obtain ⟨_, _, _, e, _⟩ := x; exact Heap.lt_size e
  | own y => obtain ⟨_, e⟩ := x; exact Heap.lt_size e
  | xd fs => obtain ⟨_, ⟨_, _, _, e, _⟩, _⟩ := x; exact Heap.lt_size e
  | rng lo hi => obtain ⟨_, _, _, e⟩ := x; exact Heap.lt_size e
  | frz ob u => obtain ⟨e, _⟩ := x; exact Heap.lt_size e
  | tbl ps => exact Heap.lt_size (show h.get? a = some _ from x)
  | met f y => exact Heap.lt_size (show h.get? a = some _ from x)
  | ext φ => obtain ⟨_, ⟨_, e⟩, _⟩ := x; exact Heap.lt_size e
theorem Paired.mapP {α β : Type} {F G : α → β → Prop} {l₁ : List α} {l₂ : List β} (h : Paired F l₁ l₂) (f : ∀ a b, F a b → G a b) : Paired G l₁ l₂ := by
  induction h with
  | nil => exact .nil
  | cons r t ih => exact .cons (f _ _ r) ih
/-- what an object's description leans on: its own object, its own dict, the tuples -/
theorem ObjOk.stay (x : ObjOk P w H h a o) (k : ∀ b u, (b = a ∨ H b = some (.own a)) → h.get? b = some u → h'.get? b = some u)
    (ho : ∀ b, H b = some (.own a) → H' b = some (.own a)) (ht : ∀ b xs, H b = some (.tup xs) → H' b = some (.tup xs)) : ObjOk P w H' h' a o := by
  induction o with
  | lst xs => obtain ⟨z, its, n, r, e⟩ := x; exact ⟨z, its, n, r, k _ _ (.inl rfl) e⟩
  | tup xs => obtain ⟨z, its, r, ob, e, c⟩ := x; exact ⟨z, its, r, ob, k _ _ (.inl rfl) e, c⟩
  | dK kvs => obtain ⟨z, y, vs, r, ob, es, ep, e, c⟩ := x; exact ⟨z, y, vs, r, ob, es, ep, k _ _ (.inl rfl) e, c⟩
  | dT kvs =>
    obtain ⟨z, y, xs, r, ob, es, ep, e, c⟩ := x
    exact ⟨z, y, xs, Paired.mapP r fun p q z => ⟨z.1, ht _ _ z.2.1, z.2.2⟩, ob, es, ep, k _ _ (.inl rfl) e, c⟩
  | set S n => obtain ⟨ob, es, ep, t, e, c⟩ := x; exact ⟨ob, es, ep, t, k _ _ (.inl rfl) e, c⟩
  | ins C dx fs =>
    obtain ⟨d, z, ne, e, mA, ⟨od, es, ep, e2, c⟩, r⟩ := x
    exact ⟨ho _ d, z, ne, k _ _ (.inl rfl) e, mA, ⟨od, es, ep, k _ _ (.inr d) e2, c⟩, r⟩
  | own y => obtain ⟨ob, e⟩ := x; exact ⟨ob, k _ _ (.inl rfl) e⟩
  | xd fs => obtain ⟨mA, ⟨od, es, ep, e, c⟩, r⟩ := x; exact ⟨mA, ⟨od, es, ep, k _ _ (.inl rfl) e, c⟩, r⟩
  | rng lo hi => obtain ⟨t, u, v, e⟩ := x; exact ⟨t, u, v, k _ _ (.inl rfl) e⟩
  | frz ob u ih => obtain ⟨e, q⟩ := x; exact ⟨k _ _ (.inl rfl) e, ih q⟩
  | tbl ps =>
    have e : h.get? a = some { cls := .none, data := .fields ps } := x
    show h'.get? a = some { cls := .none, data := .fields ps }
    exact k a _ (.inl rfl) e
  | met f y =>
    have e : h.get? a = some (PySem.W.methodObj (.ref f) (.ref y)) := x
    show h'.get? a = some (PySem.W.methodObj (.ref f) (.ref y))
    exact k a _ (.inl rfl) e
  | ext φ => obtain ⟨p, ⟨o, e⟩, st⟩ := x; exact ⟨st _ _ p fun o q => k _ _ (.inl rfl) q, ⟨o, k _ _ (.inl rfl) e⟩, st⟩
theorem HOk.lt (x : HOk P w H h) (e : H a = some o) : a < h.objs.size := (x a o e).lt
theorem HOk.fresh (x : HOk P w H h) (e : h.objs.size ≤ a) : H a = none := by
  cases q : H a with
  | none => rfl
  | some u => exact absurd (Nat.lt_of_lt_of_le (x.lt q) e) (Nat.lt_irrefl _)
/-- every object of the heap is kept -/
theorem HOk.kept (x : HOk P w H h) (k : ∀ b u, h.get? b = some u → h'.get? b = some u) : HOk P w H h' := fun a o e =>
  (x a o e).stay (fun b u _ q => k b u q) (fun _ q => q) fun _ _ q => q
/-- a new object is laid and tracked -/
theorem HOk.laid (x : HOk P w H h) (k : ∀ b u, h.get? b = some u → h'.get? b = some u) (hp : h.objs.size ≤ a) (new : ObjOk P w (upd H a o) h' a o) : HOk P w (upd H a o) h' := fun b u e => by
  have hn := x.fresh hp
  by_cases hb : b = a
  · subst hb; rw [upd_same] at e; cases e; exact new
  · rw [upd_ne hb] at e
    exact (x b u e).stay (fun c v _ q => k c v q) (fun c q => by rw [upd_ne (ne_of_none q hn)]; exact q) fun c xs q => by rw [upd_ne (ne_of_none q hn)]; exact q
end

/-- what may be read as u: it is u, or a known u -/
def Rd (H : Hp) (a : Addr) (u : HO) : Prop := H a = some u ∨ ∃ o, H a = some (.frz o u)
theorem Rd.ok {P : Program} {w : World} {H : Hp} {h : Heap} {a : Addr} {u : HO} (r : Rd H a u) (x : HOk P w H h) : ObjOk P w H h a u := by
  rcases r with r | ⟨o, r⟩
  · exact x a u r
  · obtain ⟨_, q⟩ := x a _ r
    exact q
/-- what may be written -/
def Mut : Option HO → Prop
  | some (.lst _) => True
  | some (.dK _) => True
  | some (.dT _) => True
  | some (.set _ _) => True
  | some (.ins _ _ _) => True
  | some (.ext _) => True
  | _ => False
section
variable {P : Program} {w : World} {H : Hp} {h h' : Heap} {x e : Addr} {o' : HO}
/-- the object at e is changed: x itself, or the dict of the instance x -/
theorem HOk.write (ok : HOk P w H h) (mu : Mut (H x)) (he : e = x ∨ H e = some (.own x)) (k : ∀ b u, b ≠ e → h.get? b = some u → h'.get? b = some u) (heo : ∃ u, h'.get? e = some u)
    (new : ObjOk P w (upd H x o') h' x o') : HOk P w (upd H x o') h' := fun b u q => by
  have nown : ∀ c y, H c = some (.own y) → c ≠ x := fun c y r z => by subst z; rw [r] at mu; exact mu
  have ntup : ∀ c xs, H c = some (.tup xs) → c ≠ x := fun c xs r z => by subst z; rw [r] at mu; exact mu
  by_cases hb : b = x
  · subst hb; rw [upd_same] at q; cases q; exact new
  · rw [upd_ne hb] at q
    by_cases hbe : b = e
    · have q' : H b = some (.own x) := by
        rcases he with z | z
        · exact absurd (hbe.trans z) hb
        · rw [hbe]; exact z
      rw [q] at q'; cases q'
      obtain ⟨v, hv⟩ := heo
      exact ⟨v, by rw [hbe]; exact hv⟩
    · refine (ok b u q).stay (fun c v hc r => k c v ?_ r) (fun c r => by rw [upd_ne (nown c b r)]; exact r) fun c xs r => by rw [upd_ne (ntup c xs r)]; exact r
      rcases hc with rfl | hc
      · exact hbe
      · rintro rfl
        rcases he with z | z
        · exact nown c b hc z
        · rw [hc] at z; cases z; exact hb rfl
end

/-! ### kept unless tracked; of the frames at fs (the callers') the slots may change (an exception that passes writes there); of the records at ex (iterators) nothing is said -/
structure Un (fs ex : List Addr) (H H' : Hp) (h h' : Heap) : Prop where
  keep : ∀ b o, h.get? b = some o → H b = none → b ∉ fs → b ∉ ex → h'.get? b = some o
  slot : ∀ b o, h.get? b = some o → H b = none → b ∈ fs → b ∉ ex → ∃ sl, h'.get? b = some { o with slots := sl }
  free : ∀ b o, h.get? b = some o → H b = none → b ∉ ex → H' b = none
  there : ∀ b o, h.get? b = some o → b ∉ ex → ∃ o', h'.get? b = some o'
  tups : ∀ b xs, H b = some (.tup xs) → H' b = some (.tup xs)
  frzs : ∀ b o u, H b = some (.frz o u) → H' b = some (.frz o u)
  tbls : ∀ b ps, H b = some (.tbl ps) → ∃ more, H' b = some (.tbl (ps ++ more))
section
variable {fs fs' ex ex' : List Addr} {H H1 H2 : Hp} {h h1 h2 h' : Heap} {a x e : Addr} {o : HO}
theorem Un.any (u : Un fs ex H H1 h h1) {b : Addr} {ob : Obj} (q : h.get? b = some ob) (n : H b = none) (hx : b ∉ ex) : ∃ sl, h1.get? b = some { ob with slots := sl } := by
  by_cases hb : b ∈ fs
  · exact u.slot b ob q n hb hx
  · exact ⟨ob.slots, u.keep b ob q n hb hx⟩
theorem Un.kept (k : ∀ b u, h.get? b = some u → h'.get? b = some u) : Un fs ex H H h h' :=
  ⟨fun b ob q _ _ _ => k b ob q, fun b ob q _ _ _ => ⟨ob.slots, k b ob q⟩, fun _ _ _ n _ => n, fun b ob q _ => ⟨ob, k b ob q⟩, fun _ _ q => q, fun _ _ _ q => q, fun _ ps q => ⟨#[], by rw [q]; simp⟩⟩
theorem Un.refl : Un fs ex H H h h := Un.kept fun _ _ q => q
theorem Un.laid (k : ∀ b u, h.get? b = some u → h'.get? b = some u) (hp : h.objs.size ≤ a) (hn : H a = none) : Un fs ex H (upd H a o) h h' where
  keep := fun b u q _ _ _ => k b u q
  slot := fun b u q _ _ _ => ⟨u.slots, k b u q⟩
  free := fun b u q n _ => by rw [upd_ne (Nat.ne_of_lt (Nat.lt_of_lt_of_le (Heap.lt_size q) hp))]; exact n
  there := fun b u q _ => ⟨u, k b u q⟩
  tups := fun b xs q => by rw [upd_ne (ne_of_none q hn)]; exact q
  frzs := fun b u xs q => by rw [upd_ne (ne_of_none q hn)]; exact q
  tbls := fun b ps q => ⟨#[], by rw [upd_ne (ne_of_none q hn), q]; simp⟩
theorem Un.write (mu : Mut (H x)) (he : e = x ∨ H e = some (.own x)) (k : ∀ b u, b ≠ e → h.get? b = some u → h'.get? b = some u) (heo : ∃ u, h'.get? e = some u) : Un fs ex H (upd H x o) h h' := by
  have hx : ∀ b, H b = none → b ≠ x := fun b n z => by subst z; rw [n] at mu; exact mu
  have hb : ∀ b, H b = none → b ≠ e := fun b n z => by
    subst z
    rcases he with r | r
    · exact hx b n r
    · rw [n] at r; cases r
  have hm : ∀ b u, H b = some u → ¬ Mut (some u) → b ≠ x := fun b u q nm z => by subst z; rw [q] at mu; exact nm mu
  refine ⟨fun b u q n _ _ => k b u (hb b n) q, fun b u q n _ _ => ⟨u.slots, k b u (hb b n) q⟩, fun b u q n _ => by rw [upd_ne (hx b n)]; exact n, fun b u q _ => ?_,
    fun b xs q => by rw [upd_ne (hm b _ q fun z => z)]; exact q, fun b u xs q => by rw [upd_ne (hm b _ q fun z => z)]; exact q, fun b ps q => ⟨#[], by rw [upd_ne (hm b _ q fun z => z), q]; simp⟩⟩
  by_cases hbe : b = e
  · subst hbe; exact heo
  · exact ⟨u, k b u hbe q⟩
end

/-! ### the heap without what is tracked -/
def trk (h : Heap) (H : Hp) : List Addr := (List.range h.objs.size).filter fun a => (H a).isSome
def hidT (h : Heap) (H : Hp) : Heap := PySem.W.hideAll h (trk h H)
theorem hidT_size (h : Heap) (H : Hp) : (hidT h H).objs.size = h.objs.size := PySem.W.hideAll_size _ _
theorem hidT_get {h : Heap} {H : Hp} {b : Addr} {o : Obj} (e : h.get? b = some o) (n : H b = none) : (hidT h H).get? b = some o :=
  PySem.W.hideAll_get _ e fun hm => by
    have q : (H b).isSome = true := (List.mem_filter.mp hm).2
    rw [n] at q; simp at q
theorem of_hidT {h : Heap} {H : Hp} {b : Addr} {o : Obj} (e : (hidT h H).get? b = some o) : h.get? b = some o ∧ H b = none := by
  have e' : h.get? b = some o := PySem.W.of_hideAll (trk h H) e
  refine ⟨e', ?_⟩
  cases q : H b with
  | none => rfl
  | some x =>
    have hm : b ∈ trk h H := List.mem_filter.mpr ⟨List.mem_range.mpr (Heap.lt_size e'), by simp [q]⟩
    have z : (hidT h H).get? b = none := PySem.W.hideAll_none (trk h H) hm
    rw [z] at e; cases e

/-! ### OpenK's ledger, filled with every new object but one -/
def allNews (g h : Heap) (L : Addr) : List (Addr × Obj) := (List.range h.objs.size).filterMap fun a => if a = L ∨ (g.get? a).isSome = true then none else (h.get? a).map fun o => (a, o)
def rest (g h : Heap) (L d : Addr) : List (Addr × Obj) := (allNews g h L).filter fun p => decide (p.1 ≠ d)
end L2

namespace L2
open PySem PySem.Spec PyProof.Rows

/-- the module's facts, over the base: the heap at the law's entry without what is tracked there -/
structure Mod (K : PySem.W.Frag) (mg : Str → Option Value) (base : Heap) : Prop where
  kin : K.In base
  glob : base.Ns mainGlobals mg
  blt : ∃ mb, base.Ns builtinsNs mb ∧ ∀ x : Str, x ≠ "__name__" → mb x = bootBuiltins x
  nolimit : base.NoLimit
  seer : base.NoSeer

/-- the context: a def's body (or a comprehension's block) running. base: fixed through the whole law; s₀, H₀: the entry; outer: the frames whose slots others may change (a def's callers); stack: all frames that run;
   ex: iterators that were made ahead of the entry and are walked here (a comprehension's); fn: the names whose cells were made at the entry (a def: all; a comprehension's block: its own); calm: not within an except suite; pn: pins that every state bears; xe: what is wanted of an exception that leaves the code -/
structure Cx where
  prog : Program
  w : World
  K : PySem.W.Frag
  mg : Str → Option Value
  base : Heap
  A : Around
  N : List Str
  s₀ : Shared
  H₀ : Hp
  env : Env
  outer : List Env
  stack : List Env
  ex : List Addr
  fn : Str → Bool
  calm : Bool
  pn : List (Addr × Obj)
  xe : Value → Shared → Prop
/-- the callers' frames -/
def frs (l : List Env) : List Addr := l.filterMap (·.frame)
abbrev Cx.fs (X : Cx) : List Addr := frs X.outer

def Vis (sc : Scope) (x : Str) : Prop := sc.names.lookup x = some .local ∨ sc.names.lookup x = some .cell ∨ sc.names.lookup x = some .free
def Loc (sc : Scope) (x : Str) : Prop := sc.names.lookup x = some .local ∨ sc.names.lookup x = some .cell
def Look (env : Env) (h : Heap) (m : Str → Option Value) (x : Str) (u : Value) : Prop :=
  (env.kindOf x = some .local ∧ m x = some u) ∨ ((env.kindOf x = some .cell ∨ env.kindOf x = some .free) ∧ ∃ c, env.cells.lookup x = some c ∧ h.IsCell c (some u))

structure Cx.Ok (X : Cx) : Prop where
  mod : Mod X.K X.mg X.base
  kind : X.env.scope.kind = .function
  glob : X.env.globals = mainGlobals
  blt : X.env.builtins = builtinsNs
  above : X.s₀.heap.objs.size ≤ X.env.locals
  inj : ∀ x y c, X.env.cells.lookup x = some c → X.env.cells.lookup y = some c → x = y
  has : ∀ x, (X.env.kindOf x = some .cell ∨ X.env.kindOf x = some .free) → ∃ c, X.env.cells.lookup x = some c
  cab : ∀ x c, X.fn x = true → X.env.cells.lookup x = some c → X.s₀.heap.objs.size ≤ c
  hd : X.calm = true → X.A.handled = none
  frames : X.A.frames = some X.stack
  stk : X.stack = X.outer ∨ (X.stack = X.env :: X.outer ∧ X.env.frame = some X.env.locals)
  exf : ∀ b ∈ X.ex, b ≠ X.env.locals ∧ ∀ x c, X.env.cells.lookup x = some c → c ≠ b
  bs : ∀ b o, X.base.get? b = some o → X.s₀.heap.get? b = some o ∧ X.H₀ b = none
  bsz : X.base.objs.size ≤ X.s₀.heap.objs.size
  noex : ∀ b o, X.base.get? b = some o → b ∉ X.ex
  exfs : ∀ b ∈ X.ex, b ∉ X.fs
  funs : X.s₀.heap.FunFrames X.base X.outer
  frf : ∀ b ∈ X.fs, X.H₀ b = none

structure Inv (X : Cx) (pins : List (Addr × Obj)) (σ : List (Option V)) (H : Hp) (s : Shared) : Prop where
  ok : X.Ok
  os : s.os = X.s₀.os
  bare : AllBare s.gens
  base : Un X.fs X.ex X.H₀ H X.s₀.heap s.heap
  loc : ∃ m, s.heap.Ns X.env.locals m ∧ ∀ (i : Nat) (x : Str) (v : V), X.N[i]? = some x → σ[i]? = some (some v) → Vis X.env.scope x → ∃ u, RelV v u ∧ Look X.env s.heap m x u
  cell : ∀ x c, X.env.cells.lookup x = some c → ∃ v, s.heap.IsCell c v
  free : H X.env.locals = none
  freeC : ∀ x c, X.env.cells.lookup x = some c → H c = none
  pin : ∀ p ∈ X.pn ++ pins, s.heap.get? p.1 = some p.2 ∧ H p.1 = none ∧ p.1 ≠ X.env.locals ∧ p.1 ∉ X.fs ∧ ∀ v, p.2.data ≠ .cell v
  hok : HOk X.prog X.w H s.heap
  len : σ.length = X.N.length

section
variable {X : Cx} {pins : List (Addr × Obj)} {σ : List (Option V)} {H H' : Hp} {s : Shared} {h' : Heap}

theorem Cx.Ok.nofr (ok : X.Ok) {b : Addr} {o : Obj} (e : X.base.get? b = some o) : b ∉ X.fs := fun hb => by
  have := (ok.funs.mem hb).1
  rw [e] at this; cases this
theorem Inv.bs (I : Inv X pins σ H s) : ∀ b o, X.base.get? b = some o → s.heap.get? b = some o ∧ H b = none := fun b o e =>
  ⟨I.base.keep b o (I.ok.bs b o e).1 (I.ok.bs b o e).2 (I.ok.nofr e) (I.ok.noex b o e), I.base.free b o (I.ok.bs b o e).1 (I.ok.bs b o e).2 (I.ok.noex b o e)⟩
theorem Inv.bk (I : Inv X pins σ H s) : ∀ b o, X.base.get? b = some o → s.heap.get? b = some o := fun b o e => (I.bs b o e).1
theorem Inv.mod (I : Inv X pins σ H s) : Mod X.K X.mg X.base := I.ok.mod
theorem Inv.kIn (I : Inv X pins σ H s) : X.K.In s.heap := I.ok.mod.kin.keeps I.bk
theorem Inv.nolimit (I : Inv X pins σ H s) : s.heap.NoLimit := I.ok.mod.nolimit.keeps I.bk
theorem Inv.lt (I : Inv X pins σ H s) : X.env.locals < s.heap.objs.size := let ⟨_, hn, _⟩ := I.loc; hn.lt
theorem Inv.sz (I : Inv X pins σ H s) : X.s₀.heap.objs.size ≤ s.heap.objs.size := Nat.le_trans I.ok.above (Nat.le_of_lt I.lt)
theorem Inv.nofs (I : Inv X pins σ H s) {a : Addr} (h : s.heap.objs.size ≤ a) : a ∉ X.fs := fun hb => by
  obtain ⟨_, o, ho, _⟩ := I.ok.funs.mem hb
  exact absurd (Nat.lt_of_lt_of_le (Heap.lt_size ho) (Nat.le_trans I.sz h)) (Nat.lt_irrefl _)
theorem Inv.cne (I : Inv X pins σ H s) : ∀ x c, X.env.cells.lookup x = some c → c ≠ X.env.locals := fun x c e z => by
  obtain ⟨v, o, ho, hd⟩ := I.cell x c e
  obtain ⟨m, ⟨o', es, ep, ho', hd', _⟩, _⟩ := I.loc
  rw [z, ho'] at ho; cases ho; rw [hd'] at hd; cases hd
theorem Inv.funs (I : Inv X pins σ H s) : s.heap.FunFrames X.base X.outer := by
  have all : ∀ (l : List Env), (∀ b ∈ frs l, b ∈ X.fs) → X.s₀.heap.FunFrames X.base l → s.heap.FunFrames X.base l := by
    intro l
    induction l with
    | nil => intro _ _; trivial
    | cons env r ih =>
      intro hs hl
      obtain ⟨hk, ⟨L, o, hf, hn, ho, hd⟩, hr⟩ := hl
      have hL : L ∈ X.fs := hs L (by unfold frs; rw [List.filterMap_cons, hf]; exact List.mem_cons_self)
      obtain ⟨sl, e⟩ := I.base.slot L o ho (I.ok.frf L hL) hL fun z => I.ok.exfs L z hL
      exact ⟨hk, ⟨L, _, hf, hn, e, hd⟩, ih (fun b hb => hs b (by unfold frs; rw [List.filterMap_cons, hf]; exact List.mem_cons_of_mem _ hb)) hr⟩
  exact all X.outer (fun _ hb => hb) I.ok.funs

/-- the frames that run, for a call -/
theorem Inv.stack (I : Inv X pins σ H s) : s.heap.FunFrames X.base X.stack := by
  rcases I.ok.stk with e | ⟨e, hf⟩
  · rw [e]; exact I.funs
  · rw [e]
    obtain ⟨m, hn, _⟩ := I.loc
    refine .cons (by rw [I.ok.kind]; decide) hf hn ?_ I.funs
    exact Heap.get?_none_of_le (Nat.le_trans I.ok.bsz I.ok.above)
theorem Inv.stkSub (I : Inv X pins σ H s) : ∀ b ∈ frs X.stack, b ∈ X.env.locals :: X.fs := fun b hb => by
  rcases I.ok.stk with e | ⟨e, hf⟩
  · rw [e] at hb; exact List.mem_cons_of_mem _ hb
  · rw [e] at hb
    unfold frs at hb
    rw [List.filterMap_cons, hf] at hb
    exact hb
theorem Inv.stkFree (I : Inv X pins σ H s) : ∀ b ∈ frs X.stack, H b = none := fun b hb => by
  rcases List.mem_cons.mp (I.stkSub b hb) with e | hb
  · rw [e]; exact I.free
  · obtain ⟨_, o, ho, _⟩ := I.ok.funs.mem hb
    exact I.base.free b o ho (I.ok.frf b hb) fun z => I.ok.exfs b z hb

/-- THE STEP: the untracked objects but the frame and the records at ch are kept (the callers' frames up to slots), the frame's map is kept, the new abstract heap is held -/
theorem Inv.step {g' : Array GenState} {t' : Nat} {d' : Drawn} {ch : List Addr} (I : Inv X pins σ H s)
    (hch : ∀ b ∈ ch, (b ∈ X.ex ∨ X.s₀.heap.objs.size ≤ b) ∧ b ≠ X.env.locals ∧ (∀ x c, X.env.cells.lookup x = some c → c ≠ b) ∧ ∀ p ∈ X.pn ++ pins, p.1 ≠ b)
    (keep : ∀ b o, b ≠ X.env.locals → b ∉ X.fs → b ∉ ch → s.heap.get? b = some o → H b = none → h'.get? b = some o)
    (slot : ∀ b o, b ≠ X.env.locals → b ∈ X.fs → b ∉ ch → s.heap.get? b = some o → H b = none → ∃ sl, h'.get? b = some { o with slots := sl }) (free : ∀ b o, b ∉ ch → s.heap.get? b = some o → H b = none → H' b = none)
    (there : ∀ b o, b ∉ ch → s.heap.get? b = some o → ∃ o', h'.get? b = some o')
    (tups : ∀ b xs, H b = some (.tup xs) → H' b = some (.tup xs)) (frzs : ∀ b o u, H b = some (.frz o u) → H' b = some (.frz o u)) (tbls : ∀ b ps, H b = some (.tbl ps) → ∃ more, H' b = some (.tbl (ps ++ more)))
    (ns : ∀ m, s.heap.Ns X.env.locals m → h'.Ns X.env.locals m) (hok : HOk X.prog X.w H' h') (hg : AllBare g') :
    Inv X pins σ H' { s with heap := h', gens := g', drawn := d', toks := t' } := by
  have neL : ∀ b o, X.s₀.heap.get? b = some o → b ≠ X.env.locals := fun b o e => Nat.ne_of_lt (Nat.lt_of_lt_of_le (Heap.lt_size e) I.ok.above)
  have neC : ∀ b o, X.s₀.heap.get? b = some o → b ∉ X.ex → b ∉ ch := fun b o e hx hb => by
    rcases (hch b hb).1 with z | z
    · exact hx z
    · exact absurd (Nat.lt_of_lt_of_le (Heap.lt_size e) z) (Nat.lt_irrefl _)
  have cellK : ∀ x c, X.env.cells.lookup x = some c → ∀ v, s.heap.IsCell c v → h'.IsCell c v := fun x c e v ⟨o, ho, hd⟩ => by
    have nch : c ∉ ch := fun z => (hch c z).2.2.1 x c e rfl
    by_cases hc : c ∈ X.fs
    · obtain ⟨sl, q⟩ := slot c o (I.cne x c e) hc nch ho (I.freeC x c e)
      exact ⟨_, q, hd⟩
    · exact ⟨o, keep c o (I.cne x c e) hc nch ho (I.freeC x c e), hd⟩
  refine ⟨I.ok, I.os, hg, ⟨fun b o e n hb hx => ?_, fun b o e n hb hx => ?_, fun b o e n hx => ?_, fun b o e hx => ?_, fun b xs e => tups b xs (I.base.tups b xs e), fun b o xs e => frzs b o xs (I.base.frzs b o xs e), fun b ps e => ?_⟩, ?_, fun x c e => ?_, ?_, fun x c e => ?_, fun p hp => ?_, hok, I.len⟩
  · exact keep b o (neL b o e) hb (neC b o e hx) (I.base.keep b o e n hb hx) (I.base.free b o e n hx)
  · obtain ⟨sl, e1⟩ := I.base.slot b o e n hb hx
    obtain ⟨sl', e2⟩ := slot b _ (neL b o e) hb (neC b o e hx) e1 (I.base.free b o e n hx)
    exact ⟨sl', e2⟩
  · obtain ⟨o', e1⟩ := I.base.there b o e hx
    exact free b o' (neC b o e hx) e1 (I.base.free b o e n hx)
  · obtain ⟨o', e1⟩ := I.base.there b o e hx
    exact there b o' (neC b o e hx) e1
  · obtain ⟨m1, e1⟩ := I.base.tbls b ps e
    obtain ⟨m2, e2⟩ := tbls b _ e1
    exact ⟨m1 ++ m2, by rw [e2, Array.append_assoc]⟩
  · obtain ⟨m, hn, hl⟩ := I.loc
    refine ⟨m, ns m hn, fun i x v e1 e2 e3 => ?_⟩
    obtain ⟨u, r, l⟩ := hl i x v e1 e2 e3
    refine ⟨u, r, ?_⟩
    rcases l with l | ⟨k, c, e, z⟩
    · exact .inl l
    · exact .inr ⟨k, c, e, cellK x c e _ z⟩
  · obtain ⟨v, z⟩ := I.cell x c e
    exact ⟨v, cellK x c e v z⟩
  · obtain ⟨m, ⟨o, _, _, ho, _⟩, _⟩ := I.loc
    exact free _ o (fun z => (hch _ z).2.1 rfl) ho I.free
  · obtain ⟨v, o, ho, hd⟩ := I.cell x c e
    exact free c o (fun z => (hch c z).2.2.1 x c e rfl) ho (I.freeC x c e)
  · obtain ⟨e, n, ne, nf, d⟩ := I.pin p hp
    have nch : p.1 ∉ ch := fun z => (hch p.1 z).2.2.2 p hp rfl
    exact ⟨keep p.1 p.2 ne nf nch e n, free p.1 p.2 nch e n, ne, nf, d⟩
/-- .. where the frame's own object is kept too -/
theorem Inv.un {t' : Nat} (I : Inv X pins σ H s) (u : Un X.fs [] H H' s.heap h') (hok : HOk X.prog X.w H' h') : Inv X pins σ H' { s with heap := h', toks := t' } := by
  obtain ⟨m, ⟨o, es, ep, ho, r⟩, _⟩ := id I.loc
  obtain ⟨sl, hL⟩ := u.any ho I.free (by simp)
  exact I.step (g' := s.gens) (d' := s.drawn) (ch := []) (fun _ z => nomatch z) (fun b o _ hb _ e n => u.keep b o e n hb (by simp)) (fun b o _ hb _ e n => u.slot b o e n hb (by simp)) (fun b o _ e n => u.free b o e n (by simp)) (fun b o _ e => u.there b o e (by simp)) u.tups u.frzs u.tbls (fun m' hm => by
    obtain ⟨o', es', ep', ho', r'⟩ := hm
    rw [ho] at ho'; cases ho'
    exact ⟨_, es', ep', hL, r'⟩) hok I.bare
/-- behind a call (or a comprehension's block): the slots of this frame may have changed too, the records at ch may have turned -/
theorem Inv.call {g' : Array GenState} {t' : Nat} {d' : Drawn} {ch : List Addr} (I : Inv X pins σ H s) (u : Un (frs X.stack) ch H H' s.heap h') (hok : HOk X.prog X.w H' h') (hg : AllBare g')
    (hch : ∀ b ∈ ch, (b ∈ X.ex ∨ X.s₀.heap.objs.size ≤ b) ∧ b ≠ X.env.locals ∧ (∀ x c, X.env.cells.lookup x = some c → c ≠ b) ∧ ∀ p ∈ X.pn ++ pins, p.1 ≠ b) :
    Inv X pins σ H' { s with heap := h', gens := g', drawn := d', toks := t' } := by
  obtain ⟨m, ⟨o, es, ep, ho, r⟩, _⟩ := id I.loc
  obtain ⟨sl, hL⟩ := u.any ho I.free fun z => (hch _ z).2.1 rfl
  exact I.step (ch := ch) hch (fun b o hL hb hc e n => u.keep b o e n (fun z => (List.mem_cons.mp (I.stkSub b z)).elim hL hb) hc) (fun b o _ _ hc e n => u.any e n hc) (fun b o hc e n => u.free b o e n hc) (fun b o hc e => u.there b o e hc) u.tups u.frzs u.tbls (fun m' hm => by
    obtain ⟨o', es', ep', ho', r'⟩ := hm
    rw [ho] at ho'; cases ho'
    exact ⟨_, es', ep', hL, r'⟩) hok hg
/-- an untracked record of ours (an iterator) has turned -/
theorem Inv.turned {t' : Nat} {it : Addr} (I : Inv X pins σ H s) (k : ∀ b o, b ≠ it → s.heap.get? b = some o → h'.get? b = some o) (hn : H it = none) (hL : it ≠ X.env.locals)
    (h1 : it ∈ X.ex ∨ X.s₀.heap.objs.size ≤ it) (h2 : ∀ x c, X.env.cells.lookup x = some c → c ≠ it) (h3 : ∀ p ∈ X.pn ++ pins, p.1 ≠ it) : Inv X pins σ H { s with heap := h', toks := t' } := by
  have nit : ∀ b u, H b = some u → b ≠ it := fun b u e z => by rw [z, hn] at e; cases e
  refine I.step (g' := s.gens) (d' := s.drawn) (ch := [it]) (fun b hb => ?_) (fun b o _ _ hc e _ => k b o (fun z => hc (by simp [z])) e) (fun b o _ _ hc e _ => ⟨o.slots, k b o (fun z => hc (by simp [z])) e⟩) (fun _ _ _ _ n => n)
    (fun b o hc e => ⟨o, k b o (fun z => hc (by simp [z])) e⟩) (fun _ _ e => e) (fun _ _ _ e => e) (fun b ps e => ⟨#[], by rw [e]; simp⟩) (fun m hm => ?_) (fun b u e => ?_) I.bare
  · have e : b = it := by simpa using hb
    subst e
    exact ⟨h1, hL, h2, h3⟩
  · obtain ⟨o, es, ep, ho, r⟩ := hm
    exact ⟨o, es, ep, k _ o (Ne.symm hL) ho, r⟩
  · refine (I.hok b u e).stay (fun c v hc q => k c v ?_ q) (fun _ q => q) fun _ _ q => q
    rcases hc with z | z
    · rw [z]; exact nit b u e
    · exact nit c _ z
theorem Inv.tok (I : Inv X pins σ H s) (t : Nat) : Inv X pins σ H { s with toks := t } := I.un (h' := s.heap) (t' := t) Un.refl I.hok
/-- all objects kept -/
theorem Inv.kept {t' : Nat} (I : Inv X pins σ H s) (k : ∀ b u, s.heap.get? b = some u → h'.get? b = some u) : Inv X pins σ H { s with heap := h', toks := t' } := I.un (Un.kept k) (I.hok.kept k)
/-- a new object laid and tracked -/
theorem Inv.laid {a : Addr} {o : HO} {t' : Nat} (I : Inv X pins σ H s) (k : ∀ b u, s.heap.get? b = some u → h'.get? b = some u) (hp : s.heap.objs.size ≤ a) (new : ObjOk X.prog X.w (upd H a o) h' a o) :
    Inv X pins σ (upd H a o) { s with heap := h', toks := t' } := I.un (Un.laid k hp (I.hok.fresh hp)) (I.hok.laid k hp new)
/-- an object written -/
theorem Inv.write {x e : Addr} {o : HO} {t' : Nat} (I : Inv X pins σ H s) (mu : Mut (H x)) (he : e = x ∨ H e = some (.own x)) (k : ∀ b u, b ≠ e → s.heap.get? b = some u → h'.get? b = some u) (heo : ∃ u, h'.get? e = some u)
    (new : ObjOk X.prog X.w (upd H x o) h' x o) : Inv X pins σ (upd H x o) { s with heap := h', toks := t' } := I.un (Un.write mu he k heo) (I.hok.write mu he k heo new)
/-- forgetting slots, pins -/
theorem Inv.weak {σ' : List (Option V)} (I : Inv X pins σ H s) (hl : σ'.length = σ.length) (w : ∀ (i : Nat) v, σ'[i]? = some (some v) → σ[i]? = some (some v)) : Inv X pins σ' H s :=
  ⟨I.ok, I.os, I.bare, I.base, let ⟨m, hn, hl'⟩ := I.loc; ⟨m, hn, fun i x v e1 e2 e3 => hl' i x v e1 (w i v e2) e3⟩, I.cell, I.free, I.freeC, I.pin, I.hok, hl.trans I.len⟩
theorem Inv.pins_of {pins' : List (Addr × Obj)} (I : Inv X pins σ H s) (h : ∀ p ∈ pins', s.heap.get? p.1 = some p.2 ∧ H p.1 = none ∧ p.1 ≠ X.env.locals ∧ p.1 ∉ X.fs ∧ ∀ v, p.2.data ≠ .cell v) : Inv X pins' σ H s :=
  ⟨I.ok, I.os, I.bare, I.base, I.loc, I.cell, I.free, I.freeC, fun p hp => (List.mem_append.mp hp).elim (fun z => I.pin p (List.mem_append_left _ z)) (h p), I.hok, I.len⟩

theorem nodup_ix {N : List Str} (hN : N.Nodup) {i j : Nat} {x : Str} (a : N[i]? = some x) (b : N[j]? = some x) : i = j := by
  obtain ⟨h1, e1⟩ := List.getElem?_eq_some_iff.mp a
  obtain ⟨h2, e2⟩ := List.getElem?_eq_some_iff.mp b
  exact (List.getElem_inj hN).mp (e1.trans e2.symm)

/-- a name is stored; what changed -/
theorem store_ok2 {M : Model} {A : Around} {E : Value → Shared → Prop} {i : Nat} {x : Str} {v : V} {u : Value} {Q : Unit → Shared → Prop} (I : Inv X pins σ H s) (hN : X.N.Nodup) (hi : X.N[i]? = some x) (hx : Loc X.env.scope x) (r : RelV v u)
    (h : ∀ s', Inv X pins (σ.set i (some v)) H s' → (∃ a, Heap.SameBut a s.heap s'.heap ∧ (a = X.env.locals ∨ X.env.cells.lookup x = some a)) → Q () s') (hf : X.fn x = true ∨ X.env.scope.names.lookup x = some .local := by first | exact .inl rfl | exact .inr rfl | assumption) : wpAny M A (storeName X.env x u) Q E s := by
  obtain ⟨m, hn, hl⟩ := id I.loc
  have hcls : (X.env.scope.kind == .class || (X.env.scope.kind == .module && X.env.locals != X.env.globals)) = false := by rw [I.ok.kind]; rfl
  have hiσ : i < σ.length := by rw [I.len]; exact (List.getElem?_eq_some_iff.mp hi).1
  have cne := I.cne
  have tracked : ∀ {a : Addr} {h' : Heap}, (∃ o, s.heap.get? a = some o ∧ H a = none) → Heap.SameBut a s.heap h' → HOk X.prog X.w H h' := fun {a h'} ha hs b ob e => by
    obtain ⟨_, _, hfree⟩ := ha
    refine (I.hok b ob e).stay (fun c w' hc q => (hs.2 c ?_).trans q) (fun _ q => q) fun _ _ q => q
    rintro rfl
    rcases hc with rfl | hc
    · rw [hfree] at e; cases e
    · rw [hfree] at hc; cases hc
  rcases hx with hk | hk
  · refine wpAny_storeName_local hk hn (fun h' hn' hs => ?_) hcls
    obtain ⟨oL, _, _, hoL, _⟩ := id hn
    refine h _ ⟨I.ok, I.os, I.bare, ⟨fun b o e n hb hx => ?_, fun b o e n hb hx => ?_, I.base.free, fun b o e hx => ?_, I.base.tups, I.base.frzs, I.base.tbls⟩, ⟨_, hn', fun j y v' e1 e2 e3 => ?_⟩, fun y c e => ?_, I.free, I.freeC, fun p hp => ?_, tracked ⟨oL, hoL, I.free⟩ hs, by simpa using I.len⟩ ⟨_, hs, .inl rfl⟩
    · exact (hs.2 b (Nat.ne_of_lt (Nat.lt_of_lt_of_le (Heap.lt_size e) I.ok.above))).trans (I.base.keep b o e n hb hx)
    · obtain ⟨sl, e1⟩ := I.base.slot b o e n hb hx
      exact ⟨sl, (hs.2 b (Nat.ne_of_lt (Nat.lt_of_lt_of_le (Heap.lt_size e) I.ok.above))).trans e1⟩
    · obtain ⟨o', e1⟩ := I.base.there b o e hx
      exact ⟨o', (hs.2 b (Nat.ne_of_lt (Nat.lt_of_lt_of_le (Heap.lt_size e) I.ok.above))).trans e1⟩
    · by_cases hj : j = i
      · subst hj
        rw [hi] at e1; cases e1
        rw [List.getElem?_set_self hiσ] at e2
        cases e2
        exact ⟨u, r, .inl ⟨hk, by simp⟩⟩
      · rw [List.getElem?_set_ne (Ne.symm hj)] at e2
        obtain ⟨u', r', q⟩ := hl j y v' e1 e2 e3
        refine ⟨u', r', ?_⟩
        rcases q with ⟨k, e⟩ | ⟨k, c, e, z⟩
        · refine .inl ⟨k, ?_⟩
          have : y ≠ x := fun e => hj (nodup_ix hN e1 (e ▸ hi))
          simp [this, e]
        · exact .inr ⟨k, c, e, z.sameBut hs (cne y c e)⟩
    · obtain ⟨w', z⟩ := I.cell y c e
      exact ⟨w', z.sameBut hs (cne y c e)⟩
    · obtain ⟨e, n, ne, nf, d⟩ := I.pin p hp
      exact ⟨(hs.2 p.1 ne).trans e, n, ne, nf, d⟩
  · have hfn : X.fn x = true := by
      rcases hf with z | z
      · exact z
      · rw [z] at hk; cases hk
    obtain ⟨c, hc⟩ := I.ok.has x (.inl hk)
    obtain ⟨w', z⟩ := I.cell x c hc
    refine wpAny_storeName_cell I.ok.kind hk hc z (fun h' hc' hs => ?_)
    obtain ⟨oc, hoc, hocd⟩ := id z
    refine h { s with heap := h' } ⟨I.ok, I.os, I.bare, ⟨fun b o e n hb hx => ?_, fun b o e n hb hx => ?_, I.base.free, fun b o e hx => ?_, I.base.tups, I.base.frzs, I.base.tbls⟩, ⟨m, hn.sameBut hs (Ne.symm (cne x c hc)), fun j y v' e1 e2 e3 => ?_⟩, fun y c' e => ?_, I.free, I.freeC, fun p hp => ?_, tracked ⟨oc, hoc, I.freeC x c hc⟩ hs, by simpa using I.len⟩ ⟨c, hs, .inr hc⟩
    · exact (hs.2 b (Nat.ne_of_lt (Nat.lt_of_lt_of_le (Heap.lt_size e) (I.ok.cab x c hfn hc)))).trans (I.base.keep b o e n hb hx)
    · obtain ⟨sl, e1⟩ := I.base.slot b o e n hb hx
      exact ⟨sl, (hs.2 b (Nat.ne_of_lt (Nat.lt_of_lt_of_le (Heap.lt_size e) (I.ok.cab x c hfn hc)))).trans e1⟩
    · obtain ⟨o', e1⟩ := I.base.there b o e hx
      exact ⟨o', (hs.2 b (Nat.ne_of_lt (Nat.lt_of_lt_of_le (Heap.lt_size e) (I.ok.cab x c hfn hc)))).trans e1⟩
    · by_cases hj : j = i
      · subst hj
        rw [hi] at e1; cases e1
        rw [List.getElem?_set_self hiσ] at e2
        cases e2
        exact ⟨u, r, .inr ⟨.inl hk, c, hc, hc'⟩⟩
      · rw [List.getElem?_set_ne (Ne.symm hj)] at e2
        obtain ⟨u', r', q⟩ := hl j y v' e1 e2 e3
        refine ⟨u', r', ?_⟩
        rcases q with q | ⟨k, c', e, z'⟩
        · exact .inl q
        · refine .inr ⟨k, c', e, z'.sameBut hs ?_⟩
          rintro rfl
          exact hj (nodup_ix hN e1 (I.ok.inj _ _ _ e hc ▸ hi))
    · by_cases hcc : c' = c
      · subst hcc; exact ⟨_, hc'⟩
      · obtain ⟨w2, z2⟩ := I.cell y c' e
        exact ⟨w2, z2.sameBut hs hcc⟩
    · obtain ⟨e, n, ne, nf, d⟩ := I.pin p hp
      refine ⟨(hs.2 p.1 ?_).trans e, n, ne, nf, d⟩
      intro q
      rw [q, hoc] at e
      have q' : oc = p.2 := Option.some.inj e
      exact d w' (by rw [← q']; exact hocd)
theorem store_ok {M : Model} {A : Around} {E : Value → Shared → Prop} {i : Nat} {x : Str} {v : V} {u : Value} {Q : Unit → Shared → Prop} (I : Inv X pins σ H s) (hN : X.N.Nodup) (hi : X.N[i]? = some x) (hx : Loc X.env.scope x) (r : RelV v u)
    (h : ∀ s', Inv X pins (σ.set i (some v)) H s' → Q () s') (hf : X.fn x = true ∨ X.env.scope.names.lookup x = some .local := by first | exact .inl rfl | exact .inr rfl | assumption) : wpAny M A (storeName X.env x u) Q E s :=
  store_ok2 I hN hi hx r (fun s' I' _ => h s' I') hf
/-- behind a call or a block, the state as it is -/
theorem Inv.call' {s' : Shared} {ch : List Addr} (I : Inv X pins σ H s) (ho : s'.os = s.os) (u : Un (frs X.stack) ch H H' s.heap s'.heap) (hok : HOk X.prog X.w H' s'.heap) (hg : AllBare s'.gens)
    (hch : ∀ b ∈ ch, (b ∈ X.ex ∨ X.s₀.heap.objs.size ≤ b) ∧ b ≠ X.env.locals ∧ (∀ x c, X.env.cells.lookup x = some c → c ≠ b) ∧ ∀ p ∈ X.pn ++ pins, p.1 ≠ b) : Inv X pins σ H' s' := by
  obtain ⟨h', g', d', t', o'⟩ := s'
  have e : o' = s.os := ho
  subst e
  exact I.call (g' := g') (t' := t') (d' := d') u hok hg hch
end

/-! ### the judgements -/
/-- an exception: its class, its own dict's address (where it has one), the abstract heap behind it -/
abbrev XK := Value → Option Addr → Hp → Prop
abbrev St := List (Option V)
abbrev VK := V → Hp → Prop
/-- an expression's reading; a test's; an argument list's -/
abbrev TE := St → Hp → VK → Prop
abbrev TT := St → Hp → (Bool → Hp → Prop) → Prop
abbrev TA := St → Hp → (List V → Hp → Prop) → Prop
/-- what is wanted behind a statement -/
structure Ends where
  nx : St → Hp → Prop
  rt : VK
  bk : St → Hp → Prop := fun _ _ => False
  ct : St → Hp → Prop := fun _ _ => False
abbrev TS := Ends → St → Hp → Prop

inductive EP (X : Cx) (pins : List (Addr × Obj)) (σ : St) (Q : VK) (u : Value) (s' : Shared) : Prop
  | mk (v : _) (H' : _) (h1 : Inv X pins σ H' s') (h2 : RelV v u) (h3 : Q v H') : EP X pins σ Q u s'
def TP (X : Cx) (pins : List (Addr × Obj)) (σ : St) (Q : Bool → Hp → Prop) (b : Bool) (s' : Shared) : Prop := ∃ H', Inv X pins σ H' s' ∧ Q b H'
inductive AP (X : Cx) (pins : List (Addr × Obj)) (σ : St) (Q : List V → Hp → Prop) (us : List Value) (s' : Shared) : Prop
  | mk (vs : _) (H' : _) (h1 : Inv X pins σ H' s') (h2 : Vals vs us) (h3 : Q vs H') : AP X pins σ Q us s'
def SP (X : Cx) (pins : List (Addr × Obj)) (D : Ends) (f : Flow) (s' : Shared) : Prop :=
  match f with
  | .next => ∃ σ' H', Inv X pins σ' H' s' ∧ D.nx σ' H'
  | .brk => ∃ σ' H', Inv X pins σ' H' s' ∧ D.bk σ' H'
  | .cont => ∃ σ' H', Inv X pins σ' H' s' ∧ D.ct σ' H'
  | .ret u => ∃ v σ' H', Inv X pins σ' H' s' ∧ RelV v u ∧ D.rt v H'

def PE (X : Cx) (e : Expr) (t : TE) : Prop :=
  ∀ (pins : List (Addr × Obj)) (s : Shared) (σ : St) (H : Hp) (Q : VK), Inv X pins σ H s → t σ H Q → wpAny (model X.prog X.w) X.A (eval e X.env) (EP X pins σ Q) X.xe s
def PT (X : Cx) (e : Expr) (t : TT) : Prop :=
  ∀ (pins : List (Addr × Obj)) (s : Shared) (σ : St) (H : Hp) (Q : Bool → Hp → Prop), Inv X pins σ H s → t σ H Q → wpAny (model X.prog X.w) X.A (isTrue e X.env (eval e X.env)) (TP X pins σ Q) X.xe s
/-- a test whatever its 'whole' is (and, or) -/
def PW (X : Cx) (e : Expr) (t : TT) : Prop :=
  ∀ (whole : Sem Value) (pins : List (Addr × Obj)) (s : Shared) (σ : St) (H : Hp) (Q : Bool → Hp → Prop), Inv X pins σ H s → t σ H Q → wpAny (model X.prog X.w) X.A (isTrue e X.env whole) (TP X pins σ Q) X.xe s
theorem PW.pt {X : Cx} {e : Expr} {t : TT} (h : PW X e t) : PT X e t := h _
/-- an argument list (no star), from the left -/
def PA (X : Cx) (es : List Expr) (t : TA) : Prop :=
  ∀ (pos : Pos) (pins : List (Addr × Obj)) (s : Shared) (σ : St) (H : Hp) (Q : List V → Hp → Prop), Inv X pins σ H s → t σ H Q → wpAny (model X.prog X.w) X.A (spliced (backTo pos (starEach es X.env))) (AP X pins σ Q) X.xe s
def PS (X : Cx) (st : Stmt) (t : TS) : Prop :=
  ∀ (pins : List (Addr × Obj)) (s : Shared) (σ : St) (H : Hp) (D : Ends), Inv X pins σ H s → t D σ H → wpAny (model X.prog X.w) X.A (exec st X.env) (SP X pins D) X.xe s
def PSs (X : Cx) (st : List Stmt) (t : TS) : Prop :=
  ∀ (pins : List (Addr × Obj)) (s : Shared) (σ : St) (H : Hp) (D : Ends), Inv X pins σ H s → t D σ H → wpAny (model X.prog X.w) X.A (execs st X.env) (SP X pins D) X.xe s
/-- weaken the end -/
theorem thn {α : Type} {t : Sem α} {Q Q' : α → Shared → Prop} {M : Model} {A : Around} {E : Value → Shared → Prop} {s : Shared} (h : wpAny M A t Q E s) (hQ : ∀ a s, Q a s → Q' a s) : wpAny M A t Q' E s := wpAny_mono h hQ fun _ _ x => x
end L2

namespace L2
open PySem PySem.Spec PyProof.Rows
section
variable {X : Cx}

/-! ### names and constants -/
inductive tVar (i : Nat) (σ : St) (H : Hp) (Q : VK) : Prop
  | mk (v : _) (h1 : σ[i]? = some (some v)) (h2 : Q v H) : tVar i σ H Q
def tC (v : V) : TE := fun _ H Q => Q v H
theorem pe_var {i : Nat} {x : Str} {pos : Pos} (hN : X.N[i]? = some x) (hv : Vis X.env.scope x) (hd : (x == ("__debug__" : Str)) = false := by decide) (hcd : (x == ("__classdict__" : Str)) = false := by decide) : PE X (.Name x pos) (tVar i) := by
  intro pins s σ H Q I h
  obtain ⟨v, e, h⟩ := h
  obtain ⟨m, hn, hl⟩ := I.loc
  obtain ⟨u, r, l⟩ := hl i x v hN e hv
  have fin : EP X pins σ Q u s := ⟨v, H, I, r, h⟩
  rcases l with ⟨hk, hm⟩ | ⟨hk, c, hc, hcell⟩
  · exact wpAny_Name (wpAny_loadName_local I.ok.kind hk hn hm fin) hd
  · rcases hk with hk | hk
    · exact wpAny_Name (wpAny_loadName_cell I.ok.kind hk hc hcell fin) hd
    · exact wpAny_Name (wpAny_loadName_free I.ok.kind hk hc hcell fin hcd) hd
theorem pe_int {i j pos} : PE X (.Constant (.int i) j pos) (tC (.int i)) := fun _ _ _ H _ I h => wpAny_Constant_int ⟨.int i, H, I.tok _, ⟨_, rfl⟩, h⟩
theorem pe_bl {b j pos} : PE X (.Constant (.bool b) j pos) (tC (.bl b)) := fun _ _ _ H _ I h => Constant_bool ⟨.bl b, H, I, rfl, h⟩
theorem pe_non {j pos} : PE X (.Constant .none j pos) (tC .non) := fun _ _ _ H _ I h => Constant_none ⟨.non, H, I, rfl, h⟩
theorem pe_str {x j pos} : PE X (.Constant (.str x) j pos) (tC (.str x)) := fun _ _ _ H _ I h => Calls.Constant_str ⟨.str x, H, I.tok _, ⟨_, rfl⟩, h⟩

/-- a global name of the def -/
def Gl (X : Cx) (x : Str) : Prop := X.env.kindOf x = some .globalImplicit
theorem ld_glob {E : Value → Shared → Prop} {pins : List (Addr × Obj)} {s : Shared} {σ : St} {H : Hp} {x : Str} {u : Value} {pos : Pos} {Q : Value → Shared → Prop} (I : Inv X pins σ H s) (hg : Gl X x) (hm : X.mg x = some u) (h : Q u s)
    (hd : (x == ("__debug__" : Str)) = false := by decide) : wpAny (model X.prog X.w) X.A (eval (.Name x pos) X.env) Q E s :=
  Calls.Name_function_global I.ok.kind hg (Calls.loadGlobal_global (by rw [I.ok.glob]; exact I.mod.glob.keeps I.bk) hm h) hd
theorem ld_blt {E : Value → Shared → Prop} {pins : List (Addr × Obj)} {s : Shared} {σ : St} {H : Hp} {x : Str} {u : Value} {pos : Pos} {Q : Value → Shared → Prop} (I : Inv X pins σ H s) (hg : Gl X x) (hm : X.mg x = none) (hv : bootBuiltins x = some u) (h : Q u s)
    (hn : x ≠ "__name__" := by decide) (hd : (x == ("__debug__" : Str)) = false := by decide) : wpAny (model X.prog X.w) X.A (eval (.Name x pos) X.env) Q E s := by
  obtain ⟨mb, h1, h2⟩ := I.mod.blt
  exact Calls.Name_function_global I.ok.kind hg (Calls.loadGlobal_builtin (by rw [I.ok.glob]; exact I.mod.glob.keeps I.bk) hm (by rw [I.ok.blt]; exact h1.keeps I.bk) ((h2 x hn).trans hv) h) hd
/-- a module's constant, a class, a function, as a value -/
theorem pe_glob {x : Str} {v : V} {u : Value} {pos : Pos} (hg : Gl X x) (hm : X.mg x = some u) (r : RelV v u) (hd : (x == ("__debug__" : Str)) = false := by decide) : PE X (.Name x pos) (tC v) :=
  fun _ _ _ H _ I h => ld_glob I hg hm ⟨v, H, I, r, h⟩ hd
theorem pe_bltn {x : Str} {v : V} {u : Value} {pos : Pos} (hg : Gl X x) (hm : X.mg x = none) (hv : bootBuiltins x = some u) (r : RelV v u) (hn : x ≠ "__name__" := by decide) (hd : (x == ("__debug__" : Str)) = false := by decide) : PE X (.Name x pos) (tC v) :=
  fun _ _ _ H _ I h => ld_blt I hg hm hv ⟨v, H, I, r, h⟩ hn hd

/-! ### arithmetic -/
variable {a b : Expr} {ta tb : TE} {pos : Pos}
/-! ### comparisons -/
/-- a comparison as a value, as a test -/
def tB (t : TE) : TT := fun σ H Q => t σ H fun x H1 => ∃ c, x = .bl c ∧ Q c H1
/-- an expression whose value is a bool, as a test -/
theorem pt_val {e : Expr} {t : TE} (h : PE X e t) (he : ∀ whole, isTrue e X.env whole = (do let v ← whole; standAt e.pos; holding [v] (truthy v)) := by intro _; rfl) : PT X e (tB t) := by
  intro pins s σ H Q I hw
  refine isTrue_plain (thn (h pins s σ H _ I hw) fun v s1 ⟨x, H1, I1, r1, q1⟩ => ?_) (he _)
  obtain ⟨d, rfl, q⟩ := q1
  cases r1
  exact wpAny_truthy_bool ⟨H1, I1, q⟩

/-! ### and, or, not -/
variable {tA tB' : TT} {rest : List Expr}
def tAnd (t u : TT) : TT := fun σ H Q => t σ H fun c H1 => if c = true then u σ H1 Q else Q false H1
def tOr (t u : TT) : TT := fun σ H Q => t σ H fun c H1 => if c = true then Q true H1 else u σ H1 Q
def tNot (t : TT) : TT := fun σ H Q => t σ H fun c H1 => Q (!c) H1
theorem pw_and1 (ha : PT X a tA) : PW X (.BoolOp .And [a] pos) tA := by
  intro wh pins s σ H Q I h
  refine isTrue_and (thn (ha pins s σ H Q I h) fun c s1 e => ?_)
  cases c with
  | true => exact isTrue_and_nil e
  | false => exact e
theorem pw_or1 (ha : PT X a tA) : PW X (.BoolOp .Or [a] pos) tA := by
  intro wh pins s σ H Q I h
  refine isTrue_or (thn (ha pins s σ H Q I h) fun c s1 e => ?_)
  cases c with
  | false => exact isTrue_or_nil e
  | true => exact e
theorem pw_and (ha : PT X a tA) (hb : PW X (.BoolOp .And (b :: rest) pos) tB') : PW X (.BoolOp .And (a :: b :: rest) pos) (tAnd tA tB') := by
  intro wh pins s σ H Q I h
  refine isTrue_and (thn (ha pins s σ H _ I h) fun c s1 ⟨H1, I1, q1⟩ => ?_)
  cases c with
  | true => exact hb wh pins s1 σ H1 Q I1 q1
  | false => exact ⟨H1, I1, q1⟩
theorem pw_or (ha : PT X a tA) (hb : PW X (.BoolOp .Or (b :: rest) pos) tB') : PW X (.BoolOp .Or (a :: b :: rest) pos) (tOr tA tB') := by
  intro wh pins s σ H Q I h
  refine isTrue_or (thn (ha pins s σ H _ I h) fun c s1 ⟨H1, I1, q1⟩ => ?_)
  cases c with
  | true => exact ⟨H1, I1, q1⟩
  | false => exact hb wh pins s1 σ H1 Q I1 q1
theorem pt_not (ha : PT X a tA) : PT X (.UnaryOp .Not a pos) (tNot tA) := by
  intro pins s σ H Q I h
  exact isTrue_not (ha pins s σ H (fun c H1 => Q (!c) H1) I h)
/-- .. as values (bools) -/
def tAndV (ta tb : TE) : TE := fun σ H Q => ta σ H fun x H1 => ∃ c, x = .bl c ∧ if c = true then tb σ H1 Q else Q (.bl false) H1
def tNotV (ta : TE) : TE := fun σ H Q => ta σ H fun x H1 => ∃ c, x = .bl c ∧ Q (.bl (!c)) H1
theorem pe_one {op} {t : TE} (h : PE X a t) : PE X (.BoolOp op [a] pos) t := fun pins s σ H Q I hw => BoolOp_one (h pins s σ H Q I hw)
theorem pe_and (ha : PE X a ta) (hb : PE X (.BoolOp .And (b :: rest) pos) tb) : PE X (.BoolOp .And (a :: b :: rest) pos) (tAndV ta tb) := by
  intro pins s σ H Q I h
  refine BoolOp_and (thn (ha pins s σ H _ I h) fun v s1 ⟨x, H1, I1, r1, q1⟩ => ?_)
  obtain ⟨c, rfl, q1⟩ := q1
  cases r1
  refine wpAny_truthy_bool ?_
  cases c with
  | true => exact hb pins s1 σ H1 Q I1 q1
  | false => exact ⟨.bl false, H1, I1, rfl, q1⟩
theorem pe_not (ha : PE X a ta) : PE X (.UnaryOp .Not a pos) (tNotV ta) := by
  intro pins s σ H Q I h
  refine UnaryOp_ (thn (ha pins s σ H _ I h) fun v s1 ⟨x, H1, I1, r1, q1⟩ => ?_)
  obtain ⟨c, rfl, q1⟩ := q1
  cases r1
  exact not_of (wpAny_truthy_bool ⟨.bl (!c), H1, I1, rfl, q1⟩)
end
end L2

namespace L2
open PySem PySem.Spec PyProof.Rows

/-! ### a list, a tuple that is read: tracked, frozen, or an object of the module -/
def SqL (K : PySem.W.Frag) (H : Hp) (a : Addr) (xs : List V) : Prop :=
  Rd H a (.lst xs) ∨
    ∃ (o : Obj) (its : Array Value) (n : Nat), K.lookup a = some o ∧ o.cls = .type "list" ∧ o.dict = none ∧ o.data = .seq its n ∧ its.size ≤ sizeLine ∧ Vals xs its.toList
def SqT (K : PySem.W.Frag) (H : Hp) (a : Addr) (xs : List V) : Prop :=
  Rd H a (.tup xs) ∨
    ∃ (o : Obj) (its : Array Value) (n : Nat), K.lookup a = some o ∧ o.cls = .type "tuple" ∧ o.data = .seq its n ∧ its.size ≤ sizeLine ∧ Vals xs its.toList
def absV : Value → Option V
  | .none => some .non
  | .bool b => some (.bl b)
  | .int i _ => some (.int i)
  | .str x _ => some (.str x)
  | .bytes b _ => some (.byt b)
  | .float b _ => some (.flt b)
  | .ref a => some (.ref a)
  | .type n => some (.ty n)
  | _ => none
theorem RelV.abs {x : V} {u : Value} (r : RelV x u) : absV u = some x := by
  cases x with
  | non => cases r; rfl
  | bl _ => cases r; rfl
  | int _ => obtain ⟨t, rfl⟩ := r; rfl
  | str _ => obtain ⟨t, rfl⟩ := r; rfl
  | byt _ => obtain ⟨t, rfl⟩ := r; rfl
  | flt _ => obtain ⟨t, rfl⟩ := r; rfl
  | ref _ => cases r; rfl
  | ty _ => cases r; rfl
theorem RelV.inj {x y : V} {u : Value} (r : RelV x u) (q : RelV y u) : x = y := Option.some.inj (r.abs.symm.trans q.abs)
theorem Vals.inj {xs ys : List V} {us : List Value} (a : Vals xs us) (b : Vals ys us) : xs = ys := by
  induction a generalizing ys with
  | nil => cases b; rfl
  | cons r t ih => cases b with | cons r' t' => rw [r.inj r', ih t']
section
variable {X : Cx} {pins : List (Addr × Obj)} {σ : St} {H : Hp} {s : Shared} {a : Addr} {xs ys : List V}
theorem SqL.of {K : PySem.W.Frag} (h : H a = some (.lst xs)) : SqL K H a xs := .inl (.inl h)
theorem SqT.of {K : PySem.W.Frag} (h : H a = some (.tup xs)) : SqT K H a xs := .inl (.inl h)
theorem Inv.list (I : Inv X pins σ H s) (h : SqL X.K H a xs) : ∃ its : List Value, Vals xs its ∧ PlainL s.heap a its.toArray ∧ xs.length ≤ sizeLine := by
  rcases h with h | ⟨o, its, n, hk, hc, hd, hs, hz, r⟩
  · obtain ⟨z, its, n, r, e⟩ := h.ok I.hok
    exact ⟨its, r, ⟨_, n, e, rfl, rfl, rfl⟩, z⟩
  · refine ⟨its.toList, r, ⟨o, n, I.kIn a o hk, hc, hd, by simpa using hs⟩, ?_⟩
    have e := r.length
    simp only [Array.length_toList] at e
    lia
theorem Inv.tuple (I : Inv X pins σ H s) (h : SqT X.K H a xs) : ∃ its : List Value, Vals xs its ∧ IsTup s.heap a its.toArray ∧ xs.length ≤ sizeLine := by
  rcases h with h | ⟨o, its, n, hk, hc, hs, hz, r⟩
  · obtain ⟨z, its, r, p⟩ := h.ok I.hok
    exact ⟨its, r, p, z⟩
  · refine ⟨its.toList, r, ⟨o, I.kIn a o hk, hc, n, by simpa using hs⟩, ?_⟩
    have e := r.length
    simp only [Array.length_toList] at e
    lia
theorem Inv.list_inj (I : Inv X pins σ H s) (h : SqL X.K H a xs) (h' : SqL X.K H a ys) : xs = ys := by
  obtain ⟨its, r, ⟨o, n, e, _, _, d⟩, _⟩ := I.list h
  obtain ⟨its', r', ⟨o', n', e', _, _, d'⟩, _⟩ := I.list h'
  rw [e] at e'; cases e'
  rw [d] at d'
  injection d' with d1 _
  have : its = its' := by simpa using congrArg Array.toList d1
  subst this
  exact r.inj r'
theorem Inv.tuple_inj (I : Inv X pins σ H s) (h : SqT X.K H a xs) (h' : SqT X.K H a ys) : xs = ys := by
  obtain ⟨its, r, ⟨o, e, _, n, d⟩, _⟩ := I.tuple h
  obtain ⟨its', r', ⟨o', e', _, n', d'⟩, _⟩ := I.tuple h'
  rw [e] at e'; cases e'
  rw [d] at d'
  injection d' with d1 _
  have : its = its' := by simpa using congrArg Array.toList d1
  subst this
  exact r.inj r'
end

/-! ### another wish about exceptions -/
abbrev Cx.wish (X : Cx) (E : Value → Shared → Prop) : Cx := { X with xe := E }
/-- no exception leaves -/
abbrev Cx.nox (X : Cx) : Cx := X.wish fun _ _ => False
theorem Cx.Ok.wish {X : Cx} (ok : X.Ok) (E : Value → Shared → Prop) : (X.wish E).Ok :=
  ⟨ok.mod, ok.kind, ok.glob, ok.blt, ok.above, ok.inj, ok.has, ok.cab, ok.hd, ok.frames, ok.stk, ok.exf, ok.bs, ok.bsz, ok.noex, ok.exfs, ok.funs, ok.frf⟩
theorem Cx.Ok.unwish {X : Cx} {E : Value → Shared → Prop} (ok : (X.wish E).Ok) : X.Ok :=
  ⟨ok.mod, ok.kind, ok.glob, ok.blt, ok.above, ok.inj, ok.has, ok.cab, ok.hd, ok.frames, ok.stk, ok.exf, ok.bs, ok.bsz, ok.noex, ok.exfs, ok.funs, ok.frf⟩
section
variable {X : Cx} {pins : List (Addr × Obj)} {σ : St} {H : Hp} {s : Shared} {E : Value → Shared → Prop}
theorem Inv.wish (I : Inv X pins σ H s) (E : Value → Shared → Prop) : Inv (X.wish E) pins σ H s := ⟨I.ok.wish E, I.os, I.bare, I.base, I.loc, I.cell, I.free, I.freeC, I.pin, I.hok, I.len⟩
theorem Inv.unwish (I : Inv (X.wish E) pins σ H s) : Inv X pins σ H s := ⟨I.ok.unwish, I.os, I.bare, I.base, I.loc, I.cell, I.free, I.freeC, I.pin, I.hok, I.len⟩
theorem SP.unwish {D : Ends} {f : Flow} {s' : Shared} (h : SP (X.wish E) pins D f s') : SP X pins D f s' := by
  cases f with
  | next => obtain ⟨σ', H', I, q⟩ := h; exact ⟨σ', H', I.unwish, q⟩
  | brk => obtain ⟨σ', H', I, q⟩ := h; exact ⟨σ', H', I.unwish, q⟩
  | cont => obtain ⟨σ', H', I, q⟩ := h; exact ⟨σ', H', I.unwish, q⟩
  | ret u => obtain ⟨v, σ', H', I, r, q⟩ := h; exact ⟨v, σ', H', I.unwish, r, q⟩
theorem PSs.nox {st : List Stmt} {t : TS} (h : PSs X.nox st t) : PSs X st t := fun pins s σ H D I hw =>
  wpAny_mono (h pins s σ H D (I.wish _) hw) (fun _ _ q => q.unwish) fun _ _ z => False.elim z
end

/-! ### blocks and small statements -/
section
variable {X : Cx} {st : Stmt} {rest : List Stmt} {t u : TS} {e : Expr} {te : TE} {pos : Pos}
def tNext : TS := fun D σ H => D.nx σ H
@[reducible] def Ends.to (D : Ends) (n : St → Hp → Prop) : Ends := { D with nx := n }
def tSeq (t u : TS) : TS := fun D σ H => t (D.to (u D)) σ H
theorem pss_nil : PSs X [] tNext := fun _ _ σ H _ I h => wpAny_execs_nil ⟨σ, H, I, h⟩
theorem pss_cons (h1 : PS X st t) (h2 : PSs X rest u) : PSs X (st :: rest) (tSeq t u) := by
  intro pins s σ H D I h
  refine wpAny_execs_cons (thn (h1 pins s σ H { D with nx := u D } I h) fun f s1 q => ?_)
  cases f with
  | next =>
    obtain ⟨σ', H', I', q⟩ := q
    exact h2 pins s1 σ' H' D I' q
  | ret v => exact q
  | brk => exact q
  | cont => exact q
theorem pss_one (h1 : PS X st t) : PSs X [st] t := by
  intro pins s σ H D I h
  refine wpAny_execs_cons (thn (h1 pins s σ H D I h) fun f s1 q => ?_)
  cases f with
  | next => exact wpAny_execs_nil q
  | ret v => exact q
  | brk => exact q
  | cont => exact q
/-- in a def's body nothing is shown -/
theorem Inv.quiet {pins : List (Addr × Obj)} {σ : St} {H : Hp} {s : Shared} (I : Inv X pins σ H s) : interactive X.env = false := by simp [interactive, I.ok.kind]
/-- an expression whose value is dropped -/
def tDrop (te : TE) : TS := fun D σ H => te σ H fun _ H1 => D.nx σ H1
theorem ps_expr (he : PE X e te) (hs : swapsWith e none pos.line X.env = pure false := by rfl) : PS X (.Expr e pos) (tDrop te) := by
  intro pins s σ H D I h
  exact wpAny_Expr_any (thn (he pins s σ H _ I h) fun v s1 ⟨x, H1, I1, r1, q1⟩ => ⟨σ, H1, I1, q1⟩) I.quiet hs
def tRet (te : TE) : TS := fun D σ H => te σ H D.rt
theorem ps_ret (he : PE X e te) : PS X (.Return (some e) pos) (tRet te) := by
  intro pins s σ H D I h
  exact wpAny_Return_some (thn (he pins s σ H _ I h) fun v s1 ⟨x, H1, I1, r1, q1⟩ => ⟨x, σ, H1, I1, r1, q1⟩)
def tIfS (c : TT) (t u : TS) : TS := fun D σ H => c σ H fun b H1 => if b = true then t D σ H1 else u D σ H1
theorem ps_if {c : Expr} {a b : List Stmt} {tc : TT} (hc : PT X c tc) (ha : PSs X a t) (hb : PSs X b u) : PS X (.If c a b pos) (tIfS tc t u) := by
  intro pins s σ H D I h
  refine wpAny_If (thn (hc pins s σ H _ I h) fun d s1 ⟨H1, I1, q1⟩ => ?_)
  cases d with
  | true => exact ha pins s1 σ H1 D I1 q1
  | false => exact hb pins s1 σ H1 D I1 q1
/-- code that the proof never comes to -/
def tNever : TS := fun _ _ _ => False
theorem ps_never : PS X st tNever := fun _ _ _ _ _ _ h => h.elim
theorem pss_never {sts : List Stmt} : PSs X sts tNever := fun _ _ _ _ _ _ h => h.elim
end

/-! ### targets -/
abbrev TG := V → St → Hp → (St → Hp → Prop) → Prop
def PG (X : Cx) (target : Expr) (t : TG) : Prop :=
  ∀ (pins : List (Addr × Obj)) (s : Shared) (σ : St) (H : Hp) (v : V) (u : Value) (Q : St → Hp → Prop), Inv X pins σ H s → RelV v u → t v σ H Q →
    wpAny (model X.prog X.w) X.A (assign target X.env u) (fun _ s' => ∃ σ' H', Inv X pins σ' H' s' ∧ Q σ' H') X.xe s
/-- o[i] = v, by values -/
abbrev TSet := V → V → V → Hp → (Hp → Prop) → Prop
def PSet (X : Cx) (t : TSet) : Prop :=
  ∀ (pins : List (Addr × Obj)) (s : Shared) (σ : St) (H : Hp) (o i v : V) (ov iv u : Value) (Q : Hp → Prop), Inv X pins σ H s → RelV o ov → RelV i iv → RelV v u → t o i v H Q →
    wpAny (model X.prog X.w) X.A (setItem ov iv u) (fun _ s' => ∃ H', Inv X pins σ H' s' ∧ Q H') X.xe s
section
variable {X : Cx} {pos : Pos}
def gName (i : Nat) : TG := fun v σ H Q => Q (σ.set i (some v)) H
theorem pg_name {i : Nat} {x : Str} (hN : X.N.Nodup) (hi : X.N[i]? = some x) (hx : Loc X.env.scope x) (hf : X.fn x = true ∨ X.env.scope.names.lookup x = some .local := by first | exact .inl rfl | exact .inr rfl | assumption) : PG X (.Name x pos) (gName i) := by
  intro pins s σ H v u Q I r h
  exact wpAny_assign_Name (store_ok I hN hi hx r (fun s' I' => ⟨_, H, I', h⟩) hf)
/-- o[i] = .. -/
def gSub (to ti : TE) (t : TSet) : TG := fun v σ H Q => to σ H fun o H1 => ti σ H1 fun i H2 => t o i v H2 fun H3 => Q σ H3
theorem pg_sub {o i : Expr} {to ti : TE} {t : TSet} (ho : PE X o to) (hi : PE X i ti) (hs : PSet X t)
    (ha : ∀ v, assign (.Subscript o i pos) X.env v = (do
      let ov ← holding [v] (eval o X.env)
      let iv ← holding [v, ov] (eval i X.env)
      standAt pos
      holding [v, ov, iv] (setItem ov iv v)
      release [v, ov, iv] []) := by intro _; rfl) : PG X (.Subscript o i pos) (gSub to ti t) := by
  intro pins s σ H v u Q I r h
  rw [ha]
  refine wpAny_bind (wpAny_holding (thn (ho pins s σ H _ I h) fun ov s1 ⟨x, H1, I1, r1, q1⟩ => ?_))
  refine wpAny_bind (wpAny_holding (thn (hi pins s1 σ H1 _ I1 q1) fun iv s2 ⟨y, H2, I2, r2, q2⟩ => ?_))
  refine wpAny_bind (wpAny_standAt (wpAny_bind (wpAny_holding (thn (hs pins s2 σ H2 x y v ov iv u _ I2 r1 r2 r q2) fun _ s3 ⟨H3, I3, q3⟩ => ?_))))
  exact wpAny_release ⟨σ, H3, I3, q3⟩
/-- target = value -/
def tAsg (te : TE) (g : TG) : TS := fun D σ H => te σ H fun x H1 => g x σ H1 D.nx
theorem ps_asg {tg e : Expr} {te : TE} {g : TG} (he : PE X e te) (hg : PG X tg g) (hs : swapsWithSole [tg] e pos.line X.env = pure false := by rfl) (hw : swappedStores [tg] e X.env = pure none := by rfl)
    (h1 : (assignEach [tg] X.env).map (·.2) = [assign tg X.env] := by rfl) : PS X (.Assign [tg] e pos) (tAsg te g) := by
  intro pins s σ H D I h
  refine wpAny_Assign_stores (thn (he pins s σ H _ I h) fun v s1 ⟨x, H1, I1, r1, q1⟩ => ?_) hs hw
  rw [h1]
  exact thn (hg pins s1 σ H1 x v _ I1 r1 q1) fun _ s2 q => q
/-- name = value -/
theorem ps_set {i : Nat} {x : Str} {e : Expr} {te : TE} {pos' : Pos} (hN : X.N.Nodup) (hi : X.N[i]? = some x) (hx : Loc X.env.scope x) (he : PE X e te) (hs : swapsWith e (some (.Name x pos')) pos.line X.env = pure false := by rfl) (hf : X.fn x = true ∨ X.env.scope.names.lookup x = some .local := by first | exact .inl rfl | exact .inr rfl | assumption) :
    PS X (.Assign [.Name x pos'] e pos) (tAsg te (gName i)) := by
  intro pins s σ H D I h
  refine wpAny_Assign_Name (thn (he pins s σ H _ I h) fun v s1 ⟨y, H1, I1, r1, q1⟩ => ?_) hs
  exact store_ok I1 hN hi hx r1 (fun s2 I2 => ⟨_, H1, I2, q1⟩) hf
/-- a, b = x, y with plain local names: stored from the right; the pair itself is not tracked (the opening rows as in PyProof/Rows/TupAssign.lean:23) -/
def tPar (i j : Nat) (ta : TA) : TS := fun D σ H => ta σ H fun vs H1 => ∃ v w, vs = [v, w] ∧ D.nx ((σ.set i (some v)).set j (some w)) H1
theorem ps_par {i j : Nat} {x y : Str} {a b : Expr} {ta : TA} {px py pt : Pos} {kt k2 pt2} (hc : X.calm = true) (hN : X.N.Nodup) (hi : X.N[i]? = some x) (hj : X.N[j]? = some y) (hij : i ≠ j)
    (hx : X.env.scope.names.lookup x = some .local) (hy : X.env.scope.names.lookup y = some .local) (ha : PA X [a, b] ta)
    (hw : swappedStores [.Tuple [.Name x px, .Name y py] kt pt] (.Tuple [a, b] k2 pt2) X.env = pure (some [x, y]))
    (hs : swapsWithSole [.Tuple [.Name x px, .Name y py] kt pt] (.Tuple [a, b] k2 pt2) pos.line X.env = pure false := by rfl) :
    PS X (.Assign [.Tuple [.Name x px, .Name y py] kt pt] (.Tuple [a, b] k2 pt2) pos) (tPar i j ta) := by
  intro pins s σ H D I h
  rw [exec_Assign_arm]
  refine wpAny_bind (wpAny_standAt ?_)
  rw [hs]
  refine wpAny_bind (wpAny_pure ?_)
  rw [if_neg (by decide)]
  refine wpAny_bind (Tuple_ (thn (ha _ pins s σ H _ I h) fun us s1 ⟨vs, H1, I1, r1, q1⟩ => ?_))
  obtain ⟨v, w, e1, q1⟩ := q1
  subst e1
  obtain ⟨u1, u2, rfl, rv, rw'⟩ : ∃ u1 u2, us = [u1, u2] ∧ RelV v u1 ∧ RelV w u2 := by
    cases r1 with
    | cons p q =>
      cases q with
      | cons p' q' =>
        cases q'
        exact ⟨_, _, rfl, p, p'⟩
  refine wpAny_newObj_type ?_ (by show 2 ≤ sizeLine; decide)
  have I2 : Inv X pins σ H1 { s1 with heap := s1.heap.push { cls := .type "tuple", data := .seq [u1, u2].toArray } } := I1.kept (t' := s1.toks) fun b o e => Heap.get?_push_of_some _ e
  rw [hw]
  refine wpAny_bind (wpAny_pure ?_)
  show wpAny (model X.prog X.w) X.A (do rule "assign.swapped-stores"; let items ← unpackItems (.ref s1.heap.objs.size) 2 none; assignInOrder [fun v => bindName X.env y v, fun v => bindName X.env x v] items.reverse; pure Flow.next) _ _ _
  refine wpAny_bind (wpAny_rule (wpAny_bind (unpackItems_tuple (items := #[u1, u2]) (I.ok.hd hc) (IsTup.new s1.heap _) fun h' hx' => ?_)))
  have I3 := I2.kept (h' := h') (t' := s1.toks) fun b o e => hx' b o (Nat.ne_of_lt (Heap.lt_size e)) e
  show wpAny _ _ (assignInOrder [fun v => bindName X.env y v, fun v => bindName X.env x v] [u2, u1] >>= fun _ => pure Flow.next) _ _ _
  refine wpAny_bind (assignInOrder_cons (wpAny_bindName (store_ok I3 hN hj (.inl hy) rw' (fun s2 I4 => ?_) (.inr hy))))
  refine assignInOrder_cons (wpAny_bindName (store_ok I4 hN hi (.inl hx) rv (fun s3 I5 => assignInOrder_nil (wpAny_pure ?_)) (.inr hx)))
  rw [List.set_comm _ _ (Ne.symm hij)] at I5
  exact ⟨_, H1, I5, q1⟩
end

/-! ### while -/
section
variable {X : Cx} {pos : Pos}
/-- the invariant W with its measure -/
def tWhile (c : TT) (tb : TS) : TS := fun D σ H => ∃ W : Nat → St → Hp → Prop, (∃ m, W m σ H) ∧ ∀ m σ H, W m σ H →
  c σ H fun b H1 => if b = true then ∃ N : St → Hp → Prop, (∀ σ' H', N σ' H' → ∃ m', m' < m ∧ W m' σ' H') ∧ tb { D with nx := N, ct := N, bk := D.nx } σ H1 else D.nx σ H1
theorem ps_while {c : Expr} {body : List Stmt} {tc : TT} {tb : TS} (hp : PassesOwn (model X.prog X.w) X.A X.env X.xe) (hc : PT X c tc) (hb : PSs X body tb) : PS X (.While c body [] pos) (tWhile tc tb) := by
  intro pins s σ H D I h
  obtain ⟨W, ⟨m0, w0⟩, turn⟩ := h
  refine wpAny_While (codeAny_whileLoop (fun n s' => ∃ σ' H', Inv X pins σ' H' s' ∧ W n σ' H') ?_ m0 ⟨σ, H, I, w0⟩)
  rintro n s1 ⟨σ1, H1, I1, w1⟩
  refine wpAny_passesOwn hp (thn (hc pins s1 σ1 H1 _ I1 (turn n σ1 H1 w1)) fun b s2 ⟨H2, I2, q2⟩ => ?_)
  cases b with
  | true =>
    obtain ⟨N, hN, q2⟩ := q2
    rw [if_pos rfl]
    refine wpAny_passesOwn hp (thn (hb pins s2 σ1 H2 _ I2 q2) fun f s3 q3 => ?_)
    cases f with
    | next =>
      obtain ⟨σ3, H3, I3, n3⟩ := q3
      obtain ⟨m', hm, w3⟩ := hN σ3 H3 n3
      exact ⟨m', hm, σ3, H3, I3, w3⟩
    | cont =>
      obtain ⟨σ3, H3, I3, n3⟩ := q3
      obtain ⟨m', hm, w3⟩ := hN σ3 H3 n3
      exact ⟨m', hm, σ3, H3, I3, w3⟩
    | brk => exact q3
    | ret v => exact q3
  | false =>
    rw [if_neg Bool.false_ne_true]
    exact wpAny_execs_nil ⟨σ1, H2, I2, q2⟩
end

/-! ### what a loop or a comprehension walks -/
/-- at turn i: it yields x (the heap may grow), or it stops -/
structure It where
  go : Nat → Hp → Prop
  yld : Nat → Hp → V → Hp → Prop
  stop : Nat → Hp → Prop
/-- the iterator's own objects may turn: they are not the frame's, not pinned, younger than the entry (or a comprehension's own) -/
def FpOk (X : Cx) (pins : List (Addr × Obj)) (H : Hp) (b : Addr) : Prop :=
  H b = none ∧ b ≠ X.env.locals ∧ b ∉ X.fs ∧ (b ∈ X.ex ∨ X.s₀.heap.objs.size ≤ b) ∧ (∀ x c, X.env.cells.lookup x = some c → c ≠ b) ∧ ∀ p ∈ X.pn ++ pins, p.1 ≠ b
theorem Inv.fpOk {X : Cx} {pins : List (Addr × Obj)} {σ : St} {H H' : Hp} {s : Shared} {b : Addr} (I : Inv X pins σ H s) (hb : s.heap.objs.size ≤ b) (hn : H' b = none) : FpOk X pins H' b := by
  refine ⟨hn, Nat.ne_of_gt (Nat.lt_of_lt_of_le I.lt hb), I.nofs hb, .inr (Nat.le_trans I.sz hb), fun x c e z => ?_, fun p hp z => ?_⟩
  · obtain ⟨v, q⟩ := I.cell x c e
    exact absurd (Nat.lt_of_lt_of_le q.lt (by rw [z]; exact hb)) (Nat.lt_irrefl _)
  · exact absurd (Nat.lt_of_lt_of_le (Heap.lt_size (I.pin p hp).1) (by rw [z]; exact hb)) (Nat.lt_irrefl _)
structure Turn (P : Program) (w : World) (K : PySem.W.Frag) (tg : Expr) (J : It) (fp : List Addr) (it : Addr) (tn : Nat → Heap → Prop) : Prop where
  mem : it ∈ fp
  obj : ∀ i h, tn i h → ∀ b ∈ fp, ∃ o, h.get? b = some o ∧ ∀ v, o.data ≠ .cell v
  keep : ∀ i h h', tn i h → (∀ b ∈ fp, ∀ o, h.get? b = some o → h'.get? b = some o) → tn i h'
  item : ∀ (X : Cx), X.prog = P → X.w = w → X.K = K → X.calm = true → ∀ (i : Nat) (pins : List (Addr × Obj)) (s : Shared) (σ : St) (H : Hp) (E : Value → Shared → Prop), Inv X pins σ H s → (∀ b ∈ fp, FpOk X pins H b) → tn i s.heap → J.go i H →
    wpAny (model P w) X.A (pyNext (.ref it)) (fun r s1 => ∃ u, r = some u ∧
      wpAny (model P w) X.A (letOwnedTupleGo tg (.ref it) u) (fun _ s2 => ∃ x H', Inv X pins σ H' s2 ∧ RelV x u ∧ J.yld i H x H' ∧ tn (i + 1) s2.heap ∧ ∀ b ∈ fp, H' b = none) E s1) E s
  done : ∀ (X : Cx), X.prog = P → X.w = w → X.K = K → X.calm = true → ∀ (i : Nat) (pins : List (Addr × Obj)) (s : Shared) (σ : St) (H : Hp) (E : Value → Shared → Prop), Inv X pins σ H s → (∀ b ∈ fp, FpOk X pins H b) → tn i s.heap → J.stop i H →
    wpAny (model P w) X.A (pyNext (.ref it)) (fun r s1 => r = none ∧ Inv X pins σ H s1) E s
  self : ∀ (A : Around) (i : Nat) (s : Shared) (Q : Value → Shared → Prop) (E : Value → Shared → Prop), tn i s.heap → Q (.ref it) s → wpAny (model P w) A (pyIter (.ref it)) Q E s
abbrev TI := St → Hp → (It → Hp → Prop) → Prop
/-- an iterator has come -/
def PIE (X : Cx) (pins : List (Addr × Obj)) (σ : St) (tg : Expr) (R : It → Hp → Prop) (itv : Value) (s2 : Shared) : Prop :=
  ∃ (it : Addr) (fp : List Addr) (tn : Nat → Heap → Prop) (J : It) (H' : Hp), itv = .ref it ∧ Inv X pins σ H' s2 ∧ Turn X.prog X.w X.K tg J fp it tn ∧ tn 0 s2.heap ∧ (∀ b ∈ fp, FpOk X pins H' b) ∧ R J H'
def PI (X : Cx) (tg iter : Expr) (wi : TI) : Prop :=
  ∀ (pins : List (Addr × Obj)) (s : Shared) (σ : St) (H : Hp) (R : It → Hp → Prop), Inv X pins σ H s → wi σ H R →
    wpAny (model X.prog X.w) X.A (eval iter X.env) (fun v s1 => wpAny (model X.prog X.w) X.A (pyIter v) (PIE X pins σ tg R) X.xe s1) X.xe s

/-- the step ahead of the store is nothing for an iterator that keeps no tuple -/
theorem go_of {M : Model} {A : Around} {E : Value → Shared → Prop} {s : Shared} {tg : Expr} {it : Addr} {u : Value} {o : Obj} {n : String} {vs : Array Value} {Q : Unit → Shared → Prop} (ho : s.heap.get? it = some o) (hc : o.cls = .type n) (hd : o.data = .fields vs)
    (hn : ["enumerate", "zip", "dict_itemiterator", "dict_reverseitemiterator", "odict_iterator", "itertools.zip_longest", "itertools.pairwise"].contains n = false) (hQ : Q () s) : wpAny M A (letOwnedTupleGo tg (.ref it) u) Q E s := by
  unfold letOwnedTupleGo
  cases tg <;> first
    | exact wpAny_pure hQ
    | (cases u <;> first
        | exact wpAny_pure hQ
        | (refine wpAny_bind (wpAny_load ho ?_)
           rw [hc, hd]
           show wpAny M A (if (["enumerate", "zip", "dict_itemiterator", "dict_reverseitemiterator", "odict_iterator", "itertools.zip_longest", "itertools.pairwise"].contains n && vs[0]? == some (rawInt _)) = true then _ else _) Q E s
           rw [if_neg (by intro h; rw [hn, Bool.false_and] at h; cases h)]
           exact wpAny_pure hQ))

/-- the list at a, as it stands at each turn (a loop may append to it) -/
def Itl (K : PySem.W.Frag) (a : Addr) : It :=
  ⟨fun i H => ∃ xs x, SqL K H a xs ∧ xs[i]? = some x, fun i H x H' => H' = H ∧ ∀ xs, SqL K H a xs → xs[i]? = some x, fun i H => ∃ xs, SqL K H a xs ∧ xs.length ≤ i⟩
def Itt (K : PySem.W.Frag) (a : Addr) : It :=
  ⟨fun i H => ∃ xs x, SqT K H a xs ∧ xs[i]? = some x, fun i H x H' => H' = H ∧ ∀ xs, SqT K H a xs → xs[i]? = some x, fun i H => ∃ xs, SqT K H a xs ∧ xs.length ≤ i⟩
/-- lo, lo + 1, .. (n of them) -/
def Itr (lo : Int) (n : Nat) : It := ⟨fun i _ => i < n, fun i H x H' => H' = H ∧ x = .int (lo + i), fun i _ => n ≤ i⟩
theorem turn_list {P : Program} {w : World} {K : PySem.W.Frag} {tg : Expr} (a it : Addr) : Turn P w K tg (Itl K a) [it] it (fun i h => h.IsListIter it a i) where
  mem := by simp
  obj := fun i h st b hb => by
    have e : b = it := by simpa using hb
    subst e
    obtain ⟨o, e, c, d⟩ := st
    exact ⟨o, e, fun v z => by rw [d] at z; cases z⟩
  keep := fun i h h' st k => st.at fun o e => k it (by simp) o e
  item := by
    intro X hP hw hK hc i pins s σ H E I hf st hg
    subst hP hw hK
    obtain ⟨xs, x, hq, hx⟩ := hg
    obtain ⟨its, rv, p, hz⟩ := I.list hq
    obtain ⟨u, hu, ru⟩ := rv.get hx
    obtain ⟨f0, f1, f2, f3, f4, f5⟩ := hf it (by simp)
    refine wpAny_pyNext_list_item st p.isList (x := u) (by simpa using hu) fun h' st' sb => ?_
    have I1 : Inv X pins σ H { s with heap := h' } := I.turned (t' := s.toks) (fun b o hb e => (sb.2 b hb).trans e) f0 f1 f3 f4 f5
    obtain ⟨o, e, c, d⟩ := id st'
    exact ⟨u, rfl, go_of (s := { s with heap := h' }) e c d (by decide) ⟨x, H, I1, ru, ⟨rfl, fun ys hy => by rw [I.list_inj hy hq]; exact hx⟩, st', fun b hb => (hf b hb).1⟩⟩
  done := by
    intro X hP hw hK hc i pins s σ H E I hf st hg
    subst hP hw hK
    obtain ⟨xs, hq, hx⟩ := hg
    obtain ⟨its, rv, p, hz⟩ := I.list hq
    obtain ⟨f0, f1, f2, f3, f4, f5⟩ := hf it (by simp)
    have hl := rv.length
    exact wpAny_pyNext_list_end (I.ok.hd hc) st p.isList (by simp; lia) fun h' eb => ⟨rfl, I.turned (t' := s.toks) (fun b o hb e => eb b o hb e) f0 f1 f3 f4 f5⟩
  self := fun _ _ _ _ _ st h => wpAny_pyIter_listiter st h
theorem turn_tuple {P : Program} {w : World} {K : PySem.W.Frag} {tg : Expr} (a it : Addr) : Turn P w K tg (Itt K a) [it] it (fun i h => h.IsTupleIter it a i) where
  mem := by simp
  obj := fun i h st b hb => by
    have e : b = it := by simpa using hb
    subst e
    obtain ⟨o, e, c, d⟩ := st
    exact ⟨o, e, fun v z => by rw [d] at z; cases z⟩
  keep := fun i h h' st k => st.at fun o e => k it (by simp) o e
  item := by
    intro X hP hw hK hc i pins s σ H E I hf st hg
    subst hP hw hK
    obtain ⟨xs, x, hq, hx⟩ := hg
    obtain ⟨its, rv, p, hz⟩ := I.tuple hq
    obtain ⟨u, hu, ru⟩ := rv.get hx
    obtain ⟨f0, f1, f2, f3, f4, f5⟩ := hf it (by simp)
    refine wpAny_pyNext_tuple_item st (show s.heap.IsTuple a its.toArray from p) (x := u) (by simpa using hu) fun h' st' sb => ?_
    have I1 : Inv X pins σ H { s with heap := h' } := I.turned (t' := s.toks) (fun b o hb e => (sb.2 b hb).trans e) f0 f1 f3 f4 f5
    obtain ⟨o, e, c, d⟩ := id st'
    exact ⟨u, rfl, go_of (s := { s with heap := h' }) e c d (by decide) ⟨x, H, I1, ru, ⟨rfl, fun ys hy => by rw [I.tuple_inj hy hq]; exact hx⟩, st', fun b hb => (hf b hb).1⟩⟩
  done := by
    intro X hP hw hK hc i pins s σ H E I hf st hg
    subst hP hw hK
    obtain ⟨xs, hq, hx⟩ := hg
    obtain ⟨its, rv, p, hz⟩ := I.tuple hq
    obtain ⟨f0, f1, f2, f3, f4, f5⟩ := hf it (by simp)
    have hl := rv.length
    exact wpAny_pyNext_tuple_end (I.ok.hd hc) st (show s.heap.IsTuple a its.toArray from p) (by simp; lia) fun h' eb => ⟨rfl, I.turned (t' := s.toks) (fun b o hb e => eb b o hb e) f0 f1 f3 f4 f5⟩
  self := fun _ _ _ _ _ st h => wpAny_pyIter_tupleiter st h
theorem turn_range {P : Program} {w : World} {K : PySem.W.Frag} {tg : Expr} (it : Addr) (lo : Int) (n : Nat) : Turn P w K tg (Itr lo n) [it] it (fun i h => IsRangeIter h it (lo + (i : Nat) * 1) ((n : Int) - (i : Nat)) 1) where
  mem := by simp
  obj := fun i h st b hb => by
    have e : b = it := by simpa using hb
    subst e
    exact ⟨_, st, fun v z => by
      have z' : Data.fields _ = Data.cell v := z
      cases z'⟩
  keep := fun i h h' st k => k it (by simp) _ st
  item := by
    intro X hP hw hK hc i pins s σ H E I hf st hg
    subst hP hw hK
    obtain ⟨f0, f1, f2, f3, f4, f5⟩ := hf it (by simp)
    have W := Walks.range (prog := X.prog) (w := X.w) (I.ok.hd hc) it lo 1 n
    refine W.item i s _ _ hg st fun v h' tk hv st' kk => ?_
    obtain ⟨t, rfl⟩ := hv
    have I1 : Inv X pins σ H { s with heap := h', toks := tk } := I.turned (fun b o hb e => kk b o (by simpa using hb) e) f0 f1 f3 f4 f5
    refine ⟨_, rfl, go_of (s := { s with heap := h', toks := tk }) (n := "range_iterator") st' rfl rfl (by decide) ⟨.int (lo + i), H, I1, ⟨t, ?_⟩, ⟨rfl, rfl⟩, st', fun b hb => (hf b hb).1⟩⟩
    rw [Int.mul_one]
  done := by
    intro X hP hw hK hc i pins s σ H E I hf st hg
    subst hP hw hK
    obtain ⟨f0, f1, f2, f3, f4, f5⟩ := hf it (by simp)
    exact wpAny_pyNext_range_end (I.ok.hd hc) st (by have : n ≤ i := hg; lia) fun h' eb => ⟨rfl, I.turned (t' := s.toks) (fun b o hb e => eb b o hb e) f0 f1 f3 f4 f5⟩
  self := fun _ _ _ _ _ st h => wpAny_pyIter_rangeiter st h
end L2

namespace L2
open PySem PySem.Spec PyProof.Rows
section
variable {X : Cx} {tg : Expr}
def iList (K : PySem.W.Frag) (tl : TE) : TI := fun σ H R => tl σ H fun x H1 => ∃ a, x = .ref a ∧ (∃ xs, SqL K H1 a xs) ∧ R (Itl K a) H1
def iTup (K : PySem.W.Frag) (tl : TE) : TI := fun σ H R => tl σ H fun x H1 => ∃ a, x = .ref a ∧ (∃ xs, SqT K H1 a xs) ∧ R (Itt K a) H1
theorem pi_list {l : Expr} {tl : TE} (hl : PE X l tl) : PI X tg l (iList X.K tl) := by
  intro pins s σ H R I h
  refine thn (hl pins s σ H _ I h) fun v s1 ⟨x, H1, I1, r1, q1⟩ => ?_
  obtain ⟨a, e, ⟨xs, hq⟩, q⟩ := q1
  subst e
  cases r1
  obtain ⟨its, rv, p, hz⟩ := I1.list hq
  refine wpAny_pyIter_list p.isList ?_
  refine ⟨s1.heap.objs.size, [s1.heap.objs.size], _, _, H1, rfl, I1.kept (t' := s1.toks) fun b o e => Heap.get?_push_of_some _ e, turn_list a _, ⟨_, Heap.get?_push_size _ rfl, rfl, rfl⟩, fun b hb => ?_, q⟩
  have e : b = s1.heap.objs.size := by simpa using hb
  subst e
  exact I1.fpOk (Nat.le_refl _) (I1.hok.fresh (Nat.le_refl _))
theorem pi_tup {l : Expr} {tl : TE} (hl : PE X l tl) : PI X tg l (iTup X.K tl) := by
  intro pins s σ H R I h
  refine thn (hl pins s σ H _ I h) fun v s1 ⟨x, H1, I1, r1, q1⟩ => ?_
  obtain ⟨a, e, ⟨xs, hq⟩, q⟩ := q1
  subst e
  cases r1
  obtain ⟨its, rv, p, hz⟩ := I1.tuple hq
  refine wpAny_pyIter_tuple (show s1.heap.IsTuple a its.toArray from p) ?_
  refine ⟨s1.heap.objs.size, [s1.heap.objs.size], _, _, H1, rfl, I1.kept (t' := s1.toks) fun b o e => Heap.get?_push_of_some _ e, turn_tuple a _, ⟨_, Heap.get?_push_size _ rfl, rfl, rfl⟩, fun b hb => ?_, q⟩
  have e : b = s1.heap.objs.size := by simpa using hb
  subst e
  exact I1.fpOk (Nat.le_refl _) (I1.hok.fresh (Nat.le_refl _))
/-- a range object just made, walked -/
theorem range_it {pins : List (Addr × Obj)} {σ : St} {H : Hp} {s : Shared} {R : It → Hp → Prop} {E : Value → Shared → Prop} {lo hi : Int} {t u v : Tok} {tk : Nat} (I : Inv X pins σ H s) (h1 : -(2 ^ 62) ≤ lo) (h2 : lo < 2 ^ 62) (h3 : -(2 ^ 62) ≤ hi) (h4 : hi < 2 ^ 62)
    (q : R (Itr lo (hi - lo).toNat) H) : wpAny (model X.prog X.w) X.A (pyIter (.ref s.heap.objs.size)) (PIE X pins σ tg R) E { s with heap := s.heap.push { cls := .type "range", data := .fields #[.int lo t, .int hi u, .int 1 v] }, toks := tk } := by
  refine wpAny_pyIter_range (IsRange.new ..) (small_one h1 h2 h3 h4) ?_
  have I1 : Inv X pins σ H { s with heap := s.heap.push { cls := .type "range", data := .fields #[.int lo t, .int hi u, .int 1 v] }, toks := tk } := I.kept fun b o e => Heap.get?_push_of_some _ e
  refine ⟨(s.heap.push { cls := .type "range", data := .fields #[.int lo t, .int hi u, .int 1 v] }).objs.size, [(s.heap.push { cls := .type "range", data := .fields #[.int lo t, .int hi u, .int 1 v] }).objs.size], _, _, H, rfl,
    I1.kept (t' := tk) fun b o e => Heap.get?_push_of_some _ e, turn_range _ lo (hi - lo).toNat, ?_, fun b hb => ?_, q⟩
  · have e1 : lo + ((0 : Nat) : Int) * 1 = lo := by simp
    have e2 : (((hi - lo).toNat : Nat) : Int) - ((0 : Nat) : Int) = Builtin.Range.rangeSize lo hi 1 := by rw [rangeSize_one]; split <;> lia
    show IsRangeIter _ _ (lo + ((0 : Nat) : Int) * 1) ((((hi - lo).toNat : Nat) : Int) - ((0 : Nat) : Int)) 1
    rw [e1, e2]
    exact Heap.get?_push_size _ rfl
  · have e : b = (s.heap.push { cls := .type "range", data := .fields #[.int lo t, .int hi u, .int 1 v] }).objs.size := by simpa using hb
    subst e
    exact I1.fpOk (Nat.le_refl _) (I1.hok.fresh (Nat.le_refl _))
def iRng1 (ta : TA) : TI := fun σ H R => ta σ H fun vs H1 => ∃ j : Int, vs = [.int j] ∧ -(2 ^ 62) ≤ j ∧ j < 2 ^ 62 ∧ R (Itr 0 j.toNat) H1
theorem pi_range1 {a : Expr} {ta : TA} {p pos : Pos} (hg : Gl X "range") (hm : X.mg "range" = none) (ha : PA X [a] ta) (hs : starEach [a] X.env = [(false, eval a X.env)] := by rfl) : PI X tg (.Call (.Name "range" p) [a] [] pos) (iRng1 ta) := by
  intro pins s σ H R I h
  refine Call_ (ld_blt I hg hm boot_range (PyProof.Rows.callWith_type1 (thn (ha pos pins s σ H _ I h) fun us s1 ⟨vs, H1, I1, r1, q1⟩ => ?_) hs rfl))
  obtain ⟨j, e, q1, q2, q⟩ := q1
  subst e
  cases r1 with
  | cons r rr =>
    cases rr
    obtain ⟨t, rfl⟩ := r
    exact call_range_1 (range_it I1 (by lia) (by lia) q1 q2 (by simpa using q))
/-! ### for -/
/-- W: the invariant by the turn and a measure; N: what the body is to reach -/
def tFor (wi : TI) (g : TG) (tb : TS) : TS := fun D σ H => wi σ H fun J H1 => ∃ W : Nat → Nat → St → Hp → Prop, (∃ m, W 0 m σ H1) ∧ ∀ i m σ H, W i m σ H →
  (J.stop i H ∧ D.nx σ H) ∨ (J.go i H ∧ ∃ N : St → Hp → Prop, (∀ σ' H', N σ' H' → ∃ m', m' < m ∧ W (i + 1) m' σ' H') ∧ ∀ x H', J.yld i H x H' → g x σ H' fun σ2 H2 => tb { D with nx := N, ct := N, bk := D.nx } σ2 H2)
/-- the records at fp as they stand -/
def pinsAt (fp : List Addr) (h : Heap) : List (Addr × Obj) := fp.filterMap fun b => (h.get? b).map fun o => (b, o)
theorem mem_pinsAt {fp : List Addr} {h : Heap} {b : Addr} {o : Obj} (hb : b ∈ fp) (e : h.get? b = some o) : (b, o) ∈ pinsAt fp h := List.mem_filterMap.mpr ⟨b, hb, by rw [e]; rfl⟩
theorem of_pinsAt {fp : List Addr} {h : Heap} {p : Addr × Obj} (hp : p ∈ pinsAt fp h) : p.1 ∈ fp ∧ h.get? p.1 = some p.2 := by
  obtain ⟨b, hb, e⟩ := List.mem_filterMap.mp hp
  cases q : h.get? b with
  | none => rw [q] at e; cases e
  | some o =>
    rw [q] at e
    have e' : (b, o) = p := Option.some.inj e
    subst e'
    exact ⟨hb, q⟩
theorem Inv.pinned {pins : List (Addr × Obj)} {σ : St} {H : Hp} {s : Shared} {fp : List Addr} (I : Inv X pins σ H s) (hf : ∀ b ∈ fp, FpOk X pins H b) (ho : ∀ b ∈ fp, ∃ o, s.heap.get? b = some o ∧ ∀ v, o.data ≠ .cell v) : Inv X (pins ++ pinsAt fp s.heap) σ H s :=
  I.pins_of fun p hp => (List.mem_append.mp hp).elim (fun z => I.pin p (List.mem_append_right _ z)) fun z => by
    obtain ⟨hb, e⟩ := of_pinsAt z
    obtain ⟨f0, f1, f2, _⟩ := hf p.1 hb
    obtain ⟨o, e', d⟩ := ho p.1 hb
    rw [e] at e'; cases e'
    exact ⟨e, f0, f1, f2, d⟩
theorem Inv.unpinned {pins pl : List (Addr × Obj)} {σ : St} {H : Hp} {s : Shared} (I : Inv X (pins ++ pl) σ H s) : Inv X pins σ H s := I.pins_of fun p hp => I.pin p (List.mem_append_right _ (List.mem_append_left _ hp))
theorem ps_for {iter : Expr} {body : List Stmt} {wi : TI} {g : TG} {tb : TS} {pos : Pos} (hp : PassesOwn (model X.prog X.w) X.A X.env X.xe) (hc : X.calm = true) (hi : PI X tg iter wi) (hg : PG X tg g) (hb : PSs X body tb)
    (hs : ∀ x, foldedSetIterable iter X.env x = pure x := by intro _; rfl) : PS X (.For tg iter body [] pos) (tFor wi g tb) := by
  intro pins s σ H D I h
  refine wpAny_For (thn (hi pins s σ H _ I h) fun v s1 h1 => thn h1 fun itv s2 h2 => ?_) hs
  obtain ⟨it, fp, tn, J, H2, e, I2, T, st2, f2, W, ⟨m0, w0⟩, turn⟩ := h2
  subst e
  -- what stays true of the iterator's objects through the loop
  have stat : ∀ {H' : Hp}, (∀ b ∈ fp, H' b = none) → ∀ b ∈ fp, FpOk X pins H' b := fun hn b hb => ⟨hn b hb, (f2 b hb).2⟩
  refine codeAny_forLoop_any (fun n s' => ∃ i σ' H', Inv X pins σ' H' s' ∧ tn i s'.heap ∧ (∀ b ∈ fp, H' b = none) ∧ W i n σ' H') ?_ m0 ⟨0, σ, H2, I2, st2, fun b hb => (f2 b hb).1, w0⟩
  rintro n s3 ⟨i, σ3, H3, I3, st3, fr3, w3⟩
  rcases turn i n σ3 H3 w3 with ⟨stop, qn⟩ | ⟨go, N, hN, step⟩
  · refine wpAny_passesOwn hp (thn (T.done X rfl rfl rfl hc i pins s3 σ3 H3 X.xe I3 (stat fr3) st3 stop) fun r s4 ⟨hr, I4⟩ => ?_)
    subst hr
    exact wpAny_execs_nil ⟨σ3, H3, I4, qn⟩
  · refine wpAny_passesOwn hp (thn (T.item X rfl rfl rfl hc i pins s3 σ3 H3 X.xe I3 (stat fr3) st3 go) fun r s4 ⟨u, hr, h4⟩ => ?_)
    subst hr
    refine wpAny_passesOwn hp (thn h4 fun _ s5 ⟨x, H5, I5, r5, y5, st5, fr5⟩ => ?_)
    have I5' := I5.pinned (stat fr5) (T.obj _ _ st5)
    refine wpAny_passesOwn hp (thn (hg _ s5 σ3 H5 x u _ I5' r5 (step x H5 y5)) fun _ s6 ⟨σ6, H6, I6, q6⟩ => ?_)
    refine wpAny_passesOwn hp (thn (hb _ s6 σ6 H6 _ I6 q6) fun f s7 q7 => ?_)
    have again : ∀ {σ7 : St} {H7 : Hp}, Inv X (pins ++ pinsAt fp s5.heap) σ7 H7 s7 → N σ7 H7 → ∃ m, m < n ∧ ∃ i σ' H', Inv X pins σ' H' s7 ∧ tn i s7.heap ∧ (∀ b ∈ fp, H' b = none) ∧ W i m σ' H' := fun {σ7 H7} I7 n7 => by
      obtain ⟨m', hm, w7⟩ := hN σ7 H7 n7
      refine ⟨m', hm, i + 1, σ7, H7, I7.unpinned, T.keep _ _ _ st5 fun b hb o e => (I7.pin (b, o) (List.mem_append_right _ (List.mem_append_right _ (mem_pinsAt hb e)))).1, fun b hb => ?_, w7⟩
      obtain ⟨o, e, d⟩ := T.obj _ _ st5 b hb
      exact (I7.pin (b, o) (List.mem_append_right _ (List.mem_append_right _ (mem_pinsAt hb e)))).2.1
    cases f with
    | next => obtain ⟨σ7, H7, I7, n7⟩ := q7; exact again I7 n7
    | cont => obtain ⟨σ7, H7, I7, n7⟩ := q7; exact again I7 n7
    | brk => obtain ⟨σ7, H7, I7, q7⟩ := q7; exact ⟨σ7, H7, I7.unpinned, q7⟩
    | ret v => obtain ⟨x7, σ7, H7, I7, r7, q7⟩ := q7; exact ⟨x7, σ7, H7, I7.unpinned, r7, q7⟩
end

/-! ### the forms one uses -/
/-- over a list that the body leaves as it is -/
theorem for_list {K : PySem.W.Frag} {a : Addr} {xs : List V} {g : TG} {tb : TS} {D : Ends} {σ : St} {H : Hp} (Pv : Nat → St → Hp → Prop) (h0 : Pv 0 σ H) (hl : ∀ i σ H, i ≤ xs.length → Pv i σ H → SqL K H a xs)
    (hs : ∀ i x σ H, xs[i]? = some x → Pv i σ H → g x σ H fun σ2 H2 => tb { D with nx := Pv (i + 1), ct := Pv (i + 1), bk := D.nx } σ2 H2) (hd : ∀ σ H, Pv xs.length σ H → D.nx σ H) :
    ∃ W : Nat → Nat → St → Hp → Prop, (∃ m, W 0 m σ H) ∧ ∀ i m σ H, W i m σ H →
      ((Itl K a).stop i H ∧ D.nx σ H) ∨ ((Itl K a).go i H ∧ ∃ N : St → Hp → Prop, (∀ σ' H', N σ' H' → ∃ m', m' < m ∧ W (i + 1) m' σ' H') ∧ ∀ x H', (Itl K a).yld i H x H' → g x σ H' fun σ2 H2 => tb { D with nx := N, ct := N, bk := D.nx } σ2 H2) := by
  refine ⟨fun i m σ H => m = xs.length - i ∧ i ≤ xs.length ∧ Pv i σ H, ⟨xs.length, by simp, Nat.zero_le _, h0⟩, ?_⟩
  rintro i m σ H ⟨rfl, hi, p⟩
  have q := hl i σ H hi p
  by_cases hlt : i < xs.length
  · refine .inr ⟨⟨xs, xs[i], q, by simp [hlt]⟩, Pv (i + 1), fun σ' H' p' => ⟨xs.length - (i + 1), by lia, rfl, hlt, p'⟩, fun x H' y => ?_⟩
    obtain ⟨e, y⟩ := y
    subst e
    exact hs i x σ _ (y xs q) p
  · have e : i = xs.length := by lia
    subst e
    exact .inl ⟨⟨xs, q, Nat.le_refl _⟩, hd σ H p⟩
theorem for_tup {K : PySem.W.Frag} {a : Addr} {xs : List V} {g : TG} {tb : TS} {D : Ends} {σ : St} {H : Hp} (Pv : Nat → St → Hp → Prop) (h0 : Pv 0 σ H) (hl : ∀ i σ H, i ≤ xs.length → Pv i σ H → SqT K H a xs)
    (hs : ∀ i x σ H, xs[i]? = some x → Pv i σ H → g x σ H fun σ2 H2 => tb { D with nx := Pv (i + 1), ct := Pv (i + 1), bk := D.nx } σ2 H2) (hd : ∀ σ H, Pv xs.length σ H → D.nx σ H) :
    ∃ W : Nat → Nat → St → Hp → Prop, (∃ m, W 0 m σ H) ∧ ∀ i m σ H, W i m σ H →
      ((Itt K a).stop i H ∧ D.nx σ H) ∨ ((Itt K a).go i H ∧ ∃ N : St → Hp → Prop, (∀ σ' H', N σ' H' → ∃ m', m' < m ∧ W (i + 1) m' σ' H') ∧ ∀ x H', (Itt K a).yld i H x H' → g x σ H' fun σ2 H2 => tb { D with nx := N, ct := N, bk := D.nx } σ2 H2) := by
  refine ⟨fun i m σ H => m = xs.length - i ∧ i ≤ xs.length ∧ Pv i σ H, ⟨xs.length, by simp, Nat.zero_le _, h0⟩, ?_⟩
  rintro i m σ H ⟨rfl, hi, p⟩
  have q := hl i σ H hi p
  by_cases hlt : i < xs.length
  · refine .inr ⟨⟨xs, xs[i], q, by simp [hlt]⟩, Pv (i + 1), fun σ' H' p' => ⟨xs.length - (i + 1), by lia, rfl, hlt, p'⟩, fun x H' y => ?_⟩
    obtain ⟨e, y⟩ := y
    subst e
    exact hs i x σ _ (y xs q) p
  · have e : i = xs.length := by lia
    subst e
    exact .inl ⟨⟨xs, q, Nat.le_refl _⟩, hd σ H p⟩
theorem for_range {lo : Int} {n : Nat} {g : TG} {tb : TS} {D : Ends} {σ : St} {H : Hp} (Pv : Nat → St → Hp → Prop) (h0 : Pv 0 σ H)
    (hs : ∀ i σ H, i < n → Pv i σ H → g (.int (lo + i)) σ H fun σ2 H2 => tb { D with nx := Pv (i + 1), ct := Pv (i + 1), bk := D.nx } σ2 H2) (hd : ∀ σ H, Pv n σ H → D.nx σ H) :
    ∃ W : Nat → Nat → St → Hp → Prop, (∃ m, W 0 m σ H) ∧ ∀ i m σ H, W i m σ H →
      ((Itr lo n).stop i H ∧ D.nx σ H) ∨ ((Itr lo n).go i H ∧ ∃ N : St → Hp → Prop, (∀ σ' H', N σ' H' → ∃ m', m' < m ∧ W (i + 1) m' σ' H') ∧ ∀ x H', (Itr lo n).yld i H x H' → g x σ H' fun σ2 H2 => tb { D with nx := N, ct := N, bk := D.nx } σ2 H2) := by
  refine ⟨fun i m σ H => m = n - i ∧ i ≤ n ∧ Pv i σ H, ⟨n, by simp, Nat.zero_le _, h0⟩, ?_⟩
  rintro i m σ H ⟨rfl, hi, p⟩
  by_cases hlt : i < n
  · refine .inr ⟨hlt, Pv (i + 1), fun σ' H' p' => ⟨n - (i + 1), by lia, rfl, hlt, p'⟩, fun x H' y => ?_⟩
    obtain ⟨e, y⟩ := y
    subst e y
    exact hs i σ _ hlt p
  · have e : i = n := by lia
    subst e
    exact .inl ⟨Nat.le_refl _, hd σ H p⟩
/-- while, by a word and a measure of the state -/
theorem while_by {c : TT} {tb : TS} {D : Ends} {σ : St} {H : Hp} (Pv : St → Hp → Prop) (μ : St → Hp → Nat) (h0 : Pv σ H)
    (hs : ∀ σ H, Pv σ H → c σ H fun b H1 => if b = true then tb { D with nx := fun σ' H' => Pv σ' H' ∧ μ σ' H' < μ σ H, ct := fun σ' H' => Pv σ' H' ∧ μ σ' H' < μ σ H, bk := D.nx } σ H1 else D.nx σ H1)
    (mono : ∀ σ H Q Q', (∀ b H1, Q b H1 → Q' b H1) → c σ H Q → c σ H Q') : tWhile c tb D σ H := by
  refine ⟨fun m σ H => m = μ σ H ∧ Pv σ H, ⟨_, rfl, h0⟩, ?_⟩
  rintro m σ H ⟨rfl, p⟩
  refine mono σ H _ _ (fun b H1 q => ?_) (hs σ H p)
  cases b with
  | true => exact ⟨_, fun σ' H' ⟨p', l⟩ => ⟨_, l, rfl, p'⟩, q⟩
  | false => exact q
end L2

namespace L2
open PySem PySem.Spec PyProof.Rows

abbrev R2 := V → V → Hp → VK → Prop
/-- a two-place operation on values: f is binaryOp op, inplaceOp op or compareOp op -/
def OpR (X : Cx) (f : Value → Value → Sem Value) (r : R2) : Prop :=
  ∀ (pins : List (Addr × Obj)) (s : Shared) (σ : St) (H : Hp) (x y : V) (v u : Value) (Q : VK), Inv X pins σ H s → RelV x v → RelV y u → r x y H Q →
    wpAny (model X.prog X.w) X.A (f v u) (EP X pins σ Q) X.xe s
/-- a one-place operation -/
def UnR (X : Cx) (f : Value → Sem Value) (r : V → Hp → VK → Prop) : Prop :=
  ∀ (pins : List (Addr × Obj)) (s : Shared) (σ : St) (H : Hp) (x : V) (v : Value) (Q : VK), Inv X pins σ H s → RelV x v → r x H Q →
    wpAny (model X.prog X.w) X.A (f v) (EP X pins σ Q) X.xe s
/-- a call of a value that is known (a builtin, a type) with values -/
def CallR (X : Cx) (f : Value) (r : List V → Hp → VK → Prop) : Prop :=
  ∀ (pins : List (Addr × Obj)) (s : Shared) (σ : St) (H : Hp) (xs : List V) (us : List Value) (Q : VK), Inv X pins σ H s → Vals xs us → r xs H Q →
    wpAny (model X.prog X.w) X.A (call f us) (EP X pins σ Q) X.xe s
def tOp (r : R2) (ta tb : TE) : TE := fun σ H Q => ta σ H fun x H1 => tb σ H1 fun y H2 => r x y H2 Q
def tUn (r : V → Hp → VK → Prop) (ta : TE) : TE := fun σ H Q => ta σ H fun x H1 => r x H1 Q
/-- ints in, under C, and a value out -/
inductive rI (C : Int → Int → Prop) (g : Int → Int → V) (x : V) (y : V) (H : Hp) (Q : VK) : Prop
  | mk (i : _) (j : _) (h1 : x = .int i) (h2 : y = .int j) (h3 : C i j) (h4 : Q (g i j) H) : rI C g x y H Q
inductive rI0 (g : Int → Int → V) (x : V) (y : V) (H : Hp) (Q : VK) : Prop
  | mk (i : _) (j : _) (h1 : x = .int i) (h2 : y = .int j) (h3 : Q (g i j) H) : rI0 g x y H Q
inductive rU (g : Int → V) (x : V) (H : Hp) (Q : VK) : Prop
  | mk (i : _) (h1 : x = .int i) (h2 : Q (g i) H) : rU g x H Q

section
variable {X : Cx} {a b c : Expr} {ta tb tc : TE} {pos : Pos}

theorem binT (ha : PE X a ta) (hb : PE X b tb) {pins : List (Addr × Obj)} {s : Shared} {σ : St} {H : Hp} {R : V → V → Hp → Prop} (I : Inv X pins σ H s)
    (h : ta σ H fun x H1 => tb σ H1 fun y H2 => R x y H2) {Q : Value → Shared → Prop} {f : Value → Value → Sem Value}
    (hf : ∀ v u s2 x y H2, Inv X pins σ H2 s2 → RelV x v → RelV y u → R x y H2 → wpAny (model X.prog X.w) X.A (f v u) Q X.xe s2) :
    wpAny (model X.prog X.w) X.A (eval a X.env) (fun v s₁ => wpAny (model X.prog X.w) X.A (eval b X.env) (fun u s₂ => wpAny (model X.prog X.w) X.A (f v u) Q X.xe s₂) X.xe s₁) X.xe s := by
  refine thn (ha pins s σ H _ I h) fun v s1 ⟨x, H1, I1, r1, q1⟩ => ?_
  refine thn (hb pins s1 σ H1 _ I1 q1) fun u s2 ⟨y, H2, I2, r2, q2⟩ => ?_
  exact hf v u s2 x y H2 I2 r1 r2 q2

theorem pe_op {op : Operator} {r : R2} (ho : OpR X (binaryOp op) r) (ha : PE X a ta) (hb : PE X b tb) : PE X (.BinOp a op b pos) (tOp r ta tb) := by
  intro pins s σ H Q I h
  exact wpAny_BinOp (binT ha hb I h fun v u s2 x y H2 I2 rx ry q => ho pins s2 σ H2 x y v u Q I2 rx ry q)
theorem pe_un {op : UnaryOp} {r : V → Hp → VK → Prop} (ho : UnR X (unaryOp op) r) (ha : PE X a ta) : PE X (.UnaryOp op a pos) (tUn r ta) := by
  intro pins s σ H Q I h
  exact UnaryOp_ (thn (ha pins s σ H _ I h) fun v s1 ⟨x, H1, I1, r1, q1⟩ => ho pins s1 σ H1 x v Q I1 r1 q1)
/-! ### ints -/
theorem opI {f : Value → Value → Sem Value} {C : Int → Int → Prop} {g : Int → Int → Int}
    (rule : ∀ (i j : Int) (t u : Tok) (s : Shared) (Q : Value → Shared → Prop) (E : Value → Shared → Prop), C i j → Q (.int (g i j) s.toks) { s with toks := s.toks + 1 } → wpAny (model X.prog X.w) X.A (f (.int i t) (.int j u)) Q E s) :
    OpR X f (rI C fun i j => .int (g i j)) := by
  intro pins s σ H x y v u Q I rx ry h
  obtain ⟨i, j, rfl, rfl, hc, q⟩ := h
  obtain ⟨t, rfl⟩ := rx
  obtain ⟨t', rfl⟩ := ry
  exact rule i j t t' s _ _ hc ⟨.int (g i j), H, I.tok _, ⟨_, rfl⟩, q⟩
theorem opI0 {f : Value → Value → Sem Value} {g : Int → Int → Int}
    (rule : ∀ (i j : Int) (t u : Tok) (s : Shared) (Q : Value → Shared → Prop) (E : Value → Shared → Prop), Q (.int (g i j) s.toks) { s with toks := s.toks + 1 } → wpAny (model X.prog X.w) X.A (f (.int i t) (.int j u)) Q E s) :
    OpR X f (rI0 fun i j => .int (g i j)) := by
  intro pins s σ H x y v u Q I rx ry h
  obtain ⟨i, j, rfl, rfl, q⟩ := h
  obtain ⟨t, rfl⟩ := rx
  obtain ⟨t', rfl⟩ := ry
  exact rule i j t t' s _ _ ⟨.int (g i j), H, I.tok _, ⟨_, rfl⟩, q⟩
theorem opB0 {f : Value → Value → Sem Value} {g : Int → Int → Bool}
    (rule : ∀ (i j : Int) (t u : Tok) (s : Shared) (Q : Value → Shared → Prop) (E : Value → Shared → Prop), Q (.bool (g i j)) s → wpAny (model X.prog X.w) X.A (f (.int i t) (.int j u)) Q E s) :
    OpR X f (rI0 fun i j => .bl (g i j)) := by
  intro pins s σ H x y v u Q I rx ry h
  obtain ⟨i, j, rfl, rfl, q⟩ := h
  obtain ⟨t, rfl⟩ := rx
  obtain ⟨t', rfl⟩ := ry
  exact rule i j t t' s _ _ ⟨.bl (g i j), H, I, rfl, q⟩

def CPow (i j : Int) : Prop := 0 ≤ j ∧ j ≤ 1000000 ∧ i.natAbs < 2 ^ 64
theorem op_add : OpR X (binaryOp .Add) (rI0 fun i j => .int (i + j)) := opI0 fun _ _ _ _ _ _ _ q => add_int q
theorem op_sub : OpR X (binaryOp .Sub) (rI0 fun i j => .int (i - j)) := opI0 fun _ _ _ _ _ _ _ q => sub_int q
/-- % by a positive divisor of any size -/
theorem op_mod : OpR X (binaryOp .Mod) (rI (fun _ j => 0 < j) fun i j => .int (i % j)) := opI fun i j _ _ _ _ _ hc q => by
  have h1 : (0 : Int) < j := hc
  exact mod_int' (by lia) (by rw [Int.fmod_eq_emod_of_nonneg i (by lia)]; exact q)
theorem op_pow : OpR X (binaryOp .Pow) (rI CPow fun i j => .int (i ^ j.toNat)) := opI fun _ _ _ _ _ _ _ hc q => pow_int_small hc.1 hc.2.1 hc.2.2 q
theorem unI {f : Value → Sem Value} {g : Int → Int}
    (rule : ∀ (i : Int) (t : Tok) (s : Shared) (Q : Value → Shared → Prop) (E : Value → Shared → Prop), Q (.int (g i) s.toks) { s with toks := s.toks + 1 } → wpAny (model X.prog X.w) X.A (f (.int i t)) Q E s) :
    UnR X f (rU fun i => .int (g i)) := by
  intro pins s σ H x v Q I rx h
  obtain ⟨i, rfl, q⟩ := h
  obtain ⟨t, rfl⟩ := rx
  exact rule i t s _ _ ⟨.int (g i), H, I.tok _, ⟨_, rfl⟩, q⟩
theorem un_neg : UnR X (unaryOp .USub) (rU fun i => .int (-i)) := unI fun _ _ _ _ _ q => neg_int q
/-! ### bools among ints: n += (a < b) -/
end

/-! ### comparisons -/
/-- the scalars that == tells apart as data does -/
def scal : V → V → Bool
  | .non, .non => true | .non, .int _ => true | .int _, .non => true | .non, .bl _ => true | .bl _, .non => true | .non, .str _ => true | .str _, .non => true
  | .int _, .int _ => true | .bl _, .bl _ => true | .str _, .str _ => true | .byt _, .byt _ => true
  | .int _, .str _ => true | .str _, .int _ => true | .bl _, .str _ => true | .str _, .bl _ => true
  | _, _ => false
def rEq : R2 := fun x y H Q => scal x y = true ∧ Q (.bl (decide (x = y))) H
def rNe : R2 := fun x y H Q => scal x y = true ∧ Q (.bl (!decide (x = y))) H

theorem dec_int {i j : Int} : decide (V.int i = V.int j) = (i == j) := by
  rw [Bool.eq_iff_iff]
  simp
theorem dec_bl {i j : Bool} : decide (V.bl i = V.bl j) = (i == j) := by
  rw [Bool.eq_iff_iff]
  simp
theorem dec_str {i j : Str} : decide (V.str i = V.str j) = (i == j) := by
  rw [Bool.eq_iff_iff]
  simp
theorem dec_byt {i j : Array UInt8} : decide (V.byt i = V.byt j) = (i.toList == j.toList) := by
  rw [Bool.eq_iff_iff]
  cases i
  cases j
  simp

section
variable {X : Cx} {a b c : Expr} {ta tb tc : TE} {pos : Pos}
theorem fin_bl {pins : List (Addr × Obj)} {σ : St} {H : Hp} {s : Shared} {Q : VK} {k k' : Bool} (I : Inv X pins σ H s) (q : Q (.bl k) H) (e : k = k') : EP X pins σ Q (.bool k') s := by
  subst e
  exact ⟨.bl k, H, I, rfl, q⟩
theorem op_eq : OpR X (compareOp .Eq) rEq := by
  intro pins s σ H x y v u Q I rx ry h
  obtain ⟨hs, q⟩ := h
  cases x with
  | non =>
    cases rx
    cases y with
    | non => cases ry; exact PySem.EqNone.eq_none_none (fin_bl I q (by simp))
    | bl j => cases ry; exact PySem.EqNone.eq_none_bool (fin_bl I q (by simp))
    | int j => obtain ⟨t', rfl⟩ := ry; exact PySem.EqNone.eq_none_int (fin_bl I q (by simp))
    | str j => obtain ⟨t', rfl⟩ := ry; exact PySem.EqNone.eq_none_str (fin_bl I q (by simp))
    | _ => exact absurd (show false = true from hs) Bool.false_ne_true
  | bl i =>
    cases rx
    cases y with
    | non => cases ry; exact PySem.EqNone.eq_bool_none (fin_bl I q (by simp))
    | bl j => cases ry; exact eq_bool (fin_bl I q dec_bl)
    | str j => obtain ⟨t', rfl⟩ := ry; exact PySem.EqMixed.eq_bool_str (fin_bl I q (by simp))
    | _ => exact absurd (show false = true from hs) Bool.false_ne_true
  | int i =>
    obtain ⟨t, rfl⟩ := rx
    cases y with
    | non => cases ry; exact PySem.EqNone.eq_int_none (fin_bl I q (by simp))
    | int j => obtain ⟨t', rfl⟩ := ry; exact eq_int (fin_bl I q dec_int)
    | str j => obtain ⟨t', rfl⟩ := ry; exact PySem.EqMixed.eq_int_str (fin_bl I q (by simp))
    | _ => exact absurd (show false = true from hs) Bool.false_ne_true
  | str i =>
    obtain ⟨t, rfl⟩ := rx
    cases y with
    | non => cases ry; exact PySem.EqNone.eq_str_none (fin_bl I q (by simp))
    | bl j => cases ry; exact PySem.EqMixed.eq_str_bool (fin_bl I q (by simp))
    | int j => obtain ⟨t', rfl⟩ := ry; exact PySem.EqMixed.eq_str_int (fin_bl I q (by simp))
    | str j => obtain ⟨t', rfl⟩ := ry; exact eq_str (fin_bl I q dec_str)
    | _ => exact absurd (show false = true from hs) Bool.false_ne_true
  | byt i =>
    obtain ⟨t, rfl⟩ := rx
    cases y with
    | byt j => obtain ⟨t', rfl⟩ := ry; exact PySem.W.eq_bytes (fin_bl I q dec_byt)
    | _ => exact absurd (show false = true from hs) Bool.false_ne_true
  | _ => cases y <;> exact absurd (show false = true from hs) Bool.false_ne_true
theorem op_ne : OpR X (compareOp .NotEq) rNe := by
  intro pins s σ H x y v u Q I rx ry h
  obtain ⟨hs, q⟩ := h
  cases x with
  | non =>
    cases rx
    cases y with
    | non => cases ry; exact PySem.EqNone.ne_none_none (fin_bl I q (by simp))
    | bl j => cases ry; exact PySem.EqNone.ne_none_bool (fin_bl I q (by simp))
    | int j => obtain ⟨t', rfl⟩ := ry; exact PySem.EqNone.ne_none_int (fin_bl I q (by simp))
    | str j => obtain ⟨t', rfl⟩ := ry; exact PySem.EqNone.ne_none_str (fin_bl I q (by simp))
    | _ => exact absurd (show false = true from hs) Bool.false_ne_true
  | bl i =>
    cases rx
    cases y with
    | non => cases ry; exact PySem.EqNone.ne_bool_none (fin_bl I q (by simp))
    | bl j => cases ry; exact ne_bool (fin_bl I q (congrArg not dec_bl))
    | str j => obtain ⟨t', rfl⟩ := ry; exact PySem.EqMixed.ne_bool_str (fin_bl I q (by simp))
    | _ => exact absurd (show false = true from hs) Bool.false_ne_true
  | int i =>
    obtain ⟨t, rfl⟩ := rx
    cases y with
    | non => cases ry; exact PySem.EqNone.ne_int_none (fin_bl I q (by simp))
    | int j => obtain ⟨t', rfl⟩ := ry; exact ne_int (fin_bl I q (congrArg not dec_int))
    | str j => obtain ⟨t', rfl⟩ := ry; exact PySem.EqMixed.ne_int_str (fin_bl I q (by simp))
    | _ => exact absurd (show false = true from hs) Bool.false_ne_true
  | str i =>
    obtain ⟨t, rfl⟩ := rx
    cases y with
    | non => cases ry; exact PySem.EqNone.ne_str_none (fin_bl I q (by simp))
    | bl j => cases ry; exact PySem.EqMixed.ne_str_bool (fin_bl I q (by simp))
    | int j => obtain ⟨t', rfl⟩ := ry; exact PySem.EqMixed.ne_str_int (fin_bl I q (by simp))
    | str j => obtain ⟨t', rfl⟩ := ry; exact ne_str (fin_bl I q (congrArg not dec_str))
    | _ => exact absurd (show false = true from hs) Bool.false_ne_true
  | byt i =>
    obtain ⟨t, rfl⟩ := rx
    cases y with
    | byt j => obtain ⟨t', rfl⟩ := ry; exact PySem.W.ne_bytes (fin_bl I q (congrArg not dec_byt))
    | _ => exact absurd (show false = true from hs) Bool.false_ne_true
  | _ => cases y <;> exact absurd (show false = true from hs) Bool.false_ne_true

theorem op_lt : OpR X (compareOp .Lt) (rI0 fun i j => .bl (decide (i < j))) := opB0 fun _ _ _ _ _ _ _ q => lt_int q
theorem op_gt : OpR X (compareOp .Gt) (rI0 fun i j => .bl (decide (j < i))) := opB0 fun _ _ _ _ _ _ _ q => gt_int q
theorem op_ge : OpR X (compareOp .GtE) (rI0 fun i j => .bl (decide (j ≤ i))) := opB0 fun _ _ _ _ _ _ _ q => ge_int q
theorem nomark (b : Expr) {op : CmpOp} (h : op ≠ .In := by decide) (h2 : op ≠ .NotIn := by decide) : behindInMarks op b = false := by
  have e1 : (op == CmpOp.In) = false := by cases op <;> first | rfl | exact absurd rfl h
  have e2 : (op == CmpOp.NotIn) = false := by cases op <;> first | rfl | exact absurd rfl h2
  cases b <;> simp [behindInMarks, e1, e2]
/-- a comparison as a value; hm: nomark b, or (for in, not in) by with_unfolding_all rfl -/
theorem pe_cmpR {op : CmpOp} {r : R2} (ho : OpR X (compareOp op) r) (ha : PE X a ta) (hb : PE X b tb) (hm : behindInMarks op b = false) : PE X (.Compare a [op] [b] pos) (tOp r ta tb) := by
  intro pins s σ H Q I h
  exact wpAny_Compare1 (binT ha hb I h fun v u s2 x y H2 I2 rx ry q => ho pins s2 σ H2 x y v u Q I2 rx ry q) hm
/-- a reading of a value as a test -/
def tTest (t : TE) : TT := fun σ H Q => t σ H fun x H' => ∃ k, x = .bl k ∧ Q k H'
theorem pt_cmpR {op : CmpOp} {r : R2} (ho : OpR X (compareOp op) r) (ha : PE X a ta) (hb : PE X b tb) (hm : behindInMarks op b = false) : PT X (.Compare a [op] [b] pos) (tTest (tOp r ta tb)) := by
  intro pins s σ H Q I h
  refine wpAny_isTrue_Compare1 (thn (ha pins s σ H _ I h) fun v s1 ⟨x, H1, I1, r1, q1⟩ => thn (hb pins s1 σ H1 _ I1 q1) fun u s2 ⟨y, H2, I2, r2, q2⟩ =>
    thn (ho pins s2 σ H2 x y v u _ I2 r1 r2 q2) fun c s3 ⟨z, H3, I3, r3, k, e, q3⟩ => ?_) hm
  subst e
  cases r3
  exact wpAny_truthy_bool ⟨H3, I3, q3⟩
/-! ### truth -/
theorem line63 : (sizeLine : Nat) < 2 ^ 63 := by rw [sizeLine_eq]; decide
/-! ### strs and bytes -/
/-! ### scalar builtins, by CallR -/
theorem vals1 {x : V} {us : List Value} (r : Vals [x] us) : ∃ u, us = [u] ∧ RelV x u := by
  cases r with
  | cons r1 r2 => cases r2; exact ⟨_, rfl, r1⟩
theorem vals2 {x y : V} {us : List Value} (r : Vals [x, y] us) : ∃ u w', us = [u, w'] ∧ RelV x u ∧ RelV y w' := by
  cases r with
  | cons r1 r2 =>
    cases r2 with
    | cons r3 r4 => cases r4; exact ⟨_, _, rfl, r1, r3⟩
theorem call_abs : CallR X (.builtin "abs") (fun xs H Q => ∃ i, xs = [.int i] ∧ Q (.int (if i < 0 then -i else i)) H) := by
  intro pins s σ H xs us Q I r h
  obtain ⟨i, rfl, q⟩ := h
  obtain ⟨u, rfl, t, rfl⟩ := vals1 r
  exact call_abs_int fun u tk => ⟨.int (if i < 0 then -i else i), H, I.tok _, ⟨_, rfl⟩, q⟩
theorem call_int1 : CallR X (.type "int") (fun xs H Q => (∃ i, xs = [.int i] ∧ Q (.int i) H) ∨ ∃ k, xs = [.bl k] ∧ Q (.int (if k then 1 else 0)) H) := by
  intro pins s σ H xs us Q I r h
  rcases h with ⟨i, rfl, q⟩ | ⟨k, rfl, q⟩
  · obtain ⟨u, rfl, t, rfl⟩ := vals1 r
    exact call_int_int ⟨.int i, H, I, ⟨_, rfl⟩, q⟩
  · obtain ⟨u, rfl, r1⟩ := vals1 r
    cases r1
    exact call_int_bool ⟨.int (if k then 1 else 0), H, I.tok _, ⟨_, rfl⟩, q⟩
end
end L2

namespace L2
open PySem PySem.Spec PyProof.Rows

/-! ### an instance, its attributes a map -/
structure ObjM (h : Heap) (x dx C : Addr) (mA : Str → Option Value) : Prop where
  obj : h.get? x = some (PySem.W.instObj C dx)
  ns : h.Ns1 dx mA
  ne : dx ≠ x

theorem lookIn_ns {h : Heap} {dx : Addr} {mA : Str → Option Value} (n : h.Ns1 dx mA) : ∃ od, h.get? dx = some od ∧ ∀ name, PySem.W.lookIn name od = some (mA name) := by
  obtain ⟨o, es, ep, ho, hd, hk, _, hm⟩ := n
  refine ⟨o, ho, fun name => ?_⟩
  have e := hm name
  unfold nsFind findBy at e
  rw [← Array.find?_toList] at e
  unfold PySem.W.lookIn
  rw [hd]
  dsimp only
  split
  · rename_i y q
    rw [q] at e
    exact congrArg some e
  · rename_i q
    rw [q] at e
    have a : es.toList.any (·.refKey) = false := by
      rw [List.any_eq_false]
      intro y hy
      obtain ⟨z, t, hkey⟩ := hk y (Array.mem_toList_iff.mp hy)
      simp [DictEntry.refKey, hkey]
    have a' : ¬ es.toList.any (·.refKey) = true := by rw [a]; exact Bool.false_ne_true
    rw [if_neg a']
    exact congrArg some e

theorem ObjM.look {h : Heap} {x dx C : Addr} {mA : Str → Option Value} (I : ObjM h x dx C mA) : ∃ od, PySem.W.InstAt h x (PySem.W.instObj C dx) C (some od) ∧ ∀ name, PySem.W.lookIn name od = some (mA name) :=
  let ⟨od, ho, hl⟩ := lookIn_ns I.ns
  ⟨od, ⟨I.obj, rfl, rfl, ho⟩, hl⟩

section
variable {prog : Program} {w : World} {A : Around} {E : Value → Shared → Prop} {s : Shared} {K : PySem.W.Frag} {x dx C f : Addr} {mA : Str → Option Value} {name : Str} {v : Value}

end

/-! ### the attributes as a list of pairs -/
section
variable {P : Program} {w : World} {H H' : Hp} {h h' : Heap} {a C dx : Addr} {fs fs' : List (Str × V)}
theorem ins_get (hok : HOk P w H h) (e : H a = some (.ins C dx fs)) : ∃ mA, ObjM h a dx C mA ∧ (∀ f, RelO (fs.lookup f) (mA f)) ∧ PySem.Within mA (fs.map (·.1)) ∧ fs.length ≤ 1000 ∧ H dx = some (.own a) := by
  obtain ⟨d, z, ne, ob, mA, n, r, q⟩ := (show ObjOk P w H h a (.ins C dx fs) from hok a _ e)
  exact ⟨mA, ⟨ob, n, ne⟩, r, q, z, d⟩
end

/-! ### what of the text a class must have -/
structure Cls (K : PySem.W.Frag) (C : Addr) : Prop where
  pg : PySem.W.plainGet K C Str.empty = true
  hd : PySem.W.hasDictIn K C = true
  po : PySem.W.plainOver K C = true
  sa : PySem.W.findIn K (.ref C) "__setattr__" = some (some (.builtin "object.__setattr__"))
theorem Cls.get {K : PySem.W.Frag} {C : Addr} (c : Cls K C) (f : Str) : PySem.W.plainGet K C f = true := c.pg
/-- a constant of the class -/
structure Con (K : PySem.W.Frag) (C : Addr) (f : Str) (v : V) (u : Value) : Prop where
  at_ : PySem.W.findIn K (.ref C) f = some (some u)
  rel : RelV v u
  get : PySem.W.specialIn K u "__get__" = some none
  cp : PySem.W.copiedNames.contains f = false
/-- a method: a plain def of the class or of one above it -/
structure Meth (K : PySem.W.Frag) (C : Addr) (m : Str) (f : Addr) : Prop where
  at_ : PySem.W.findIn K (.ref C) m = some (some (.ref f))
  fn : PySem.W.isFn K (.ref f) = true
  kp : PySem.W.keepIn K (.ref f) = true

section
variable {X : Cx} {pins : List (Addr × Obj)} {σ : St} {H : Hp} {s : Shared} {a C dx : Addr} {fs : List (Str × V)} {f : Str} {v : V} {A : Around} {E : Value → Shared → Prop}

end

/-! ### readings and rules -/
section
variable {X : Cx} {o e value : Expr} {f : Str} {pos pos' tpos : Pos} {ta tv : TE}
end

/-! ### isinstance -/
section
variable {X : Cx} {pins : List (Addr × Obj)} {σ : St} {H : Hp} {s : Shared} {A : Around} {E : Value → Shared → Prop} {Q : Value → Shared → Prop} {c : Value} {b : Bool}
/-- the type of a value, as the fragment's deciders take it; for an instance its class -/
inductive TyOf (K : PySem.W.Frag) (H : Hp) : V → Value → Prop where
  | non : TyOf K H .non (.type "NoneType")
  | bl (x : Bool) : TyOf K H (.bl x) (.type "bool")
  | int (i : Int) : TyOf K H (.int i) (.type "int")
  | str (x : Str) : TyOf K H (.str x) (.type "str")
  | flt (x : UInt64) : TyOf K H (.flt x) (.type "float")
  | lst {a : Addr} {xs : List V} (e : H a = some (.lst xs)) : TyOf K H (.ref a) (.type "list")
  | frz {a : Addr} {o : Obj} {xs : List V} (e : H a = some (.frz o (.lst xs))) : TyOf K H (.ref a) (.type "list")
  | tup {a : Addr} {xs : List V} (e : H a = some (.tup xs)) : TyOf K H (.ref a) (.type "tuple")
  | dK {a : Addr} {kvs : List (Key × V)} (e : H a = some (.dK kvs)) : TyOf K H (.ref a) (.type "dict")
  | dT {a : Addr} {kvs : List (List Key × V)} (e : H a = some (.dT kvs)) : TyOf K H (.ref a) (.type "dict")
  | ins {a C dx : Addr} {fs : List (Str × V)} (e : H a = some (.ins C dx fs)) (cl : Cls K C) (ha : PySem.W.findIn K (.ref C) "__class__" = some (some (.builtin "object.__class__")))
      (hn : PySem.W.specialIn K (.builtin "object.__class__") "__get__" = some (some (.builtin "getset_descriptor.__get__"))) (htk : PySem.W.takesIn K (.builtin "object.__class__") = some true)
      (hm : PySem.W.mroIn K C (.type "object") = some true) : TyOf K H (.ref a) (.ref C)
/-- isinstance(x, c) for one class c, a built-in or an own one: kitOne's answer -/
theorem isinst_ok {x : V} {u t : Value} (I : Inv X pins σ H s) (rx : RelV x u) (ty : TyOf X.K H x t) (e : PySem.W.kitOne X.K t c = some b) (h : ∀ tk, Q (.bool b) { s with toks := tk }) :
    wpAny (model X.prog X.w) A (call (.builtin "isinstance") [u, c]) Q E s := by
  cases ty with
  | non => cases (show u = Value.none from rx); exact PySem.W.kia_one PySem.W.kitx_none I.kIn True.intro e (fun z => nomatch z) h
  | bl y => cases (show u = Value.bool y from rx); exact PySem.W.kia_one PySem.W.kitx_bool I.kIn True.intro e (fun z => nomatch z) h
  | int i => obtain ⟨t, q⟩ := (show ∃ t, u = Value.int i t from rx); cases q; exact PySem.W.kia_one PySem.W.kitx_int I.kIn True.intro e (fun z => nomatch z) h
  | str y => obtain ⟨t, q⟩ := (show ∃ t, u = Value.str y t from rx); cases q; exact PySem.W.kia_one PySem.W.kitx_str I.kIn True.intro e (fun z => nomatch z) h
  | flt y => obtain ⟨t, q⟩ := (show ∃ t, u = Value.float y t from rx); cases q; exact PySem.W.kia_one PySem.W.kitx_float I.kIn True.intro e (fun z => nomatch z) h
  | @lst a xs ea =>
    cases (show u = Value.ref a from rx)
    obtain ⟨_, _, n, _, h1⟩ := (show ObjOk X.prog X.w H s.heap a (.lst xs) from I.hok a _ ea)
    exact PySem.W.kia_one PySem.W.kitx_list I.kIn ⟨_, h1, rfl⟩ e (fun z => nomatch z) h
  | @frz a ob xs ea =>
    cases (show u = Value.ref a from rx)
    obtain ⟨_, _, _, n, _, h1⟩ := (show ObjOk X.prog X.w H s.heap a (.frz ob (.lst xs)) from I.hok a _ ea)
    exact PySem.W.kia_one PySem.W.kitx_list I.kIn ⟨_, h1, rfl⟩ e (fun z => nomatch z) h
  | @tup a xs ea =>
    cases (show u = Value.ref a from rx)
    obtain ⟨_, _, _, p⟩ := (show ObjOk X.prog X.w H s.heap a (.tup xs) from I.hok a _ ea)
    obtain ⟨o, h1, h2, _⟩ := p
    exact PySem.W.kia_one PySem.W.kitx_tuple I.kIn ⟨o, h1, h2⟩ e (fun z => nomatch z) h
  | @dK a kvs ea =>
    cases (show u = Value.ref a from rx)
    obtain ⟨_, _, vs, _, p⟩ := (show ObjOk X.prog X.w H s.heap a (.dK kvs) from I.hok a _ ea)
    obtain ⟨o, es, ep, h1, h2, _⟩ := p
    exact PySem.W.kia_one PySem.W.kitx_dict I.kIn ⟨o, h1, h2.1⟩ e (fun z => nomatch z) h
  | @dT a kvs ea =>
    cases (show u = Value.ref a from rx)
    obtain ⟨_, _, xs, _, o, es, ep, h1, h2, _⟩ := (show ObjOk X.prog X.w H s.heap a (.dT kvs) from I.hok a _ ea)
    exact PySem.W.kia_one PySem.W.kitx_dict I.kIn ⟨o, h1, h2.1⟩ e (fun z => nomatch z) h
  | @ins a C dx fs ea cl ha hn htk hm =>
    cases (show u = Value.ref a from rx)
    obtain ⟨mA, O, _⟩ := ins_get I.hok ea
    obtain ⟨od, J, _⟩ := O.look
    exact PySem.W.kia_one (PySem.W.kitx_own (cl.get _) cl.hd ha hn htk hm) I.kIn J e (fun z => nomatch z) h
end
end L2

namespace L2
open PySem PySem.Spec PyProof.Rows

/-! ### room -/
structure Room (k : Nat) (A : Around) : Prop where
  hd : A.handled = none
  dp : A.depth + 3 * k + 5 < recursionLimit
  un : A.units + 16 * k + 200 < cLine
theorem Room.mono {j k : Nat} {A : Around} (r : Room k A) (h : j ≤ k) : Room j A := ⟨r.hd, by have := r.dp; lia, by have := r.un; lia⟩
theorem Room.deeper {k : Nat} {A : Around} (r : Room (k + 1) A) (env : Env) : Room k (A.deeper env) :=
  ⟨r.hd, by have := r.dp; show A.depth + 1 + 3 * k + 5 < _; lia, by have := r.un; show A.units + 3 + 16 * k + 200 < _; lia⟩
theorem Room.depth {k : Nat} {A : Around} (r : Room k A) : A.depth < recursionLimit := by have := r.dp; lia
theorem Room.units {k : Nat} {A : Around} (r : Room k A) : A.units + 64 < cLine := by have := r.un; lia
/-! ### argument lists and displays -/
def tNil : TA := fun _ H Q => Q [] H
def tCons (ta : TE) (tr : TA) : TA := fun σ H Q => ta σ H fun x H1 => tr σ H1 fun xs H2 => Q (x :: xs) H2
section
variable {X : Cx} {e : Expr} {es : List Expr} {te : TE} {t : TA} {pos : Pos}
theorem pa_nil : PA X [] tNil := fun _ _ _ _ H Q I h => Calls.spliced_nil ⟨[], H, I, .nil, h⟩
theorem pa_cons (ha : PE X e te) (hr : PA X es t) (hs : starEach (e :: es) X.env = (false, eval e X.env) :: starEach es X.env := by rfl) : PA X (e :: es) (tCons te t) := by
  intro pos pins s σ H Q I h
  rw [hs]
  show wpAny _ _ (spliced ((false, eval e X.env) :: backTo pos (starEach es X.env))) _ _ s
  refine Calls.spliced_cons (thn (ha pins s σ H _ I h) fun u s1 ⟨x, H1, I1, r1, q1⟩ => ?_)
  exact thn (hr pos pins s1 σ H1 _ I1 q1) fun us s2 ⟨xs, H2, I2, r2, q2⟩ => ⟨x :: xs, H2, I2, .cons r1 r2, q2⟩

/-- a tuple, a list of written items -/
def tTup (t : TA) : TE := fun σ H Q => t σ H fun xs H1 => xs.length ≤ sizeLine ∧ ∀ p, H1 p = none → Q (.ref p) (upd H1 p (.tup xs))
def tLst (t : TA) : TE := fun σ H Q => t σ H fun xs H1 => xs.length ≤ sizeLine ∧ ∀ p, H1 p = none → Q (.ref p) (upd H1 p (.lst xs))
theorem pe_tup {x1} (h : PA X es t) : PE X (.Tuple es x1 pos) (tTup t) := by
  intro pins s σ H Q I hq
  refine wpAny_Tuple_spliced (thn (h pos pins s σ H _ I hq) fun us s1 ⟨xs, H1, I1, r, z, q⟩ => ⟨by rw [← r.length]; exact z, ?_⟩)
  have hf : H1 s1.heap.objs.size = none := I1.hok.fresh (Nat.le_refl _)
  refine ⟨.ref s1.heap.objs.size, upd H1 s1.heap.objs.size (.tup xs), I1.laid (t' := s1.toks) (fun b u e => Heap.get?_push_of_some _ e) (Nat.le_refl _) ?_, rfl, q _ hf⟩
  exact ⟨z, us, r, ⟨_, Heap.get?_push_size _ rfl, rfl, _, rfl⟩⟩
theorem pe_lst (h : PA X es t) : PE X (.List es pos) (tLst t) := by
  intro pins s σ H Q I hq
  refine wpAny_List_spliced (thn (h pos pins s σ H _ I hq) fun us s1 ⟨xs, H1, I1, r, z, q⟩ => ⟨by rw [← r.length]; exact z, ?_⟩)
  have hf : H1 s1.heap.objs.size = none := I1.hok.fresh (Nat.le_refl _)
  refine ⟨.ref s1.heap.objs.size, upd H1 s1.heap.objs.size (.lst xs), I1.laid (t' := s1.toks) (fun b u e => Heap.get?_push_of_some _ e) (Nat.le_refl _) ?_, rfl, q _ hf⟩
  exact ⟨z, us, 0, r, Heap.get?_push_size _ rfl⟩
end

/-! ### what a def promises -/
/-- a def's promise: the bound arguments in the parameters' order, the heap, the wanted end, the wanted exception -/
abbrev Sp := List V → Hp → VK → XK → Prop
/-- how an exception lies behind a call (file 08 gives it): the callers' frames, abstract heap and state ahead of the call, the wish, the exception, the state -/
abbrev CXT := List Env → Hp → Shared → XK → Value → Shared → Prop

/-- the state at a call -/
structure Env0 (P : Program) (w : World) (K : PySem.W.Frag) (mg : Str → Option Value) (base : Heap) (A : Around) (outer : List Env) (s : Shared) (H : Hp) : Prop where
  frames : A.frames = some outer
  mod : Mod K mg base
  bs : ∀ b o, base.get? b = some o → s.heap.get? b = some o ∧ H b = none
  bsz : base.objs.size ≤ s.heap.objs.size
  funs : s.heap.FunFrames base outer
  frf : ∀ b ∈ frs outer, H b = none
  hok : HOk P w H s.heap
  bare : AllBare s.gens
/-- a call's end -/
def CE (outer : List Env) (P : Program) (w : World) (H : Hp) (s : Shared) (Q : VK) (u : Value) (s' : Shared) : Prop :=
  ∃ v H', s'.os = s.os ∧ AllBare s'.gens ∧ Un (frs outer) [] H H' s.heap s'.heap ∧ HOk P w H' s'.heap ∧ RelV v u ∧ Q v H'
def CR (CX : CXT) (outer : List Env) (P : Program) (w : World) (H : Hp) (s : Shared) (Q : VK) (E : XK) (r : Result) (s' : Shared) : Prop :=
  match r with
  | .ok (.ret u) => CE outer P w H s Q u s'
  | .ok _ => False
  | .error e => CX outer H s E e s'
structure FnOk (P : Program) (w : World) (K : PySem.W.Frag) (mg : Str → Option Value) (base : Heap) (CX : CXT) (k : Nat) (f : Addr) (fd : FuncData) (ps : List Str) (sp : Sp) : Prop where
  len : ∀ vs H Q E, sp vs H Q E → vs.length = ps.length
  run : ∀ (A : Around) (outer : List Env) (s : Shared) (H : Hp) (args : Args) (us : List Value) (vs : List V) (Q : VK) (E : XK), Room k A → Env0 P w K mg base A outer s H → BindsTo s fd args (ps.zip us) → Vals vs us → sp vs H Q E →
    codeAny (model P w) A (.call (.ref f) args) (CR CX outer P w H s Q E) s
section
variable {X : Cx} {pins : List (Addr × Obj)} {σ : St} {H : Hp} {s s' : Shared}
/-- from a body: what a callee wants -/
theorem Inv.env0 (I : Inv X pins σ H s) : Env0 X.prog X.w X.K X.mg X.base X.A X.stack s H :=
  ⟨I.ok.frames, I.ok.mod, I.bs, Nat.le_trans I.ok.bsz I.sz, I.stack, I.stkFree, I.hok, I.bare⟩
/-- behind a call -/
theorem Inv.after {Q : VK} {u : Value} (I : Inv X pins σ H s) (h : CE X.stack X.prog X.w H s Q u s') : EP X pins σ Q u s' := by
  obtain ⟨v, H', os, bare, un, hok, r, q⟩ := h
  obtain ⟨hh, g, d, t, os'⟩ := s'
  obtain rfl : os' = s.os := os
  exact ⟨v, H', I.call (h' := hh) (g' := g) (d' := d) (t' := t) (ch := []) un hok bare (fun b z => absurd z (by simp)), r, q⟩
end

/-! ### calls -/
/-- f(..): the written arguments, then the defaults dvs; E: what is wanted of an exception -/
def tCall (sp : Sp) (dvs : List V) (E : XK) (t : TA) : TE := fun σ H Q => t σ H fun vs H1 => sp (vs ++ dvs) H1 Q E
/-- how the parameters are bound: us the positional arguments, kw the keywords' values by name, ds the defaults that fill up -/
def Binds (K : PySem.W.Frag) (fd : FuncData) (ps : List Str) (ds : List Value) : Prop :=
  ∀ (s : Shared) (us : List Value), K.In s.heap → (us ++ ds).length = ps.length → BindsTo s fd ⟨us, []⟩ (ps.zip (us ++ ds))
/-- every parameter is given -/
theorem Binds.all {K : PySem.W.Frag} {fd : FuncData} {ps : List Str} (h : ∀ us : List Value, us.length = ps.length → bindArgs fd ⟨us, []⟩ = pure (ps.zip us)) : Binds K fd ps [] := fun s us _ hl => by
  rw [List.append_nil] at hl ⊢
  exact .of_eq (h us hl)

/-- an exception of a callee reaches what this body wants of exceptions -/
def Passes (CX : CXT) (X : Cx) (E : XK) : Prop := ∀ (pins : List (Addr × Obj)) (σ : St) (H : Hp) (s : Shared) (e : Value) (s' : Shared), Inv X pins σ H s → CX X.stack H s E e s' → X.xe e s'

section
variable {X : Cx} {CX : CXT} {k : Nat} {f C : Addr} {fd : FuncData} {ps : List Str} {sp : Sp} {dvs : List V} {ds : List Value} {E : XK} {x m : Str} {p pos apos : Pos} {e o : Expr} {es : List Expr} {ta : TE} {t : TA}

/-- the callee runs -/
theorem run_fn {pins : List (Addr × Obj)} {σ : St} {H : Hp} {s : Shared} {Q : VK} {us : List Value} {vs : List V} (F : FnOk X.prog X.w X.K X.mg X.base CX k f fd ps sp) (hr : Room k X.A) (hb : Binds X.K fd ps ds) (hd : Vals dvs ds) (hx : Passes CX X E)
    (I : Inv X pins σ H s) (r : Vals vs us) (h : sp (vs ++ dvs) H Q E) : wpAny (model X.prog X.w) X.A (call (.ref f) us) (EP X pins σ Q) X.xe s := by
  have r2 : Vals (vs ++ dvs) (us ++ ds) := r.append hd
  have hl : (us ++ ds).length = ps.length := by rw [← r2.length]; exact F.len _ _ _ _ h
  refine wpAny_call (codeAny_mono (F.run X.A X.stack s H ⟨us, []⟩ (us ++ ds) (vs ++ dvs) Q E hr I.env0 (hb s us I.kIn hl) r2 h) fun r s' hq => ?_)
  cases r with
  | error e => exact hx pins σ H s e s' I hq
  | ok fl =>
    cases fl with
    | ret u => exact I.after hq
    | next => exact False.elim hq
    | brk => exact False.elim hq
    | cont => exact False.elim hq

theorem pe_call (F : FnOk X.prog X.w X.K X.mg X.base CX k f fd ps sp) (hr : Room k X.A) (hg : Gl X x) (hm : X.mg x = some (.ref f)) (hk : PySem.W.keepIn X.K (.ref f) = true) (hb : Binds X.K fd ps ds) (hd : Vals dvs ds) (hx : Passes CX X E)
    (ha : PA X (e :: es) t) (hdb : (x == ("__debug__" : Str)) = false := by decide) (he : starEach (e :: es) X.env = (false, eval e X.env) :: starEach es X.env := by rfl) (hpl : (backTo pos (starEach es X.env)).any (·.1) = false := by rfl) :
    PE X (.Call (.Name x p) (e :: es) [] pos) (tCall sp dvs E t) := by
  intro pins s σ H Q I h
  refine wpAny_Call_Name_kw (ld_glob I hg hm ?_ hdb)
  refine PySem.W.callWith_K (h₀ := X.base) I.ok.mod.kin hk (thn (ha pos pins s σ H _ I h) fun us s1 ⟨vs, H1, I1, r, q⟩ => ⟨I1.kIn, ?_⟩) he hpl
  exact run_fn F hr hb hd hx I1 r q
/-- what a class must have to be made -/
structure Mk (K : PySem.W.Frag) (C f : Addr) : Prop where
  makes : PySem.W.makesIn K C = true
  init : PySem.W.findIn K (.ref C) "__init__" = some (some (.ref f))
  fn : PySem.W.isFn K (.ref f) = true
  kp : PySem.W.keepIn K (.ref C) = true

end

/-! ### keywords -/
section
variable {X : Cx} {CX : CXT} {k : Nat} {f C : Addr} {fd : FuncData} {ps ks : List Str} {sp : Sp} {E : XK} {x m : Str} {p pos apos kpos : Pos} {e o : Expr} {es : List Expr} {kws : List Keyword} {te ta : TE} {t tk : TA} {nm : Option Str}
/-- how a call with keywords binds: g puts the positional values us and the keywords' values ws (names ks) in the parameters' order, defaults among them -/
structure KBinds (K : PySem.W.Frag) (fd : FuncData) (ps ks : List Str) (g : List Value → List Value → List Value) (gV : List V → List V → List V) : Prop where
  to : ∀ (s : Shared) (us ws : List Value), K.In s.heap → (g us ws).length = ps.length → BindsTo s fd ⟨us, ks.zip ws⟩ (ps.zip (g us ws))
  rel : ∀ {vs : List V} {us : List Value} {zs : List V} {ws : List Value}, Vals vs us → Vals zs ws → Vals (gV vs zs) (g us ws)
variable {g : List Value → List Value → List Value} {gV : List V → List V → List V}
end

/-! ### a def's body keeps its promise -/
/-- names: the parameters first -/
structure FnScope (N P : List Str) (sc : Scope) : Prop where
  kind : sc.kind = .function
  co : sc.isCoroutine = false
  gen : sc.isGenerator = false
  nd : N.Nodup
  pre : N.take P.length = P
  par : ∀ x ∈ P, sc.names.lookup x = some .local ∨ sc.names.lookup x = some .cell
  nofree : ∀ y ∈ sc.names, y.2 ≠ .free

theorem bindL_out {kindOf : Str → Option NameKind} {x : Str} : ∀ {binds : List (Str × Value)} {m : Str → Option Value}, (∀ v, (x, v) ∉ binds) → bindL kindOf binds m x = m x
  | [], _, _ => rfl
  | (n, v) :: r, m, h => by
    unfold bindL
    rw [bindL_out fun w hw => h w (List.mem_cons_of_mem _ hw)]
    split
    · have : x ≠ n := by rintro rfl; exact h v List.mem_cons_self
      simp [this]
    · rfl
theorem bindC_out {kindOf : Str → Option NameKind} {x : Str} : ∀ {binds : List (Str × Value)} {m : Str → Option Value}, (∀ v, (x, v) ∉ binds) → bindC kindOf binds m x = m x
  | [], _, _ => rfl
  | (n, v) :: r, m, h => by
    unfold bindC
    rw [bindC_out fun w hw => h w (List.mem_cons_of_mem _ hw)]
    split
    · rfl
    · have : x ≠ n := by rintro rfl; exact h v List.mem_cons_self
      simp [this]
theorem bindL_get {kindOf : Str → Option NameKind} {x : Str} {v : Value} : ∀ {P : List Str} {vs : List Value} {i : Nat} {m : Str → Option Value}, P.Nodup → P[i]? = some x → vs[i]? = some v → kindOf x = some .local →
    bindL kindOf (P.zip vs) m x = some v
  | [], _, _, _, _, h, _, _ => by simp at h
  | _ :: _, [], _, _, _, _, h, _ => by simp at h
  | p :: P, w :: vs, 0, m, nd, h1, h2, hk => by
    simp at h1 h2; subst h1; subst h2
    show bindL kindOf ((p, w) :: P.zip vs) m p = _
    unfold bindL
    rw [bindL_out fun v hv => (List.nodup_cons.mp nd).1 (List.of_mem_zip hv).1, if_pos hk]
    simp
  | p :: P, w :: vs, i + 1, m, nd, h1, h2, hk => by
    show bindL kindOf ((p, w) :: P.zip vs) m x = _
    unfold bindL
    exact bindL_get (i := i) (List.nodup_cons.mp nd).2 (by simpa using h1) (by simpa using h2) hk
theorem bindC_get {kindOf : Str → Option NameKind} {x : Str} {v : Value} : ∀ {P : List Str} {vs : List Value} {i : Nat} {m : Str → Option Value}, P.Nodup → P[i]? = some x → vs[i]? = some v → kindOf x ≠ some .local →
    bindC kindOf (P.zip vs) m x = some v
  | [], _, _, _, _, h, _, _ => by simp at h
  | _ :: _, [], _, _, _, _, h, _ => by simp at h
  | p :: P, w :: vs, 0, m, nd, h1, h2, hk => by
    simp at h1 h2; subst h1; subst h2
    show bindC kindOf ((p, w) :: P.zip vs) m p = _
    unfold bindC
    rw [bindC_out fun v hv => (List.nodup_cons.mp nd).1 (List.of_mem_zip hv).1, if_neg hk]
    simp
  | p :: P, w :: vs, i + 1, m, nd, h1, h2, hk => by
    show bindC kindOf ((p, w) :: P.zip vs) m x = _
    unfold bindC
    exact bindC_get (i := i) (List.nodup_cons.mp nd).2 (by simpa using h1) (by simpa using h2) hk

/-- the names' values at the entry -/
def start (N : List Str) (vs : List V) : St := vs.map some ++ List.replicate (N.length - vs.length) none

/-- the context of a def's body, at its entry; an exception leaves the frame, then lies as CX says -/
def cxOf (CX : CXT) (P : Program) (w : World) (K : PySem.W.Frag) (mg : Str → Option Value) (base : Heap) (N : List Str) (qual : Str) (scope : Scope) (f : Addr) (cd : Value) (A : Around) (outer : List Env) (s : Shared) (H : Hp) (E : XK) : Cx where
  prog := P
  w := w
  K := K
  mg := mg
  base := base
  A := A.deeper (envOfC qual scope s.heap.objs.size f cd)
  N := N
  s₀ := s
  H₀ := H
  env := envOfC qual scope s.heap.objs.size f cd
  outer := outer
  stack := envOfC qual scope s.heap.objs.size f cd :: outer
  ex := []
  calm := true
  fn := fun _ => true
  pn := []
  xe := fun e s' => wpAny (model P w) (A.deeper (envOfC qual scope s.heap.objs.size f cd)) (leaving (envOfC qual scope s.heap.objs.size f cd) e) (fun _ s'' => CX outer H s E e s'') (fun e' s'' => CX outer H s E e' s'') s'

theorem cell_has {sc : Scope} {n : Nat} {x : Str} (h : sc.names.lookup x = some .cell) : ∃ c, (cellsFrom n sc.names []).lookup x = some c := by
  have q := PySem.W.cellsFrom_some sc.names n [] (.inl h)
  exact Option.isSome_iff_exists.mp q

theorem inv_start {CX : CXT} {P : Program} {w : World} {K : PySem.W.Frag} {mg : Str → Option Value} {base : Heap} {N ps : List Str} {qual : Str} {scope : Scope} {f : Addr} {cd : Value} {A : Around} {outer : List Env} {s s1 : Shared} {H : Hp} {E : XK} {us : List Value} {vs : List V}
    (S : FnScope N ps scope) (hd : A.handled = none) (e0 : Env0 P w K mg base A outer s H) (hl : vs.length = ps.length) (r : Vals vs us)
    (x : InCallC s s.heap.objs.size (bindL (envOfC qual scope s.heap.objs.size f cd).kindOf (ps.zip us) fun _ => none) (cellsFrom (s.heap.objs.size + 1) scope.names []) (bindC (envOfC qual scope s.heap.objs.size f cd).kindOf (ps.zip us) fun _ => none) s1) :
    Inv (cxOf CX P w K mg base N qual scope f cd A outer s H E) [] (start N vs) H s1 := by
  have hpl : ps.length ≤ N.length := by have := congrArg List.length S.pre; rw [List.length_take] at this; lia
  obtain ⟨h1, tk, rfl, hk⟩ := x.done
  have noA : ∀ b : Addr, b ∉ (cxOf CX P w K mg base N qual scope f cd A outer s H E).ex := fun b z => absurd (show b ∈ ([] : List Addr) from z) (by simp)
  refine ⟨⟨e0.mod, S.kind, rfl, rfl, Nat.le_refl _, fun y z c h1 h2 => ?_, fun y hy => ?_, fun y c _ h => ?_, fun _ => hd, Around.frames_deeper e0.frames, .inr ⟨rfl, rfl⟩, fun b z => absurd z (noA b), e0.bs, e0.bsz, fun b _ _ => noA b, fun b z => absurd z (noA b), e0.funs, e0.frf⟩,
    rfl, e0.bare, Un.kept hk, ⟨_, x.toInCall.ns, fun i y v h1 h2 h3 => ?_⟩, fun y c h => ⟨_, x.cell y c h⟩, e0.hok.fresh (Nat.le_refl _), fun y c h => ?_, fun p hp => absurd (show p ∈ ([] : List (Addr × Obj)) from hp) (by simp), e0.hok.kept hk, ?_⟩
  · exact name_of_addr x.apart (PySem.mem_of_lookup h1) (PySem.mem_of_lookup h2)
  · have hy : scope.names.lookup y = some .cell ∨ scope.names.lookup y = some .free := hy
    rcases hy with hy | hy
    · exact cell_has hy
    · exact absurd rfl (S.nofree _ (PySem.mem_of_lookup hy))
  · exact Nat.le_of_lt (x.above y c (PySem.mem_of_lookup h))
  · have hi : i < vs.length := by
      unfold start at h2
      by_cases hi : i < vs.length
      · exact hi
      · rw [List.getElem?_append_right (by simpa using hi)] at h2
        rw [List.getElem?_replicate] at h2
        split at h2 <;> cases h2
    have ha : vs[i]? = some v := by
      unfold start at h2
      rw [List.getElem?_append_left (by simpa using hi), List.getElem?_map] at h2
      cases e : vs[i]? with
      | none => rw [e] at h2; cases h2
      | some a => rw [e] at h2; cases h2; rfl
    obtain ⟨u, hu, rv⟩ := r.get ha
    have hp : ps[i]? = some y := by
      rw [← S.pre, List.getElem?_take_of_lt (by lia)]; exact h1
    have ndP : ps.Nodup := by rw [← S.pre]; exact S.nd.sublist (List.take_sublist _ _)
    refine ⟨u, rv, ?_⟩
    rcases S.par y (List.mem_of_getElem? hp) with k | k
    · exact .inl ⟨k, bindL_get ndP hp hu k⟩
    · obtain ⟨c, e⟩ := cell_has (n := s.heap.objs.size + 1) k
      refine .inr ⟨.inl k, c, e, ?_⟩
      have q := x.cell y c e
      rw [bindC_get ndP hp hu (by show scope.names.lookup y ≠ _; rw [k]; decide)] at q
      exact q
  · exact e0.hok.fresh (Nat.le_of_lt (x.above y c (PySem.mem_of_lookup h)))
  · unfold start
    show _ = N.length
    rw [List.length_append, List.length_map, List.length_replicate]
    lia

/-- THE RULE: a def (or a method) of the text, by its body. The body's reading t is chosen for each entry; it is run at the parameters' values -/
theorem fn_of {CX : CXT} {P : Program} {w : World} {K : PySem.W.Frag} {mg : Str → Option Value} {base : Heap} {k : Nat} {f : Addr} {name qual : Str} {params : Arguments} {body : List Stmt} {scope : Scope} {dV kV doc pm cdv ct oc : Value} {an od : Option Addr}
    {osl : Array (Option Value)} {N ps : List Str} {sp : Sp} (lk : K.lookup f = some ⟨oc, od, .func (PySem.W.fnOf name qual params body scope dV kV doc pm an cdv ct), osl⟩) (hcd : PySem.W.codeIn K cdv qual = true) (S : FnScope N ps scope)
    (len : ∀ vs H Q E, sp vs H Q E → vs.length = ps.length)
    (hbody : ∀ (A : Around) (outer : List Env) (s : Shared) (H : Hp) (vs : List V) (Q : VK) (E : XK), Room k (A.deeper (envOfC qual scope s.heap.objs.size f cdv)) → sp vs H Q E →
      ∃ t, PSs (cxOf CX P w K mg base N qual scope f cdv A outer s H E) body t ∧ t { nx := fun _ H' => Q .non H', rt := Q } (start N vs) H) :
    FnOk P w K mg base CX (k + 1) f (PySem.W.fnOf name qual params body scope dV kV doc pm an cdv ct) ps sp := by
  refine ⟨len, fun A outer s H args us vs Q E hr e0 hb r hsp => ?_⟩
  have hl := len _ _ _ _ hsp
  have KX : K.In s.heap := e0.mod.kin.keeps fun b o e => (e0.bs b o e).1
  have lim : s.heap.NoLimit := e0.mod.nolimit.keeps fun b o e => (e0.bs b o e).1
  have hkind : ∀ y ∈ ps.zip us, scope.names.lookup y.1 = some .local ∨ (scope.names.lookup y.1 = some .cell ∧ ((cellsFrom (s.heap.objs.size + 1) scope.names []).lookup y.1).isSome = true) := fun ⟨n, v⟩ hy => by
    rcases S.par n (List.of_mem_zip hy).1 with q | q
    · exact .inl q
    · exact .inr ⟨q, PySem.W.cellsFrom_some _ _ _ (.inl q)⟩
  refine codeAny_call_function hr.depth (KX _ _ lk) rfl S.co S.gen rfl (PySem.W.codeRec_of KX hcd) (hb _ _ _ _ ?_)
  refine wpAny_newFunctionEnv_cells S.kind hkind fun env he s1 x => ?_
  subst he
  refine ⟨lim.keeps x.toInCall.keep, codeAny_func ?_⟩
  obtain ⟨t, ht, hq⟩ := hbody A outer s H vs Q E (hr.deeper _) hsp
  have I : Inv (cxOf CX P w K mg base N qual scope f cdv A outer s H E) [] (start N vs) H s1 := inv_start S hr.hd e0 hl r x
  refine wpAny_mono (ht [] s1 (start N vs) H _ I hq) (fun fl s' hs => ?_) fun e s' hs => hs
  have fin : ∀ {σ' : St} {H' : Hp} {v : V} {u : Value}, Inv (cxOf CX P w K mg base N qual scope f cdv A outer s H E) [] σ' H' s' → RelV v u → Q v H' → CE outer P w H s Q u s' :=
    fun {σ' H' v u} J rv q => ⟨v, H', J.os, J.bare, J.base, J.hok, rv, q⟩
  cases fl with
  | ret u =>
    obtain ⟨v, σ', H', J, rv, q⟩ := hs
    exact fin J rv q
  | next =>
    obtain ⟨σ', H', J, q⟩ := hs
    exact fin (v := V.non) (u := Value.none) J rfl q
  | brk =>
    obtain ⟨_, _, _, q⟩ := hs
    exact False.elim q
  | cont =>
    obtain ⟨_, _, _, q⟩ := hs
    exact False.elim q
end L2

namespace L2
open PySem PySem.Spec PyProof.Rows
section
variable {X : Cx} {x : Str} {p pos : Pos} {e : Expr} {es : List Expr} {t : TA} {id T : String} {r : List V → Hp → VK → Prop}

def tCB (r : List V → Hp → VK → Prop) (t : TA) : TE := fun σ H Q => t σ H fun vs H1 => r vs H1 Q
/-- f(e, ..), f a built-in function -/
theorem pe_callB (hc : CallR X (.builtin id) r) (hg : Gl X x) (hm : X.mg x = none) (hv : bootBuiltins x = some (.builtin id)) (ha : PA X (e :: es) t) (hn : x ≠ "__name__" := by decide) (hdb : (x == ("__debug__" : Str)) = false := by decide)
    (he : starEach (e :: es) X.env = (false, eval e X.env) :: starEach es X.env := by rfl) (hpl : (backTo pos (starEach es X.env)).any (·.1) = false := by rfl) : PE X (.Call (.Name x p) (e :: es) [] pos) (tCB r t) := by
  intro pins s σ H Q I h
  refine wpAny_Call_Name_kw (ld_blt I hg hm hv ?_ hn hdb)
  exact PyProof.Rows.callWith_builtin1 (thn (ha pos pins s σ H _ I h) fun us s1 ⟨vs, H1, I1, r1, q1⟩ => hc pins s1 σ H1 vs us Q I1 r1 q1) he hpl
/-- T(e, ..), T a built-in type -/
theorem pe_callTy (hc : CallR X (.type T) r) (hg : Gl X x) (hm : X.mg x = none) (hv : bootBuiltins x = some (.type T)) (ha : PA X (e :: es) t) (hn : x ≠ "__name__" := by decide) (hdb : (x == ("__debug__" : Str)) = false := by decide)
    (he : starEach (e :: es) X.env = (false, eval e X.env) :: starEach es X.env := by rfl) (hpl : (backTo pos (starEach es X.env)).any (·.1) = false := by rfl) : PE X (.Call (.Name x p) (e :: es) [] pos) (tCB r t) := by
  intro pins s σ H Q I h
  refine wpAny_Call_Name_kw (ld_blt I hg hm hv ?_ hn hdb)
  exact PyProof.Rows.callWith_type1 (thn (ha pos pins s σ H _ I h) fun us s1 ⟨vs, H1, I1, r1, q1⟩ => hc pins s1 σ H1 vs us Q I1 r1 q1) he hpl
end
end L2

namespace HT
open PySem PyProof.Rows

section
open PySem.SeqAt
open PySem.AutoSeq1 (wpAny_loadPart')
open PySem.MeetsSeq PySem.MeetsSeq2 PySem.MeetsSeq3

end

section
variable {prog : Program} {w : World} {A : Around} {E : Value → Shared → Prop} {s : Shared}

/-- t + u, t not empty -/
theorem cat_tup {t b : Addr} {vs ws : List Value} {Q : Value → Shared → Prop} (ht : IsTup s.heap t vs.toArray) (hb : IsTup s.heap b ws.toArray) (hv : vs ≠ [])
    (h1 : ws = [] → Q (.ref t) s) (h2 : ws ≠ [] → Q (.ref s.heap.objs.size) { s with heap := s.heap.push { cls := .type "tuple", data := .seq (vs ++ ws).toArray } })
    (hsz : vs.length + ws.length ≤ sizeLine) : wpAny (model prog w) A (binaryOp .Add (.ref t) (.ref b)) Q E s := by
  obtain ⟨⟨cls, dd, data, sl⟩, ho, hc, n, hd⟩ := id ht
  obtain ⟨⟨cls2, dd2, data2, sl2⟩, ho2, hc2, n2, hd2⟩ := id hb
  simp only at hc hd hc2 hd2
  subst hc hd hc2 hd2
  have e : vs.toArray ++ ws.toArray = (vs ++ ws).toArray := by simp
  by_cases hw : ws = []
  · exact concat_meets ⟨_, ho, rfl⟩ ⟨_, ho2, rfl⟩ noFill_tuple_add seq_tuple_add PySem.F.slot_tuple_add PySem.F.entry_tuple_add (PySem.F.args_tuple_add_2 _ _)
      (tuple_addW1 t b vs.toArray ws.toArray n n2 dd dd2 sl sl2 (by simpa using hv) (by simp [hw])) ⟨ho, ho2, h1 hw⟩
  · refine concat_meets ⟨_, ho, rfl⟩ ⟨_, ho2, rfl⟩ noFill_tuple_add seq_tuple_add PySem.F.slot_tuple_add PySem.F.entry_tuple_add (PySem.F.args_tuple_add_2 _ _)
      (tuple_addW2 t b vs.toArray ws.toArray n n2 dd dd2 sl sl2 (by simpa using hv) (by simpa using hw) (by rw [List.size_toArray, List.size_toArray]; exact hsz)) ⟨ho, ho2, ?_⟩
    rw [e]
    exact h2 hw

/-! ### t[a:b], not the whole -/
/-- a slice's bound as a place among n (d where it is left out) -/
def sIx (n d : Nat) : Option Int → Nat
  | none => d
  | some v => if v < 0 then (v + (n : Int)).toNat else min v.toNat n
theorem sIx_nat (n d k : Nat) : sIx n d (some (k : Int)) = min k n := by
  show (if (k : Int) < 0 then ((k : Int) + (n : Int)).toNat else min (k : Int).toNat n) = min k n
  rw [if_neg (by lia), Int.toNat_natCast]
theorem sIx_le (n d : Nat) (hd : d ≤ n) (o : Option Int) : sIx n d o ≤ n := by
  cases o with
  | none => exact hd
  | some v =>
    show (if v < 0 then (v + (n : Int)).toNat else min v.toNat n) ≤ n
    by_cases hv : v < 0
    · rw [if_pos hv]; lia
    · rw [if_neg hv]; exact Nat.min_le_right _ _
theorem clip_eq (v : Int) (n d : Nat) : (if v < 0 then max (v + (n : Int)) 0 else min v (n : Int)) = ((sIx n d (some v) : Nat) : Int) := by
  show (if v < 0 then max (v + (n : Int)) 0 else min v (n : Int)) = (((if v < 0 then (v + (n : Int)).toNat else min v.toNat n) : Nat) : Int)
  by_cases hv : v < 0
  · rw [if_pos hv, if_pos hv, Int.toNat_eq_max]
  · rw [if_neg hv, if_neg hv]
    obtain ⟨k, rfl⟩ := Int.eq_ofNat_of_zero_le (Int.not_lt.mp hv)
    rw [Int.toNat_natCast]
    rcases Nat.le_total k n with h | h
    · rw [Nat.min_eq_left h, Int.min_eq_left (Int.ofNat_le.mpr h)]
    · rw [Nat.min_eq_right h, Int.min_eq_right (Int.ofNat_le.mpr h)]
theorem adjust_gen (lo hi : Option Int) (n : Nat) : Builtin.Slice.sliceAdjust lo hi 1 (n : Int) = (((sIx n 0 lo : Nat) : Int), ((sIx n n hi : Nat) : Int)) := by
  have h1 : ¬ ((1 : Int) < 0) := by lia
  unfold Builtin.Slice.sliceAdjust
  simp only [h1, if_false]
  refine Prod.ext ?_ ?_
  · cases lo with
    | none => rfl
    | some v => exact clip_eq v n 0
  · cases hi with
    | none => rfl
    | some v => exact clip_eq v n n
theorem places_gen (i j : Nat) : Builtin.Slice.slicePlaces (i : Int) (j : Int) 1 = j - i := by
  unfold Builtin.Slice.slicePlaces
  have h1 : (1 : Int) > 0 := by lia
  simp only [h1, if_true, Int.ediv_one]
  split <;> lia
theorem slicePart_ {v : Value} {o : Option Int} {Q : Option Int → Shared → Prop} (p : IsPart v o) (h : Q o s) : wpAny (model prog w) A (Builtin.Slice.slicePartIndex v) Q E s := by
  cases p with
  | none => exact slicePart_none h
  | int i t => exact slicePart_int h
theorem sliceApplied_gen {sl : Addr} {vl vu : Value} {lo hi : Option Int} {n : Nat} {Q : Int × Int × Nat → Shared → Prop} (hs : s.heap.IsSliceOf sl vl vu .none) (pl : IsPart vl lo) (pu : IsPart vu hi)
    (h : Q (((sIx n 0 lo : Nat) : Int), 1, sIx n n hi - sIx n 0 lo) s) : wpAny (model prog w) A (Builtin.Slice.sliceApplied (.ref sl) (pure (n : Int))) Q E s := by
  obtain ⟨os, hos, hcs, hds⟩ := id hs
  unfold Builtin.Slice.sliceApplied Builtin.Slice.sliceFields
  refine wpAny_bind (wpAny_bind (wpAny_field hos hds (x := vl) rfl (wpAny_bind (wpAny_field hos hds (x := vu) rfl (wpAny_bind (wpAny_field hos hds (x := .none) rfl (wpAny_pure ?_)))))))
  refine wpAny_bind (slicePart_none ?_)
  show wpAny _ _ (if ((1 : Int) == 0) = true then _ else _) _ _ s
  rw [if_neg (by decide)]
  refine wpAny_bind (slicePart_ pl (wpAny_bind (slicePart_ pu (wpAny_bind (wpAny_pure ?_)))))
  show wpAny _ _ (match Builtin.Slice.sliceAdjust lo hi 1 (n : Int) with | (lo, hi) => pure (lo, (1 : Int), Builtin.Slice.slicePlaces lo hi 1)) _ _ s
  rw [adjust_gen lo hi n]
  show wpAny _ _ (pure (((sIx n 0 lo : Nat) : Int), (1 : Int), Builtin.Slice.slicePlaces ((sIx n 0 lo : Nat) : Int) ((sIx n n hi : Nat) : Int) 1)) _ _ s
  rw [places_gen]
  exact wpAny_pure h
theorem pick_gen (xs : Array Value) (i k : Nat) : ((List.range k).filterMap fun (m : Nat) => xs[((i : Int) + (m : Int) * 1).toNat]?).toArray = ((xs.toList.drop i).take k).toArray := by
  have e : (fun (m : Nat) => xs[((i : Int) + (m : Int) * 1).toNat]?) = fun m => xs[i + m]? := by
    funext m
    have : ((i : Int) + (m : Int) * 1).toNat = i + m := by lia
    rw [this]
  rw [e]
  have := pick_run xs i k
  rw [List.filterMap_map] at this
  have e2 : ((fun x => xs[x]?) ∘ fun x => i + x) = fun m => xs[i + m]? := rfl
  rw [e2] at this
  rw [this]

theorem getItem_tuple_cut {t sl : Addr} {items : Array Value} {vl vu : Value} {lo hi : Option Int} {Q : Value → Shared → Prop} (ht : IsTup s.heap t items) (hs : s.heap.IsSliceOf sl vl vu .none) (pl : IsPart vl lo) (pu : IsPart vu hi)
    (hw : ¬ (sIx items.size 0 lo = 0 ∧ sIx items.size items.size hi = items.size))
    (h : Q (.ref s.heap.objs.size) { s with heap := s.heap.push { cls := .type "tuple", data := .seq ((items.toList.drop (sIx items.size 0 lo)).take (sIx items.size items.size hi - sIx items.size 0 lo)).toArray } })
    (hsz : items.size ≤ sizeLine) : wpAny (model prog w) A (getItem (.ref t) (.ref sl)) Q E s := by
  have htake : sizeOk (.seq ((items.toList.drop (sIx items.size 0 lo)).take (sIx items.size items.size hi - sIx items.size 0 lo)).toArray) := by
    show ((items.toList.drop (sIx items.size 0 lo)).take (sIx items.size items.size hi - sIx items.size 0 lo)).toArray.size ≤ sizeLine
    rw [List.size_toArray, List.length_take, List.length_drop, Array.length_toList]
    exact Nat.le_trans (Nat.le_trans (Nat.min_le_right _ _) (Nat.sub_le _ _)) hsz
  have hj : sIx items.size items.size hi ≤ items.size := sIx_le _ _ (Nat.le_refl _) hi
  obtain ⟨os, hos, hcs, hds⟩ := id hs
  have hTs : s.TypeIs (.ref sl) "slice" := ⟨os, hos, hcs⟩
  unfold getItem
  try with_reducible refine wpAny_holding ?_
  first | refine wpAny_bind (wpAny_pure ?_) | skip
  refine wpAny_bind (wpAny_sequenceKey ht.typeIs (by decide) ?_)
  refine wpAny_bind (wpAny_callSpecial?_slot (name := Str.ofString "__getitem__") ht.typeIs PyProof.Rows.slot_tuple_getitem
    (wpAny_call_entry PyProof.Rows.slot_tuple_getitem ht.typeIs entry_tuple_getitem ?_ (args_tuple_getitem _ _)))
  show wpAny _ _ (Builtin.Tuple.tupleItemsOf (.ref t) >>= _) _ _ s
  refine wpAny_bind (tupleItemsOf_ ht ?_)
  refine wpAny_bind (wpAny_typeOf hTs ?_)
  rw [if_pos (by decide)]
  refine wpAny_bind (sliceApplied_gen hs pl pu ?_)
  have hno : ¬ ((((sIx items.size 0 lo : Nat) : Int) == 0 && (1 : Int) == 1 && (sIx items.size items.size hi - sIx items.size 0 lo) == items.size) = true) := by
    intro q
    rw [Bool.and_eq_true, Bool.and_eq_true] at q
    have q1 : ((sIx items.size 0 lo : Nat) : Int) = 0 := eq_of_beq q.1.1
    have q2 : sIx items.size items.size hi - sIx items.size 0 lo = items.size := eq_of_beq q.2
    exact hw ⟨by lia, by lia⟩
  show wpAny _ _ (if (((sIx items.size 0 lo : Nat) : Int) == 0 && (1 : Int) == 1 && (sIx items.size items.size hi - sIx items.size 0 lo) == items.size) = true then _ else _) _ _ s
  rw [if_neg hno, pick_gen]
  first
    | exact wpAny_bind (m := Builtin.Tuple.tupleExact _) (wpAny_newObj_type (wpAny_pure ⟨_, rfl, wpAny_pure h⟩) htake)
    | exact wpAny_bind (m := Builtin.Tuple.tupleExact _) (wpAny_newObj_type (wpAny_bind (wpAny_pure (wpAny_pure ⟨_, rfl, wpAny_pure h⟩))) htake)
    | exact wpAny_bind (wpAny_bind (m := Builtin.Tuple.tupleExact _) (wpAny_newObj_type (wpAny_pure (wpAny_pure ⟨_, rfl, wpAny_pure h⟩)) htake))
    | exact wpAny_bind (wpAny_bind (m := Builtin.Tuple.tupleExact _) (wpAny_newObj_type (wpAny_pure ⟨_, rfl, wpAny_pure h⟩) htake))
end
end HT

namespace L2
open PySem PySem.Spec PyProof.Rows

/-! ### the parts of a slice -/
abbrev TO := St → Hp → (Option Int → Hp → Prop) → Prop
/-- a slice's part (left out, or an int) -/
def PO (X : Cx) (e : Option Expr) (t : TO) : Prop :=
  ∀ (pins : List (Addr × Obj)) (s : Shared) (σ : St) (H : Hp) (Q : Option Int → Hp → Prop), Inv X pins σ H s → t σ H Q →
    wpAny (model X.prog X.w) X.A (evalPart e X.env) (fun u s' => ∃ o H', Inv X pins σ H' s' ∧ IsPart u o ∧ Q o H') X.xe s
def tNoPart : TO := fun _ H Q => Q none H
def tPart (t : TE) : TO := fun σ H Q => t σ H fun x H1 => ∃ i, x = .int i ∧ Q (some i) H1

section
variable {X : Cx} {e : Expr} {te : TE} {lo hi : Option Expr} {tl th : TO} {pos p2 : Pos}

theorem po_none : PO X none tNoPart := by
  intro pins s σ H Q I h
  rw [evalPart_none]
  exact wpAny_pure ⟨none, H, I, .none, h⟩
theorem po_some (h : PE X e te) : PO X (some e) (tPart te) := by
  intro pins s σ H Q I hw
  rw [evalPart_some]
  refine thn (h pins s σ H _ I hw) fun u s1 ⟨x, H1, I1, r1, q1⟩ => ?_
  obtain ⟨i, rfl, q⟩ := q1
  obtain ⟨t, rfl⟩ := r1
  exact ⟨some i, H1, I1, .int i t, q⟩

/-- what a slice of a value is, by values: the slice object stands at sl -/
def SlR (X : Cx) (r : V → Option Int → Option Int → Hp → VK → Prop) : Prop :=
  ∀ (pins : List (Addr × Obj)) (s : Shared) (σ : St) (H : Hp) (x : V) (v vl vu : Value) (lo hi : Option Int) (sl : Addr) (Q : VK), Inv X pins σ H s → RelV x v → s.heap.IsSliceOf sl vl vu .none → IsPart vl lo → IsPart vu hi → r x lo hi H Q →
    ∃ T id, typeLookup (.type T) "__getitem__" = pure (some (.builtin id)) ∧ s.TypeIs v T ∧ wpAny (model X.prog X.w) X.A (getItem v (.ref sl)) (EP X pins σ Q) X.xe s
theorem SlR.or {r r' : V → Option Int → Option Int → Hp → VK → Prop} (h : SlR X r) (h' : SlR X r') : SlR X (fun x lo hi H Q => r x lo hi H Q ∨ r' x lo hi H Q) := by
  intro pins s σ H x v vl vu lo hi sl Q I rx hs pl pu q
  rcases q with q | q
  · exact h pins s σ H x v vl vu lo hi sl Q I rx hs pl pu q
  · exact h' pins s σ H x v vl vu lo hi sl Q I rx hs pl pu q
def tSl (r : V → Option Int → Option Int → Hp → VK → Prop) (te : TE) (tl th : TO) : TE := fun σ H Q => te σ H fun x H1 => tl σ H1 fun l H2 => th σ H2 fun u H3 => r x l u H3 Q
/-- a[lo:hi], any a -/
theorem pe_slice {r : V → Option Int → Option Int → Hp → VK → Prop} (hr : SlR X r) (he : PE X e te) (hl : PO X lo tl) (hu : PO X hi th) : PE X (.Subscript e (.Slice lo hi none p2) pos) (tSl r te tl th) := by
  intro pins s σ H Q I h
  refine Subscript_ (thn (he pins s σ H _ I h) fun v s1 ⟨x, H1, I1, r1, q1⟩ => ?_)
  refine wpAny_Slice (thn (hl pins s1 σ H1 _ I1 q1) fun vl s2 ⟨l, H2, I2, pl, q2⟩ => thn (hu pins s2 σ H2 _ I2 q2) fun vu s3 ⟨u, H3, I3, pu, q3⟩ => ?_)
  rw [evalPart_none]
  refine wpAny_pure ?_
  have I4 : Inv X pins σ H3 { s3 with heap := s3.heap.push { cls := .type "slice", data := .fields #[vl, vu, .none] } } := I3.kept (t' := s3.toks) fun b ob q => Heap.get?_push_of_some _ q
  obtain ⟨T, id, hT, ht, hg⟩ := hr pins { s3 with heap := s3.heap.push { cls := .type "slice", data := .fields #[vl, vu, .none] } } σ H3 x v vl vu l u s3.heap.objs.size Q I4 r1 (Heap.IsSliceOf.new ..) pl pu q3
  show wpAny (model X.prog X.w) X.A (subscriptTail e (.Slice lo hi none p2) v (.ref s3.heap.objs.size)) (EP X pins σ Q) X.xe { s3 with heap := s3.heap.push { cls := .type "slice", data := .fields #[vl, vu, .none] } }
  exact tail_any (ops := [.ref s3.heap.objs.size, v]) ht hT hg (by with_unfolding_all rfl)

/-- the items of xs[lo:hi] -/
def cutV (xs : List V) (lo hi : Option Int) : List V := (xs.drop (HT.sIx xs.length 0 lo)).take (HT.sIx xs.length xs.length hi - HT.sIx xs.length 0 lo)
theorem cutV_length (xs : List V) (lo hi : Option Int) : (cutV xs lo hi).length ≤ xs.length := by
  unfold cutV
  rw [List.length_take, List.length_drop]
  exact Nat.le_trans (Nat.min_le_right _ _) (Nat.sub_le _ _)
/-- t[lo:hi], not the whole of it (the whole would be t itself) -/
inductive rSlT (K : PySem.W.Frag) (x : V) (lo : Option Int) (hi : Option Int) (H : Hp) (Q : VK) : Prop
  | mk (a : _) (xs : _) (h1 : x = .ref a) (h2 : SqT K H a xs) (h3 : ¬ (HT.sIx xs.length 0 lo = 0 ∧ HT.sIx xs.length xs.length hi = xs.length)) (h4 : ∀ p, H p = none → Q (.ref p) (upd H p (.tup (cutV xs lo hi)))) : rSlT K x lo hi H Q
theorem sl_tup : SlR X (rSlT X.K) := by
  intro pins s σ H x v vl vu lo hi sl Q I rx hs pl pu h
  obtain ⟨a, xs, rfl, hx, hw, q⟩ := h
  cases rx
  obtain ⟨its, r, ht, hz⟩ := I.tuple hx
  have hlen : its.toArray.size = xs.length := by rw [List.size_toArray]; exact r.length.symm
  refine ⟨"tuple", _, PyProof.Rows.slot_tuple_getitem.lookup, ht.typeIs, ?_⟩
  refine HT.getItem_tuple_cut ht hs pl pu (by rw [hlen]; exact hw) ?_ (by rw [hlen]; exact hz)
  rw [hlen]
  refine ⟨.ref s.heap.objs.size, _, I.laid (t' := s.toks) (o := .tup (cutV xs lo hi)) (fun b ob q => Heap.get?_push_of_some _ q) (Nat.le_refl _) ?_, rfl, q _ (I.hok.fresh (Nat.le_refl _))⟩
  exact ⟨Nat.le_trans (cutV_length xs lo hi) hz, _, (r.drop (HT.sIx xs.length 0 lo)).take (HT.sIx xs.length xs.length hi - HT.sIx xs.length 0 lo), IsTup.new _ _⟩

/-! ### t < u, t + u -/
/-- t + u, t not empty: u empty gives t itself -/
inductive rCatT (K : PySem.W.Frag) (x : V) (y : V) (H : Hp) (Q : VK) : Prop
  | mk (a : _) (b : _) (xs : _) (ys : _) (h1 : x = .ref a) (h2 : y = .ref b) (h3 : SqT K H a xs) (h4 : SqT K H b ys) (h5 : xs ≠ []) (h6 : xs.length + ys.length ≤ sizeLine) (h7 : (ys = [] → Q (.ref a) H)) (h8 : (ys ≠ [] → ∀ p, H p = none → Q (.ref p) (upd H p (.tup (xs ++ ys))))) : rCatT K x y H Q
theorem Vals.nil_iff {xs : List V} {us : List Value} (r : Vals xs us) : us = [] ↔ xs = [] := by
  cases r with
  | nil => simp
  | cons _ _ => simp
theorem op_catT : OpR X (binaryOp .Add) (rCatT X.K) := by
  intro pins s σ H x y v u Q I rx ry h
  obtain ⟨a, b, xs, ys, rfl, rfl, ha, hb, hx, hz, q1, q2⟩ := h
  cases rx
  cases ry
  obtain ⟨its, r1, p1, _⟩ := I.tuple ha
  obtain ⟨its2, r2, p2, _⟩ := I.tuple hb
  refine HT.cat_tup p1 p2 (fun z => hx (r1.nil_iff.mp z)) (fun z => ⟨.ref a, H, I, rfl, q1 (r2.nil_iff.mp z)⟩) (fun z => ?_) (by rw [← r1.length, ← r2.length]; exact hz)
  refine ⟨.ref s.heap.objs.size, _, I.laid (t' := s.toks) (o := .tup (xs ++ ys)) (fun b ob q => Heap.get?_push_of_some _ q) (Nat.le_refl _) ?_, rfl, q2 (fun w => z (r2.nil_iff.mpr w)) _ (I.hok.fresh (Nat.le_refl _))⟩
  exact ⟨by rw [List.length_append]; exact hz, _, r1.append r2, IsTup.new _ _⟩
end
end L2

namespace L2
open PySem PySem.Spec PyProof.Rows

/-! ### places -/
/-- the place that an index of any sign means -/
def ixN (n : Nat) (i : Int) : Option Nat := if 0 ≤ i then (if i < n then some i.toNat else none) else if -(n : Int) ≤ i then some (i + n).toNat else none
def atI {α : Type} (xs : List α) (i : Int) : Option α := (ixN xs.length i).bind fun j => xs[j]?
theorem ixN_seq {n : Nat} {i : Int} {j : Nat} (h : ixN n i = some j) : seqIndex? i n = some j ∧ j < n ∧ -(n : Int) ≤ i ∧ i < n := by
  unfold ixN at h
  by_cases h0 : 0 ≤ i
  · rw [if_pos h0] at h
    by_cases h1 : i < n
    · rw [if_pos h1] at h
      have e : i.toNat = j := Option.some.inj h
      exact ⟨by rw [seqIndex_of h0 h1, e], by lia, by lia, h1⟩
    · rw [if_neg h1] at h; cases h
  · rw [if_neg h0] at h
    by_cases h1 : -(n : Int) ≤ i
    · rw [if_pos h1] at h
      have e : (i + n).toNat = j := Option.some.inj h
      exact ⟨by rw [seqIndex_neg (by lia) h1, e], by lia, h1, by lia⟩
    · rw [if_neg h1] at h; cases h
theorem atI_get {α : Type} {xs : List α} {i : Int} {v : α} (h : atI xs i = some v) : ∃ j, seqIndex? i xs.length = some j ∧ xs[j]? = some v ∧ j < xs.length ∧ -(xs.length : Int) ≤ i ∧ i < xs.length := by
  unfold atI at h
  cases e : ixN xs.length i with
  | none => rw [e] at h; cases h
  | some j =>
    rw [e] at h
    obtain ⟨h1, h2, h3, h4⟩ := ixN_seq e
    exact ⟨j, h1, h, h2, h3, h4⟩
theorem atI_nat {α : Type} {xs : List α} {j : Nat} {v : α} (h : xs[j]? = some v) : atI xs (j : Int) = some v := by
  have hj : j < xs.length := (List.getElem?_eq_some_iff.mp h).1
  have e : ixN xs.length (j : Int) = some j := by
    unfold ixN
    rw [if_pos (by lia), if_pos (by lia)]; simp
  unfold atI; rw [e]; exact h
/-! ### what may be subscripted -/
/-- what stands as an index of a plain subscript -/
def PlainIx (b : Expr) : Prop := ∀ o i, subscripted b false o i = operate [o, i] (getItem o i)
/-- a subscript by values -/
def IxR (X : Cx) (r : R2) : Prop :=
  ∀ (value slice : Expr) (pins : List (Addr × Obj)) (s : Shared) (σ : St) (H : Hp) (x y : V) (v u : Value) (Q : VK), Inv X pins σ H s → RelV x v → RelV y u → r x y H Q →
    subscripted slice false v u = operate [v, u] (getItem v u) → wpAny (model X.prog X.w) X.A (subscriptTail value slice v u) (EP X pins σ Q) X.xe s
/-- a call of a builtin's method by values: the receiver, the arguments -/
def MtR (X : Cx) (id : String) (r : V → List V → Hp → VK → Prop) : Prop :=
  ∀ (pins : List (Addr × Obj)) (s : Shared) (σ : St) (H : Hp) (x : V) (xs : List V) (v : Value) (us : List Value) (Q : VK), Inv X pins σ H s → RelV x v → Vals xs us → r x xs H Q →
    wpAny (model X.prog X.w) X.A (call (.builtin id) (v :: us)) (EP X pins σ Q) X.xe s
section
variable {X : Cx} {a b : Expr} {ta tb : TE} {pos : Pos}
/-- a[b] -/
theorem pe_ix {r : R2} (hr : IxR X r) (ha : PE X a ta) (hb : PE X b tb) (hs : PlainIx b) : PE X (.Subscript a b pos) (tOp r ta tb) := by
  intro pins s σ H Q I h
  exact Subscript_ (binT ha hb I h fun v u s2 x y H2 I2 rx ry q => hr a b pins s2 σ H2 x y v u Q I2 rx ry q (hs _ _))

inductive rIxL (K : PySem.W.Frag) (x : V) (y : V) (H : Hp) (Q : VK) : Prop
  | mk (p : _) (xs : _) (i : _) (v : _) (h1 : x = .ref p) (h2 : y = .int i) (h3 : SqL K H p xs) (h4 : atI xs i = some v) (h5 : Q v H) : rIxL K x y H Q
inductive rIxT (K : PySem.W.Frag) (x : V) (y : V) (H : Hp) (Q : VK) : Prop
  | mk (p : _) (xs : _) (i : _) (v : _) (h1 : x = .ref p) (h2 : y = .int i) (h3 : SqT K H p xs) (h4 : atI xs i = some v) (h5 : Q v H) : rIxT K x y H Q
theorem ix_list : IxR X (rIxL X.K) := by
  intro value slice pins s σ H x y v u Q I rx ry h hs
  obtain ⟨p, xs, i, z, rfl, rfl, hq, he, q⟩ := h
  cases rx
  obtain ⟨t, rfl⟩ := ry
  obtain ⟨its, r, pl, hz⟩ := I.list hq
  obtain ⟨j, h1, h2, h3, h4, h5⟩ := atI_get he
  obtain ⟨w, ew, rw'⟩ := r.get h2
  have hl := r.length
  have hn := line63
  have fin : EP X pins σ Q w s := ⟨z, H, I, rw', q⟩
  by_cases h0 : 0 ≤ i
  · have hj : i.toNat = j := by
      rw [seqIndex_of h0 h5] at h1
      exact Option.some.inj h1
    exact item_listR pl.isList h0 (by lia) (by rw [hj]; simpa using ew) fin hs
  · have hj : (i + (its.toArray.size : Int)).toNat = j := by
      rw [seqIndex_neg (by lia) h4] at h1
      rw [List.size_toArray, ← hl]
      exact Option.some.inj h1
    exact subscriptTail_builtinR (x := w) pl.isList.typeIs slot_list_getitem.lookup
      (wpAny_getItem_list_neg (Q := fun r s' => r = w ∧ EP X pins σ Q r s') pl.isList (by lia) (by rw [List.size_toArray] <;> lia) (by lia) (by rw [hj]; simpa using ew) ⟨rfl, fin⟩) hs
theorem ix_tup : IxR X (rIxT X.K) := by
  intro value slice pins s σ H x y v u Q I rx ry h hs
  obtain ⟨p, xs, i, z, rfl, rfl, hq, he, q⟩ := h
  cases rx
  obtain ⟨t, rfl⟩ := ry
  obtain ⟨its, r, pl, hz⟩ := I.tuple hq
  obtain ⟨j, h1, h2, h3, h4, h5⟩ := atI_get he
  obtain ⟨w, ew, rw'⟩ := r.get h2
  have hl := r.length
  have hn := line63
  have fin : EP X pins σ Q w s := ⟨z, H, I, rw', q⟩
  exact subscriptTail_builtinR (x := w) pl.typeIs slot_tuple_getitem.lookup
    (getItem_tuple (j := j) (Q := fun r s' => r = w ∧ EP X pins σ Q r s') pl (by lia) (by lia) (by rw [List.size_toArray, ← hl]; exact h1) (by simpa using ew) ⟨rfl, fin⟩) hs
/-! ### xs[i] = v, any sign -/
/-- the list's object behind a store -/
theorem mapSeq_set (its : List Value) (n j : Nat) (u : Value) : Obj.mapSeq (·.setIfInBounds j u) { cls := .type "list", data := .seq its.toArray n } = { cls := .type "list", data := .seq (its.set j u).toArray n } := by
  simp [Obj.mapSeq]
theorem Inv.lst {pins : List (Addr × Obj)} {σ : St} {H : Hp} {s : Shared} {p : Addr} {xs : List V} (I : Inv X pins σ H s) (h : H p = some (.lst xs)) :
    ∃ (its : List Value) (n : Nat), Vals xs its ∧ s.heap.get? p = some { cls := .type "list", data := .seq its.toArray n } ∧ xs.length ≤ sizeLine := by
  obtain ⟨z, its, n, r, e⟩ := I.hok p _ h
  exact ⟨its, n, r, e, z⟩
/-- the list at p is written by an update of its object -/
theorem Inv.lstUpd {pins : List (Addr × Obj)} {σ : St} {H : Hp} {s : Shared} {p : Addr} {xs ys : List V} {its its' : List Value} {n n' : Nat} {f : Obj → Obj} (I : Inv X pins σ H s) (h : H p = some (.lst xs))
    (ho : s.heap.get? p = some { cls := .type "list", data := .seq its.toArray n }) (hf : f { cls := .type "list", data := .seq its.toArray n } = { cls := .type "list", data := .seq its'.toArray n' }) (r : Vals ys its') (hz : ys.length ≤ sizeLine) (t : Nat) :
    Inv X pins σ (upd H p (.lst ys)) { s with heap := s.heap.update p f, toks := t } := by
  have e : (s.heap.update p f).get? p = some { cls := .type "list", data := .seq its'.toArray n' } := by
    rw [Heap.get?_update_self f ho (by rw [hf] <;> rfl), hf]
  refine I.write (x := p) (e := p) (by rw [h]; trivial) (.inl rfl) (fun b u hb q => (Heap.get?_update_other _ _ (Ne.symm hb)).trans q) ⟨_, e⟩ ?_
  exact ⟨hz, its', n', r, e⟩
inductive rSetL (o : V) (i : V) (v : V) (H : Hp) (Q : (Hp → Prop)) : Prop
  | mk (p : _) (xs : _) (k : _) (j : _) (h1 : o = .ref p) (h2 : i = .int k) (h3 : H p = some (.lst xs)) (h4 : ixN xs.length k = some j) (h5 : Q (upd H p (.lst (xs.set j v)))) : rSetL o i v H Q
theorem set_list : PSet X rSetL := by
  intro pins s σ H o i v ov iv u Q I ro ri rv h
  obtain ⟨p, xs, k, j, rfl, rfl, hp, hj, q⟩ := h
  cases ro
  obtain ⟨t, rfl⟩ := ri
  obtain ⟨its, n, r, ho, hz⟩ := I.lst hp
  obtain ⟨h1, h2, h3, h4⟩ := ixN_seq hj
  have hl := r.length
  have hn := line63
  have I' : Inv X pins σ (upd H p (.lst (xs.set j v))) { s with heap := s.heap.update p (Obj.mapSeq (·.setIfInBounds j u)) } :=
    I.lstUpd hp ho (mapSeq_set its n j u) (r.set rv j) (by rw [List.length_set]; exact hz) s.toks
  by_cases h0 : 0 ≤ k
  · have hk : k.toNat = j := by
      rw [seqIndex_of h0 h4] at h1
      exact Option.some.inj h1
    exact PySem.W.ki_setAt ho h0 (by lia) (by rw [List.size_toArray, ← hl]; exact h4) (by rw [hk]; exact ⟨_, I', q⟩)
  · have hk : (k + (its.toArray.size : Int)).toNat = j := by
      rw [seqIndex_neg (by lia) h3] at h1
      rw [List.size_toArray, ← hl]
      exact Option.some.inj h1
    exact PySem.W.ki_setBack ho (by lia) (by rw [List.size_toArray, ← hl]; exact h3) (by lia) (by rw [hk]; exact ⟨_, I', q⟩)

/-! ### slices -/
theorem slice_bounds (lo hi : Option Int) (n : Nat) : (sliceBounds lo hi none n).1 = ((HT.sIx n 0 lo : Nat) : Int) ∧ (sliceBounds lo hi none n).2.1 = ((HT.sIx n n hi : Nat) : Int) ∧ (sliceBounds lo hi none n).2.2 = 1 := by
  have key : ∀ (i : Int) (d : Nat), max 0 (min (if i < 0 then i + (n : Int) else i) (n : Int)) = ((HT.sIx n d (some i) : Nat) : Int) := by
    intro i d
    rw [← HT.clip_eq]
    by_cases h : i < 0
    · rw [if_pos h, if_pos h, Int.min_eq_left (by lia), Int.max_comm]
    · rw [if_neg h, if_neg h, Int.max_eq_right (Int.le_min.mpr ⟨by lia, by lia⟩)]
  refine ⟨?_, ?_, rfl⟩
  · cases lo with
    | none => simp [sliceBounds, HT.sIx]
    | some i => exact key i 0
  · cases hi with
    | none => simp [sliceBounds, HT.sIx]
    | some i => exact key i n
theorem slicePick_cut (its : List Value) (lo hi : Option Int) : slicePick its.toArray lo hi none = ((its.drop (HT.sIx its.length 0 lo)).take (HT.sIx its.length its.length hi - HT.sIx its.length 0 lo)).toArray := by
  obtain ⟨h1, h2, h3⟩ := slice_bounds lo hi its.toArray.size
  unfold slicePick
  rw [h1, h2, h3]
  simp only [sliceRange_one, pick_run, List.size_toArray] <;> rfl
/-- xs[lo:hi] of a list: a new list -/
inductive rSlL (K : PySem.W.Frag) (x : V) (lo : Option Int) (hi : Option Int) (H : Hp) (Q : VK) : Prop
  | mk (a : _) (xs : _) (h1 : x = .ref a) (h2 : SqL K H a xs) (h3 : ∀ p, H p = none → Q (.ref p) (upd H p (.lst (cutV xs lo hi)))) : rSlL K x lo hi H Q
theorem sl_list : SlR X (rSlL X.K) := by
  intro pins s σ H x v vl vu lo hi sl Q I rx hs pl pu h
  obtain ⟨a, xs, rfl, hx, q⟩ := h
  cases rx
  obtain ⟨its, r, ht, hz⟩ := I.list hx
  have hlen := r.length
  refine ⟨"list", _, slot_list_getitem.lookup, ht.isList.typeIs, ?_⟩
  refine wpAny_getItem_list_slice ht.isList hs pl pu .none (by simp) ?_ (by rw [List.size_toArray] <;> lia)
  rw [slicePick_cut, ← hlen]
  refine ⟨.ref s.heap.objs.size, _, I.laid (t' := s.toks) (o := .lst (cutV xs lo hi)) (fun b ob q => Heap.get?_push_of_some _ q) (Nat.le_refl _) ?_, rfl, q _ (I.hok.fresh (Nat.le_refl _))⟩
  exact ⟨Nat.le_trans (cutV_length xs lo hi) hz, _, 0, (r.drop (HT.sIx xs.length 0 lo)).take (HT.sIx xs.length xs.length hi - HT.sIx xs.length 0 lo), Heap.get?_push_size _ rfl⟩

/-! ### in, not in: flat items -/
def flatV : V → Bool
  | .non => true
  | .bl _ => true
  | .int _ => true
  | .str _ => true
  | _ => false
/-- == of flat values -/
def eqV : V → V → Bool
  | .non, .non => true
  | .bl a, .bl b => a == b
  | .bl a, .int b => (if a then 1 else 0) == b
  | .int a, .bl b => a == (if b then 1 else 0)
  | .int a, .int b => a == b
  | .str a, .str b => a == b
  | _, _ => false
theorem eqAt_V {A : Around} {s : Shared} {y x : V} {u v : Value} (ry : RelV y u) (rx : RelV x v) (fy : flatV y = true) (fx : flatV x = true) : SeqAt.EqAt A s u v (eqV y x) := by
  cases y with
  | non =>
    cases ry
    cases x with
    | non => cases rx; exact SeqAt.EqAt.same _
    | bl b => cases rx; exact SeqAt.EqAt.none_bool b
    | int b => obtain ⟨t, rfl⟩ := rx; exact SeqAt.EqAt.none_int b t
    | str b => obtain ⟨t, rfl⟩ := rx; exact SeqAt.EqAt.none_str b t
    | _ => exact absurd (show false = true from fx) Bool.false_ne_true
  | bl a =>
    cases ry
    cases x with
    | non => cases rx; exact SeqAt.EqAt.bool_none a
    | bl b => cases rx; exact SeqAt.EqAt.bool_bool a b
    | int b => obtain ⟨t, rfl⟩ := rx; exact SeqAt.EqAt.bool_int a b t
    | str b => obtain ⟨t, rfl⟩ := rx; exact SeqAt.EqAt.bool_str a b t
    | _ => exact absurd (show false = true from fx) Bool.false_ne_true
  | int a =>
    obtain ⟨t', rfl⟩ := ry
    cases x with
    | non => cases rx; exact SeqAt.EqAt.int_none a t'
    | bl b => cases rx; exact SeqAt.EqAt.int_bool a t' b
    | int b => obtain ⟨t, rfl⟩ := rx; exact SeqAt.EqAt.int_int a t' b t
    | str b => obtain ⟨t, rfl⟩ := rx; exact SeqAt.EqAt.int_str a t' b t
    | _ => exact absurd (show false = true from fx) Bool.false_ne_true
  | str a =>
    obtain ⟨t', rfl⟩ := ry
    cases x with
    | non => cases rx; exact SeqAt.EqAt.str_none a t'
    | bl b => cases rx; exact SeqAt.EqAt.str_bool a t' b
    | int b => obtain ⟨t, rfl⟩ := rx; exact SeqAt.EqAt.str_int a t' b t
    | str b => obtain ⟨t, rfl⟩ := rx; exact SeqAt.EqAt.str_str a t' b t
    | _ => exact absurd (show false = true from fx) Bool.false_ne_true
  | _ => exact absurd (show false = true from fy) Bool.false_ne_true
/-- the items' answers, read off the values (a value's own answer does not lean on its token) -/
def eqU (x : V) (u : Value) : Bool := match u with
  | .none => eqV .non x
  | .bool b => eqV (.bl b) x
  | .int i _ => eqV (.int i) x
  | .str z _ => eqV (.str z) x
  | _ => false
theorem eqU_of {x y : V} {u : Value} (r : RelV y u) (f : flatV y = true) : eqU x u = eqV y x := by
  cases y with
  | non => cases r; rfl
  | bl b => cases r; rfl
  | int i => obtain ⟨t, rfl⟩ := r; rfl
  | str z => obtain ⟨t, rfl⟩ := r; rfl
  | _ => exact absurd (show false = true from f) Bool.false_ne_true
theorem any_eqU {x : V} : ∀ {xs : List V} {us : List Value}, Vals xs us → xs.all flatV = true → us.any (eqU x) = xs.any fun y => eqV y x
  | _, _, .nil, _ => rfl
  | y :: xs, u :: us, .cons r t, f => by
    rw [List.all_cons, Bool.and_eq_true] at f
    rw [List.any_cons, List.any_cons, eqU_of r f.1, any_eqU t f.2]
theorem mem_eqAt {A : Around} {s : Shared} {x : V} {v : Value} (rx : RelV x v) (fx : flatV x = true) : ∀ {xs : List V} {us : List Value}, Vals xs us → xs.all flatV = true → ∀ u ∈ us, SeqAt.EqAt A s u v (eqU x u)
  | _, _, .nil, _ => fun u hu => by cases hu
  | y :: xs, u :: us, .cons r t, f => fun u' hu => by
    rw [List.all_cons, Bool.and_eq_true] at f
    rcases List.mem_cons.mp hu with rfl | hu
    · rw [eqU_of r f.1]; exact eqAt_V r rx f.1 fx
    · exact mem_eqAt rx fx t f.2 u' hu
def inV (x : V) (xs : List V) : Bool := xs.any fun y => eqV y x
/-- x in a list or tuple of flat items -/
inductive rIn (K : PySem.W.Frag) (neg : Bool) (x : V) (y : V) (H : Hp) (Q : VK) : Prop
  | mk (p : _) (xs : _) (h1 : y = .ref p) (h2 : (SqL K H p xs ∨ SqT K H p xs)) (h3 : flatV x = true) (h4 : xs.all flatV = true) (h5 : Q (.bl (if neg then !inV x xs else inV x xs)) H) : rIn K neg x y H Q
theorem op_notIn_seq : OpR X (compareOp .NotIn) (rIn X.K true) := by
  intro pins s σ H x y v u Q I rx ry h
  obtain ⟨p, xs, rfl, hq, fx, fs, q⟩ := h
  cases ry
  rcases hq with hq | hq
  · obtain ⟨its, r, pl, hz⟩ := I.list hq
    refine SeqAt.notIn_listAt (eqU x) pl.isList (fun w hw => mem_eqAt rx fx r fs w (by simpa using hw)) ⟨.bl _, H, I, rfl, ?_⟩
    rw [show its.toArray.any (eqU x) = its.any (eqU x) by simp, any_eqU r fs]
    exact q
  · obtain ⟨its, r, pl, hz⟩ := I.tuple hq
    refine SeqAt.notIn_tupleAt (eqU x) pl (fun w hw => mem_eqAt rx fx r fs w (by simpa using hw)) ⟨.bl _, H, I, rfl, ?_⟩
    rw [show its.toArray.any (eqU x) = its.any (eqU x) by simp, any_eqU r fs]
    exact q
/-! ### len, list(x), tuple(x) of any list or tuple that is read -/
theorem call_len_seq : CallR X (.builtin "len") (fun xs H Q => ∃ p ys, xs = [.ref p] ∧ (SqL X.K H p ys ∨ SqT X.K H p ys) ∧ Q (.int ys.length) H) := by
  intro pins s σ H xs us Q I r h
  obtain ⟨p, ys, rfl, hq, q⟩ := h
  obtain ⟨u, rfl, rx⟩ := vals1 r
  cases rx
  have hn := line63
  rcases hq with hq | hq
  · obtain ⟨its, r', pl, hz⟩ := I.list hq
    have hlen := r'.length
    exact Calls.call_len_list pl.isList (by simp only [List.size_toArray] <;> lia) ⟨.int ys.length, H, I.tok _, ⟨s.toks + 1, by rw [List.size_toArray, hlen]⟩, q⟩
  · obtain ⟨its, r', pl, hz⟩ := I.tuple hq
    have hlen := r'.length
    exact len_tuple pl (by simp only [List.size_toArray] <;> lia) ⟨.int ys.length, H, I.tok _, ⟨s.toks + 1, by rw [List.size_toArray, hlen]⟩, q⟩
theorem call_list_of : CallR X (.type "list") (fun xs H Q => ∃ p ys, xs = [.ref p] ∧ (SqL X.K H p ys ∨ SqT X.K H p ys) ∧ ∀ l, H l = none → Q (.ref l) (upd H l (.lst ys))) := by
  intro pins s σ H xs us Q I r h
  obtain ⟨p, ys, rfl, hq, q⟩ := h
  obtain ⟨u, rfl, rx⟩ := vals1 r
  cases rx
  have fin : ∀ (its : List Value), Vals ys its → ys.length ≤ sizeLine → ∀ (h' : Heap) (c' : Nat), (∀ b o', s.heap.get? b = some o' → h'.get? b = some o') →
      h'.get? s.heap.objs.size = some { cls := .type "list", dict := none, data := .seq its.toArray c', slots := #[] } → EP X pins σ Q (.ref s.heap.objs.size) { s with heap := h' } := fun its r' hz h' c' kp e =>
    ⟨.ref s.heap.objs.size, _, I.laid (t' := s.toks) kp (Nat.le_refl _) (show ObjOk X.prog X.w _ h' _ (.lst ys) from ⟨hz, its, c', r', e⟩), rfl, q _ (I.hok.fresh (Nat.le_refl _))⟩
  rcases hq with hq | hq
  · obtain ⟨its, r', pl, hz⟩ := I.list hq
    have hlen := r'.length
    obtain ⟨o, ho, hc, n, hd⟩ := pl.isList
    exact call_list_seq p (.inl rfl) ho hc hd (fun h' c' kp e => fin its r' hz h' c' kp e) (by simp only [List.size_toArray] <;> lia)
  · obtain ⟨its, r', pl, hz⟩ := I.tuple hq
    have hlen := r'.length
    obtain ⟨o, ho, hc, n, hd⟩ := pl
    exact call_list_seq p (.inr rfl) ho hc hd (fun h' c' kp e => fin its r' hz h' c' kp e) (by simp only [List.size_toArray] <;> lia)
theorem call_tuple_of : CallR X (.type "tuple") (fun xs H Q => ∃ p ys, xs = [.ref p] ∧ ((SqL X.K H p ys ∧ ∀ l, H l = none → Q (.ref l) (upd H l (.tup ys))) ∨ (SqT X.K H p ys ∧ Q (.ref p) H))) := by
  intro pins s σ H xs us Q I r h
  obtain ⟨p, ys, rfl, h⟩ := h
  obtain ⟨u, rfl, rx⟩ := vals1 r
  cases rx
  rcases h with ⟨hq, q⟩ | ⟨hq, q⟩
  · obtain ⟨its, r', pl, hz⟩ := I.list hq
    have hlen := r'.length
    refine call_tuple_list pl.isList (fun h' kp => ?_) (by simp only [List.size_toArray] <;> lia)
    have I1 : Inv X pins σ H { s with heap := h' } := I.kept (t' := s.toks) kp
    have I2 : Inv X pins σ (upd H h'.objs.size (.tup ys)) { s with heap := h'.push { cls := .type "tuple", data := .seq its.toArray } } :=
      I1.laid (t' := s.toks) (fun b o e => Heap.get?_push_of_some _ e) (Nat.le_refl _) (show ObjOk X.prog X.w _ _ _ (.tup ys) from ⟨hz, its, r', IsTup.new _ _⟩)
    exact ⟨.ref h'.objs.size, _, I2, rfl, q _ (I1.hok.fresh (Nat.le_refl _))⟩
  · obtain ⟨its, r', pl, hz⟩ := I.tuple hq
    exact call_tuple_same pl ⟨.ref p, H, I, rfl, q⟩

/-! ### the call of a builtin's method: o.m(..) -/
/-- the value is of that builtin type -/
def tyV (K : PySem.W.Frag) (T : String) (x : V) (H : Hp) : Prop := match x with
  | .str _ => T = "str"
  | .int _ => T = "int"
  | .ref p => (T = "list" ∧ ∃ xs, SqL K H p xs) ∨ (T = "tuple" ∧ ∃ o, K.lookup p = some o ∧ o.cls = .type "tuple" ∧ o.dict = none) ∨
      (T = "dict" ∧ ((∃ kvs, H p = some (.dK kvs)) ∨ ∃ kvs, H p = some (.dT kvs))) ∨ (T = "set" ∧ ∃ S n, H p = some (.set S n))
  | _ => False
theorem tyV_is {pins : List (Addr × Obj)} {σ : St} {H : Hp} {s : Shared} {T : String} {x : V} {v : Value} (I : Inv X pins σ H s) (r : RelV x v) (ty : tyV X.K T x H) :
    s.TypeIs v T ∧ ∀ a, v = .ref a → ∃ ob, s.heap.get? a = some ob ∧ ob.dict = none := by
  cases x with
  | str z =>
    obtain ⟨t, rfl⟩ := r
    cases (show T = "str" from ty)
    exact ⟨typeIs_str s z t, fun _ e => nomatch e⟩
  | int i =>
    obtain ⟨t, rfl⟩ := r
    cases (show T = "int" from ty)
    exact ⟨typeIs_int s i t, fun _ e => nomatch e⟩
  | ref p =>
    cases r
    rcases ty with ⟨rfl, xs, hq⟩ | ⟨rfl, o, hk, hc, hd⟩ | ⟨rfl, hk⟩ | ⟨rfl, S, n, hk⟩
    · obtain ⟨its, _, pl, _⟩ := I.list hq
      refine ⟨pl.isList.typeIs, fun a e => ?_⟩
      cases e
      obtain ⟨o, n, e, c, hd, _⟩ := pl
      exact ⟨o, e, hd⟩
    · refine ⟨⟨o, I.kIn p o hk, hc⟩, fun a e => ?_⟩
      cases e
      exact ⟨o, I.kIn _ o hk, hd⟩
    · have z : ∃ o, s.heap.get? p = some o ∧ o.ExactDict := by
        rcases hk with ⟨kvs, hk⟩ | ⟨kvs, hk⟩
        · obtain ⟨_, _, _, _, o, _, _, e, ex, _⟩ := I.hok p _ hk
          exact ⟨o, e, ex⟩
        · obtain ⟨_, _, _, _, o, _, _, e, ex, _⟩ := I.hok p _ hk
          exact ⟨o, e, ex⟩
      obtain ⟨o, e, ex⟩ := z
      refine ⟨⟨o, e, ex.1⟩, fun a e2 => ?_⟩
      cases e2
      exact ⟨o, e, ex.2.1⟩
    · obtain ⟨o, _, _, _, e, ex, _⟩ := I.hok p _ hk
      refine ⟨⟨o, e, ex.1⟩, fun a e2 => ?_⟩
      cases e2
      exact ⟨o, e, ex.2.1⟩
  | _ => exact False.elim ty
def tBM (K : PySem.W.Frag) (T : String) (r : V → List V → Hp → VK → Prop) (to : TE) (t : TA) : TE := fun σ H Q => to σ H fun x H1 => tyV K T x H1 ∧ t σ H1 fun xs H2 => r x xs H2 Q
variable {o e : Expr} {es : List Expr} {to : TE} {t : TA} {name : Str} {apos cpos : Pos} {T id : String} {r : V → List V → Hp → VK → Prop}
theorem pe_bm (pa : PlainAttrs T) (slot : Slot T name id) (hty : typeOf (.builtin id) = pure (.type "method_descriptor")) (hm : MtR X id r) (ho : PE X o to) (ha : PA X (e :: es) t)
    (hbase : attributeBase o name X.env (eval o X.env) = eval o X.env := by rfl)
    (hfew : ((backTo cpos (starEach (e :: es) X.env)).all (fun x => !x.1) && (backToKw cpos (keywordEach [] X.env)).all (fun x => x.1.isSome)
      && decide ((e :: es).length + ([] : List Keyword).length + (if ([] : List Keyword).isEmpty then 0 else 1) < 30)) = true := by rfl)
    (hline : (apos.endLine == cpos.line) = true := by rfl) (hs : starEach (e :: es) X.env = (false, eval e X.env) :: starEach es X.env := by rfl) (hplain : (backTo cpos (starEach es X.env)).any (·.1) = false := by rfl) {K : PySem.W.Frag} (eK : X.K = K := by rfl) :
    PE X (.Call (.Attribute o name apos) (e :: es) [] cpos) (tBM K T r to t) := by
  subst eK
  intro pins s σ H Q I h
  refine wpAny_Call_method_late hbase hfew hline rfl (thn (ho pins s σ H _ I h) fun v s1 ⟨x, H1, I1, r1, ty, q1⟩ => ?_)
  obtain ⟨h1, h2⟩ := tyV_is I1 r1 ty
  refine ⟨T, id, pa, slot, hty, h1, h2, ?_⟩
  have hA := ha cpos pins s1 σ H1 _ I1 q1
  rw [hs] at hA ⊢
  refine Calls.callWith_builtin (by show (false || (backTo cpos (starEach es X.env)).any (·.1)) = false; rw [hplain] <;> rfl) (Calls.evalArgs_plain ?_)
  exact thn hA fun us s2 ⟨vs, H2, I2, r2, q2⟩ => hm pins s2 σ H2 x vs v us Q I2 r1 r2 q2
/- xs.append(e), list.index on a module's tuple .. are MtR facts of 06m -/
end
end L2

namespace L2
open PySem PySem.Spec PyProof.Rows

def MtM (X : Cx) (id : String) (r : V → List V → Hp → VK → Prop) : Prop :=
  ∀ (pins : List (Addr × Obj)) (s : Shared) (σ : St) (H : Hp) (x : V) (xs : List V) (v : Value) (us : List Value) (Q : VK), Inv X pins σ H s → RelV x v → Vals xs us → r x xs H Q →
    wpAny (model X.prog X.w) X.A (call (.builtin id) (v :: us)) (EP X pins σ Q) X.xe s

/-! ### lists of values -/
theorem Vals.one {x : V} {us : List Value} (h : Vals [x] us) : ∃ u, us = [u] ∧ RelV x u := by
  cases h with
  | cons r t => cases t; exact ⟨_, rfl, r⟩
section
variable {X : Cx} {pins : List (Addr × Obj)} {σ : St} {H : Hp} {s : Shared} {l b : Addr} {xs ys zs : List V}

/-! ### the two steps: a tracked list is rewritten, a new list is laid -/
theorem Inv.lset {its its' : List Value} {n : Nat} {f : Array Value → Array Value} {t' : Nat} (I : Inv X pins σ H s) (hH : H l = some (.lst xs))
    (e : s.heap.get? l = some { cls := .type "list", data := .seq its.toArray n }) (hf : f its.toArray = its'.toArray) (hv : Vals ys its') (hz : ys.length ≤ sizeLine) :
    Inv X pins σ (upd H l (.lst ys)) { s with heap := s.heap.update l (Obj.mapSeq f), toks := t' } := by
  have q := PySem.IsL.update e f
  rw [hf] at q
  refine I.write (x := l) (e := l) (by rw [hH]; exact trivial) (.inl rfl) (fun b' u hb hu => (Heap.get?_update_other s.heap (Obj.mapSeq f) (Ne.symm hb)).trans hu) ⟨_, q⟩ ?_
  exact ⟨hz, its', _, hv, q⟩
theorem Inv.lnew {its : List Value} {t' : Nat} (I : Inv X pins σ H s) (hv : Vals ys its) (hz : ys.length ≤ sizeLine) :
    Inv X pins σ (upd H s.heap.objs.size (.lst ys)) { s with heap := s.heap.push { cls := .type "list", data := .seq its.toArray }, toks := t' } :=
  I.laid (fun _ _ q => Heap.get?_push_of_some _ q) (Nat.le_refl _) ⟨hz, its, 0, hv, Heap.get?_push_size _ rfl⟩
theorem Inv.fresh (I : Inv X pins σ H s) : H s.heap.objs.size = none := I.hok.fresh (Nat.le_refl _)
theorem Inv.lstM (I : Inv X pins σ H s) (hH : H l = some (.lst xs)) : xs.length ≤ sizeLine ∧ ∃ (its : List Value) (n : Nat), Vals xs its ∧ xs.length = its.length ∧ s.heap.get? l = some { cls := .type "list", data := .seq its.toArray n } := by
  obtain ⟨z, its, n, r, e⟩ := I.hok l _ hH
  exact ⟨z, its, n, r, r.length, e⟩

end

section
variable {X : Cx}

/-! ### methods -/
inductive rAppend (x : V) (vs : List V) (H : Hp) (Q : VK) : Prop
  | mk (l : _) (xs : _) (y : _) (h1 : x = .ref l) (h2 : vs = [y]) (h3 : H l = some (.lst xs)) (h4 : xs.length < sizeLine) (h5 : Q .non (upd H l (.lst (xs ++ [y])))) : rAppend x vs H Q
theorem mt_append : MtM X "list.append" rAppend := by
  intro pins s σ H x vs v us Q I rx rv h
  obtain ⟨l, xs, y, rfl, rfl, hH, hz, q⟩ := h
  cases rx
  obtain ⟨u, rfl, ru⟩ := rv.one
  obtain ⟨z, its, n, r, hl, e⟩ := I.lstM hH
  refine call_meets F.slot_list_append ⟨_, e, rfl⟩ F.entry_list_append (F.args_list_append_2 _ _) (PySem.list_append l its.toArray n u (by rw [List.size_toArray]; lia)) ⟨e, ?_⟩
  refine ⟨.non, _, I.lset (its' := its ++ [u]) hH e (by simp) (r.append (.cons ru .nil)) ?_, rfl, q⟩
  rw [List.length_append, List.length_singleton]
  lia

/-! ### list + list, list += list, list * int -/
inductive rCat (x : V) (y : V) (H : Hp) (Q : VK) : Prop
  | mk (l : _) (b : _) (xs : _) (zs : _) (h1 : x = .ref l) (h2 : y = .ref b) (h3 : H l = some (.lst xs)) (h4 : H b = some (.lst zs)) (h5 : xs.length + zs.length ≤ sizeLine) (h6 : ∀ p, H p = none → Q (.ref p) (upd H p (.lst (xs ++ zs)))) : rCat x y H Q
theorem op_cat : OpR X (binaryOp .Add) rCat := by
  intro pins s σ H x y v u Q I rx ry h
  obtain ⟨l, b, xs, zs, rfl, rfl, hH, hB, hz, q⟩ := h
  cases rx
  cases ry
  obtain ⟨z, its, n, r, hl, e⟩ := I.lstM hH
  obtain ⟨z2, its2, n2, r2, hl2, e2⟩ := I.lstM hB
  refine PySem.P.add_list e e2 ?_ (by rw [List.size_toArray, List.size_toArray]; lia)
  have ea : its.toArray ++ its2.toArray = (its ++ its2).toArray := by simp
  rw [ea]
  exact ⟨.ref _, _, I.lnew (t' := s.toks) (r.append r2) (by rw [List.length_append]; lia), rfl, q _ I.fresh⟩
/-! ### del xs[i] -/
end

/-! ### xs[a:b] = ys -/
section
variable {prog : Program} {w : World} {A : Around} {E : Value → Shared → Prop} {s : Shared}
set_option maxRecDepth 100000 in
end

section
variable {X : Cx}
end
end L2

namespace Att
open PySem PySem.W PySem.Calls PyProof.Rows

/-! ### the script -/
theorem ints_of_wellAll {P : Params} {h : Heap} : ∀ (ns : List Int) (vs : List Value), WellAll P h vs (ns.map WData.int) → IntsAre vs ns := by
  intro ns
  induction ns with
  | nil =>
    intro vs w
    rw [List.map_nil] at w
    cases w
    exact .nil
  | cons n ns ih =>
    intro vs w
    rw [List.map_cons] at w
    cases w with
    | cons a b =>
      cases a
      exact .cons _ _ (ih _ b)

theorem script_of {l : OpenLaw} {n : Nat} (hn : l.most = some n) {P : Params} {h : Heap} {args : List WData} {vals : List Value}
    (hpre : l.row.toRowW.claim.pre args = true) (hwl : WellAll P h vals args) :
    ∃ a vs ns, vals = [Value.ref a] ∧ args = [WData.list (ns.map WData.int)] ∧ h.get? a = some { cls := .type "list", data := .seq vs.toArray } ∧ IntsAre vs ns ∧ ns.length ≤ n := by
  have hsh : WShape.hasAll [] args [.list .int] = true := (pre_splitW hpre).1
  have hc : l.pre.holds [] { args := args } = true := (pre_splitW hpre).2
  obtain ⟨d, r, rfl, h1, h2⟩ := hasAllW_cons hsh
  obtain rfl := hasAllW_nil h2
  obtain ⟨xs, rfl, h3⟩ := hasW_list h1
  obtain ⟨ns, rfl⟩ := items_int h3
  have hlen : ns.length ≤ n := by
    unfold OpenLaw.pre at hc
    have h4 : (WTm.not (.lt (.lit (.int (n : Int))) (.len (.arg 0)))).holds [] { args := [.list (ns.map .int)] } = true := by
      have h4 := (holds_andW hc).1
      rw [hn] at h4
      exact h4
    have h5 := condW_of h4 (w_not (w_lt w_lit (w_len_list (w_arg rfl))))
    rw [List.length_map] at h5
    refine Nat.le_of_not_lt fun q => ?_
    have q' : (n : Int) < ((ns.length : Nat) : Int) := by lia
    first
      | (rw [decide_eq_true q'] at h5; exact absurd h5 (by decide))
      | (simp at h5; lia)
  cases hwl with
  | cons w1 w2 =>
    cases w2
    cases w1 with
    | list ho hall => exact ⟨_, _, ns, rfl, rfl, ho, ints_of_wellAll ns _ hall, hlen⟩

theorem post_true (l : OpenLaw) (args : List WData) : l.row.toRowW.claim.post args (.bool true) args = true :=
  postW_of (r := l.row.toRowW) (X := (true == true))
    (show WShape.has [] (.bool true) .bool = true by first | rfl | decide | simp [WShape.has, WShape.arms, WShape.armsAll])
    (show (WTm.eq .res (.lit (.bool true))).value [] { args := args, res := some (.bool true), after := args } = some (.bool (true == true)) from w_eq_bool (w_res rfl) w_lit) rfl

/-! ### the attachment: holds_open's last premise (the goal 'hc' behind k_head) from a wpAny of the law's body -/
/-- the same from a codeAny of the CALL (for a layer whose function contracts speak of calls) -/
theorem attach_call {l : OpenLaw} {n : Nat} {q : Program} {loose : List Str} {XP : (Str → Option Value) → Heap → Prop} {YP : World → Heap → Prop} {d : DefRec}
    (hn : l.most = some n) (hdf : d.params.defaults = [])
    (call : ∀ (w : World) (s₀ s₁ : Shared) (mg mb : Str → Option Value) (fa : Addr) (o : Obj) (pm cd doc : Value) (a : Addr) (vs : List Value) (ns : List Int),
      Ground q loose [] XP w s₀ mg mb s₁.heap → YP w s₁.heap →
      s₁.heap.get? fa = some o → o.data = .func (docDef d.name d.params d.body d.scope pm cd doc) → s₁.heap.CodeRec cd d.name → mg d.name = some (.ref fa) →
      s₁.heap.get? a = some { cls := .type "list", data := .seq vs.toArray } → IntsAre vs ns → ns.length ≤ n → s₁.gens = #[] →
      codeAny (model l.prog w) callerA (.call (.ref fa) ⟨[.ref a], []⟩) (fun r s' => r = .ok (.ret (.bool true)) ∧ OldK s₁.heap s'.heap ∧ s'.os = s₁.os ∧ AllBare s'.gens) s₁) :
    WalkO q loose XP YP l.row.toRowW d [] (fun f vs => PySem.call f vs) := by
  intro w s₀ s₁ mg mb G Y fa o pm cd doc dV kV ho hd hcd hD hmg hg args vals as hpre hlay hrd hwl hlo
  obtain rfl : dV = .none := Dflts.none hD hdf
  obtain rfl : kV = .none := Dflts.noKw hD
  obtain ⟨a, vs, ns, rfl, rfl, hobj, hints, hlen⟩ := script_of hn hpre hwl
  refine enter_call (codeAny_mono (call w s₀ s₁ mg mb fa o pm cd doc a vs ns G Y ho (fd_plain hd) hcd hmg hobj hints hlen hg) fun r s' hq => ?_)
  obtain ⟨rfl, h2, h3, h4⟩ := hq
  exact ⟨.inl ⟨.bool true, .bool true, [], rfl, fun _ => rfl, .bool true, post_true l _, fun _ => ⟨List.Pairwise.nil, fun _ hm => (nomatch hm)⟩⟩, h2, h3, h4⟩

/-! ### rules over ANY heap (no ledger) from facts about the written part K: the library's own take a ledger (News) for what they write -/
section
variable {prog : Program} {w : World} {A : Around} {E : Value → Shared → Prop} {s : Shared} {K : Frag}

/-! the whole heap as the ledger: makes every rule that writes through a ledger a rule over any heap -/
def ledger (h : Heap) (L d : Addr) : List (Addr × Obj) := (List.range h.objs.size).filterMap fun a => if a = L ∨ a = d then none else (h.get? a).map fun o => (a, o)
end
end Att

namespace L2
open PySem PySem.Spec PyProof.Rows

theorem vals_ints {vs : List Value} {ns : List Int} (h : IntsAre vs ns) : Vals (ns.map V.int) vs := by
  induction h with
  | nil => exact .nil
  | cons n t h ih => exact .cons ⟨t, rfl⟩ ih

/-- nothing is tracked but the script, known to the object (or it is an object of the module) -/
def Only (H : Hp) : Prop := ∀ b, H b = none ∨ ∃ o xs, H b = some (.frz o (.lst xs))

/-- THE HEAD: the law's promise, at the heap behind the top. F, the promise of the law's def, may use that base is part of the heap (so K.In base, base.Ns mainGlobals mg stand in Mod) -/
theorem law_call {P : Program} {w : World} {K : PySem.W.Frag} {mg mb : Str → Option Value} {CX : CXT} {k : Nat} {fa a : Addr} {fd : FuncData} {x : Str} {sp : Sp} {s₁ : Shared} {vs : List Value} {ns : List Int}
    (KX : K.In s₁.heap) (hns : s₁.heap.Ns mainGlobals mg) (hb : s₁.heap.Ns builtinsNs mb) (hbb : ∀ x : Str, x ≠ "__name__" → mb x = bootBuiltins x) (hlim : s₁.heap.NoLimit) (hsee : s₁.heap.NoSeer) (hg : s₁.gens = #[])
    (ha : s₁.heap.get? a = some { cls := .type "list", data := .seq vs.toArray }) (hi : IntsAre vs ns) (hl : ns.length ≤ sizeLine) (hr : Room k callerA)
    (F : ∀ base : Heap, K.In base → base.Ns mainGlobals mg → FnOk P w K mg base CX k fa fd [x] sp) (hbind : ∀ (s : Shared) (u : Value), BindsTo s fd ⟨[u], []⟩ [(x, u)])
    (hsp : ∀ H : Hp, Only H → SqL K H a (ns.map V.int) → sp [.ref a] H (fun v _ => v = .bl true) fun _ _ _ => False)
    (hCX : ∀ H e s', CX [] H s₁ (fun _ _ _ => False) e s' → False) :
    codeAny (model P w) callerA (.call (.ref fa) ⟨[.ref a], []⟩) (fun r s' => r = .ok (.ret (.bool true)) ∧ OldK s₁.heap s'.heap ∧ s'.os = s₁.os ∧ AllBare s'.gens) s₁ := by
  have rv := vals_ints hi
  have lenV := hi.length
  -- from an abstract heap in which nothing but the script may be tracked
  have core : ∀ H : Hp, Only H → SqL K H a (ns.map V.int) → HOk P w H s₁.heap → (∀ b, H b ≠ none → b = a) → (H a ≠ none → K.lookup a = none) →
      codeAny (model P w) callerA (.call (.ref fa) ⟨[.ref a], []⟩) (fun r s' => r = .ok (.ret (.bool true)) ∧ OldK s₁.heap s'.heap ∧ s'.os = s₁.os ∧ AllBare s'.gens) s₁ := by
    intro H hO hS hok hA hK
    have base_of : ∀ {b : Addr} {o : Obj}, s₁.heap.get? b = some o → H b = none → (hidT s₁.heap H).get? b = some o := fun e n => hidT_get e n
    have noA : ∀ {b : Addr} {o : Obj} {es : Array DictEntry} {ep : Nat}, s₁.heap.get? b = some o → o.data = .dict es ep → H b = none := fun {b o es ep} e d => by
      cases q : H b with
      | none => rfl
      | some u =>
        have e' : b = a := hA b (by rw [q]; simp)
        subst e'
        rw [ha] at e; cases e
        have d' : Data.seq vs.toArray _ = Data.dict es ep := d
        cases d'
    have nsK : ∀ {b : Addr} {m : Str → Option Value}, s₁.heap.Ns b m → (hidT s₁.heap H).Ns b m := fun {b m} ⟨o, es, ep, e, d, r⟩ => ⟨o, es, ep, base_of e (noA e d), d, r⟩
    have hKb : K.In (hidT s₁.heap H) := fun b o e => base_of (KX b o e) (by
      cases q : H b with
      | none => rfl
      | some u =>
        have e' : b = a := hA b (by rw [q]; simp)
        subst e'
        rw [hK (by rw [q]; simp)] at e; cases e)
    have seerK : (hidT s₁.heap H).NoSeer := ⟨let ⟨mc, x, y⟩ := hsee.statics; ⟨mc, nsK x, y⟩, let ⟨mm, x, y⟩ := hsee.mods; ⟨mm, nsK x, y⟩, let ⟨mi, x, y⟩ := hsee.imp; ⟨mi, nsK x, y⟩, by
      obtain ⟨mg', bm, ob, x, y, z, u, v⟩ := hsee.main
      refine ⟨mg', bm, ob, nsK x, y, base_of z ?_, u, v⟩
      cases q : H bm with
      | none => rfl
      | some o =>
        have e' : bm = a := hA bm (by rw [q]; simp)
        subst e'
        rw [ha] at z
        cases z
        have u' : Value.type "list" = Value.type "module" := u
        exact absurd u' (by decide)⟩
    have hM : Mod K mg (hidT s₁.heap H) := ⟨hKb, nsK hns, ⟨mb, nsK hb, hbb⟩, let ⟨mc, h1, h2⟩ := hlim; ⟨mc, nsK h1, h2⟩, seerK⟩
    have e0 : Env0 P w K mg (hidT s₁.heap H) callerA [] s₁ H := ⟨rfl, hM, fun b o e => of_hidT e, Nat.le_of_eq (hidT_size _ _), trivial, fun b hb => absurd (show b ∈ ([] : List Addr) from hb) (by simp), hok, .of_eq hg⟩
    refine codeAny_mono ((F _ hKb (nsK hns)).run callerA [] s₁ H ⟨[.ref a], []⟩ [.ref a] [.ref a] _ _ hr e0 (hbind s₁ (.ref a)) (.cons rfl .nil) (hsp H hO hS)) fun r s' h => ?_
    cases r with
    | error e => exact (hCX H e s' h).elim
    | ok fl =>
      cases fl with
      | next => exact False.elim h
      | brk => exact False.elim h
      | cont => exact False.elim h
      | ret u =>
        obtain ⟨v, H', os, bare, un, hok', r', q⟩ := h
        have q' : v = .bl true := q
        subst q'
        obtain rfl : u = Value.bool true := r'
        refine ⟨rfl, OldK.of_keep fun b o e => ?_, os, bare⟩
        cases q : H b with
        | none => exact un.keep b o e q (by intro z; exact absurd (show b ∈ ([] : List Addr) from z) (by simp)) (by simp)
        | some u =>
          rcases hO b with z | ⟨ob, xs, z⟩
          · rw [q] at z; cases z
          · have z2 := un.frzs b ob _ z
            obtain ⟨e1, _⟩ := hok b _ z
            obtain ⟨e2, _⟩ := hok' b _ z2
            rw [e] at e1; cases e1
            exact e2
  cases hk : K.lookup a with
  | some o =>
    -- the script is one of the module's own objects
    have e := KX a o hk
    rw [ha] at e
    cases e
    refine core (fun _ => none) (fun _ => .inl rfl) (.inr ⟨_, vs.toArray, _, hk, rfl, rfl, rfl, by rw [List.size_toArray, lenV]; exact hl, by simpa using rv⟩) (fun b u z => by have z' : (none : Option HO) = some u := z; cases z') (fun b z => absurd rfl z) fun z => absurd rfl z
  | none =>
    refine core (fun b => if b = a then some (.frz { cls := .type "list", data := .seq vs.toArray } (.lst (ns.map V.int))) else none) (fun b => ?_) (.inl (.inr ⟨{ cls := .type "list", data := .seq vs.toArray }, if_pos rfl⟩)) (fun b u z => ?_) (fun b z => ?_) fun _ => hk
    · by_cases hb : b = a
      · exact .inr ⟨_, _, if_pos hb⟩
      · exact .inl (if_neg hb)
    · by_cases hb : b = a
      · have z' := (if_pos hb).symm.trans z
        cases z'
        subst hb
        exact ⟨ha, by rw [List.length_map]; exact hl, vs, _, rv, ha⟩
      · have z' := (if_neg hb).symm.trans z
        cases z'
    · by_cases hb : b = a
      · exact hb
      · exact absurd (if_neg hb) z
end L2

namespace L2
open PySem PySem.Spec PyProof.Rows

/-- the goal that k_head leaves (case hc), from the law's promise. F gives the function object fd (K's own) once, then the promise over every base -/
theorem walk_of {l : PySem.W.OpenLaw} {n k : Nat} {q : Program} {loose : List Str} {XP : (Str → Option Value) → Heap → Prop} {YP : World → Heap → Prop} {d : DefRec} {K : Params → PySem.W.Frag} {CX : World → CXT} {sp : World → Sp} {x : Str}
    (hI : importsNone q = true) (hn : l.most = some n) (hn2 : n ≤ sizeLine) (hdf : d.params.defaults = []) (hr : Room k callerA)
    (hY : ∀ (w : World) (h : Heap), YP w h → (K w.params).In h)
    (F : ∀ (w : World) (mg : Str → Option Value) (fa : Addr) (h : Heap), (K w.params).In h → h.Ns mainGlobals mg → mg d.name = some (.ref fa) →
      ∃ fd : FuncData, (∀ (s : Shared) (u : Value), BindsTo s fd ⟨[u], []⟩ [(x, u)]) ∧
        ∀ base : Heap, (K w.params).In base → base.Ns mainGlobals mg → FnOk l.prog w (K w.params) mg base (CX w) k fa fd [x] (sp w))
    (hsp : ∀ (w : World) (H : Hp) (a : Addr) (ns : List Int), ns.length ≤ n → Only H → SqL (K w.params) H a (ns.map V.int) → sp w [.ref a] H (fun v _ => v = .bl true) fun _ _ _ => False)
    (hCX : ∀ (w : World) (H : Hp) (s : Shared) (e : Value) (s' : Shared), CX w [] H s (fun _ _ _ => False) e s' → False) :
    PySem.W.WalkO q loose XP YP l.row.toRowW d [] (fun f vs => PySem.call f vs) := by
  refine Att.attach_call hn hdf fun w s₀ s₁ mg mb fa o pm cd doc a vs ns G Y ho hd hcd hmg hobj hints hlen hg => ?_
  have KX := hY w _ Y
  obtain ⟨fd, hb, hF⟩ := F w mg fa _ KX G.T.g hmg
  exact law_call KX G.T.g G.T.b G.T.builtins G.T.nolimit (G.T.seer hI) hg hobj hints (Nat.le_trans hlen hn2) hr hF hb (fun H hO hS => hsp w H a ns hlen hO hS) fun H e s' => hCX w H s₁ e s'
end L2

/-! SHORT WORDS over the layer: a def of the text, its body, what a loop and a test want. -/
namespace L2
open PySem PySem.Spec PyProof.Rows

/-! ### the text by places -/
def defArgs (s : Stmt) : Arguments := match s with
  | .FunctionDef _ a _ _ _ _ _ _ _ _ => a
  | _ => { posonlyargs := [], args := [], vararg := none, kwonlyargs := [], kw_defaults := [], kwarg := none, defaults := [] }
def defBody (s : Stmt) : List Stmt := match s with
  | .FunctionDef _ _ b _ _ _ _ _ _ _ => b
  | _ => []
def defScope (s : Stmt) : Scope := match s with
  | .FunctionDef _ _ _ _ _ _ sc _ _ _ => sc
  | _ => { kind := .function, names := [], isGenerator := false, isCoroutine := false }

/-! ### no exception leaves a def -/
abbrev CX0 : CXT := fun _ _ _ _ _ _ => False
abbrev E0 : XK := fun _ _ _ => False
theorem pass0 {X : Cx} : Passes CX0 X E0 := fun _ _ _ _ _ _ _ h => h.elim

/-! ### a def (or method) of the text as it stands behind the top -/
structure Fun (K : PySem.W.Frag) (x qual : Str) (st : Stmt) (f : Addr) (fd : FuncData) : Prop where
  ex : ∃ (oc : Value) (od : Option Addr) (kV doc pm : Value) (an : Option Addr) (cdv ct : Value) (osl : Array (Option Value)),
    fd = PySem.W.fnOf x qual (defArgs st) (defBody st) (defScope st) .none kV doc pm an cdv ct ∧ K.lookup f = some ⟨oc, od, .func fd, osl⟩ ∧ PySem.W.codeIn K cdv qual = true
  kp : PySem.W.keepIn K (.ref f) = true
section
variable {P : Program} {w : World} {K : PySem.W.Frag} {mg : Str → Option Value} {base : Heap}
/-- THE RULE for a def: its body as a term of rules, and the reading of that term -/
theorem Fun.ok {x qual : Str} {st : Stmt} {f : Addr} {fd : FuncData} {N ps : List Str} {k : Nat} {sp : Sp} (F : Fun K x qual st f fd) (S : FnScope N ps (defScope st)) (len : ∀ vs H Q E, sp vs H Q E → vs.length = ps.length)
    (hbody : ∀ (cdv : Value) (A : Around) (outer : List Env) (s : Shared) (H : Hp) (vs : List V) (Q : VK) (E : XK), Room k (A.deeper (envOfC qual (defScope st) s.heap.objs.size f cdv)) → sp vs H Q E →
      ∃ t, PSs (cxOf CX0 P w K mg base N qual (defScope st) f cdv A outer s H E).nox (defBody st) t ∧ t { nx := fun _ H' => Q .non H', rt := Q } (start N vs) H) : FnOk P w K mg base CX0 (k + 1) f fd ps sp := by
  obtain ⟨oc, od, kV, doc, pm, an, cdv, ct, osl, rfl, lk, hcd⟩ := F.ex
  refine fn_of lk hcd S len fun A outer s H vs Q E hr hsp => ?_
  obtain ⟨t, h, q⟩ := hbody cdv A outer s H vs Q E hr hsp
  exact ⟨t, h.nox, q⟩
/-- how its arguments bind (no defaults): h is «fun _ _ _ _ _ _ us hl => match us, hl with | [_, _], _ => rfl», one _ a parameter -/
theorem Fun.binds {x qual : Str} {st : Stmt} {f : Addr} {fd : FuncData} {ps : List Str} (F : Fun K x qual st f fd)
    (h : ∀ (kV doc pm : Value) (an : Option Addr) (cdv ct : Value) (us : List Value), us.length = ps.length → bindArgs (PySem.W.fnOf x qual (defArgs st) (defBody st) (defScope st) .none kV doc pm an cdv ct) ⟨us, []⟩ = pure (ps.zip us)) : Binds K fd ps [] := by
  obtain ⟨oc, od, kV, doc, pm, an, cdv, ct, osl, rfl, lk, hcd⟩ := F.ex
  exact .all (h kV doc pm an cdv ct)
theorem fun_mk {x qual : Str} {st : Stmt} {f : Addr} {oc : Value} {od an : Option Addr} {osl : Array (Option Value)} {kV doc pm cdv ct : Value} (l : K.lookup f = some ⟨oc, od, .func (PySem.W.fnOf x qual (defArgs st) (defBody st) (defScope st) .none kV doc pm an cdv ct), osl⟩)
    (c : PySem.W.codeIn K cdv qual = true) (k : PySem.W.keepIn K (.ref f) = true) : Fun K x qual st f (PySem.W.fnOf x qual (defArgs st) (defBody st) (defScope st) .none kV doc pm an cdv ct) := ⟨⟨oc, od, kV, doc, pm, an, cdv, ct, osl, rfl, l, c⟩, k⟩
end
theorem small1000 {n : Nat} (h : n ≤ 1000) : n < sizeLine := Nat.lt_of_le_of_lt h (by decide)

/-! ### expressions in short: the name that stands in the i-th slot -/
section
variable {X : Cx}
theorem pv (i : Nat) {x : Str} {pos : Pos} (hN : X.N[i]? = some x := by rfl) (hv : Vis X.env.scope x := by first | exact Or.inl rfl | exact Or.inr (Or.inl rfl) | exact Or.inr (Or.inr rfl)) (hd : (x == ("__debug__" : Str)) = false := by decide)
    (hcd : (x == ("__classdict__" : Str)) = false := by decide) : PE X (.Name x pos) (tVar i) := pe_var hN hv hd hcd
end

/-! ### tests -/
theorem iteF {A B : Prop} (h : B) : if false = true then A else B := by
  rw [if_neg Bool.false_ne_true]
  exact h
theorem iteT {A B : Prop} (h : A) : if true = true then A else B := by
  rw [if_pos rfl]
  exact h
theorem ite2 {c A B : Prop} [Decidable c] (h1 : c → A) (h2 : ¬ c → B) : if c then A else B := by
  by_cases h : c
  · rw [if_pos h]
    exact h1 h
  · rw [if_neg h]
    exact h2 h
/-! ### heaps -/
/-- all that was tracked is as it was -/
def Same (H H' : Hp) : Prop := ∀ b o, H b = some o → H' b = some o
theorem Same.refl (H : Hp) : Same H H := fun _ _ h => h
theorem Same.trans {H H1 H2 : Hp} (a : Same H H1) (b : Same H1 H2) : Same H H2 := fun c o h => b c o (a c o h)
theorem Same.seq {K : PySem.W.Frag} {H H' : Hp} {a : Addr} {xs : List V} (e : Same H H') (h : SqL K H a xs) : SqL K H' a xs := by
  rcases h with (h | ⟨o, h⟩) | h
  · exact .inl (.inl (e _ _ h))
  · exact .inl (.inr ⟨o, e _ _ h⟩)
  · exact .inr h

end L2

namespace L2
open PySem PySem.Spec PyProof.Rows
/-! ### lists of pairs as tables -/
section
variable {κ : Type} [DecidableEq κ]
/-- in its place, or at the end -/
def putK (kvs : List (κ × V)) (k : κ) (v : V) : List (κ × V) :=
  if (kvs.any fun kv => decide (kv.1 = k)) = true then kvs.map (fun kv => if kv.1 = k then (kv.1, v) else kv) else kvs ++ [(k, v)]
theorem length_putK (kvs : List (κ × V)) (k : κ) (v : V) : (putK kvs k v).length ≤ kvs.length + 1 := by
  unfold putK
  split
  · rw [List.length_map]; lia
  · rw [List.length_append, List.length_cons, List.length_nil]; lia
theorem KV.any {kvs : List (κ × V)} {vs : List (κ × Value)} (r : KV kvs vs) (k : κ) : (kvs.any fun kv => decide (kv.1 = k)) = vs.any fun kv => decide (kv.1 = k) := by
  unfold KV at r
  induction r with
  | nil => rfl
  | cons h t ih => rw [List.any_cons, List.any_cons, ih, h.1]
theorem KV.repl {kvs : List (κ × V)} {vs : List (κ × Value)} (r : KV kvs vs) (k : κ) {y : V} {u : Value} (ry : RelV y u) :
    KV (kvs.map fun kv => if kv.1 = k then (kv.1, y) else kv) (vs.map fun kv => if kv.1 = k then (kv.1, u) else kv) := by
  unfold KV at r ⊢
  induction r with
  | nil => exact .nil
  | @cons p q ps qs h t ih =>
    rw [List.map_cons, List.map_cons]
    refine .cons ?_ ih
    obtain ⟨h1, h2⟩ := h
    by_cases e : p.1 = k
    · rw [if_pos e, if_pos (h1.symm.trans e)]; exact ⟨h1, ry⟩
    · rw [if_neg e, if_neg (fun z => e (h1.trans z))]; exact ⟨h1, h2⟩
theorem KV.put {kvs : List (κ × V)} {vs : List (κ × Value)} (r : KV kvs vs) (k : κ) {y : V} {u : Value} (ry : RelV y u) : KV (putK kvs k y) (stored vs k u) := by
  unfold putK stored
  rw [r.any k]
  by_cases e : (vs.any fun kv => decide (kv.1 = k)) = true
  · rw [if_pos e, if_pos e]; exact r.repl k ry
  · rw [if_neg e, if_neg e]; exact Paired.snoc r ⟨rfl, ry⟩
end


/-! ### a tracked dict, its keys ints and texts or tuples of these -/
theorem kV_is {P : Program} {w : World} {k : Key} {u : Value} (r : RelV (kV k) u) : (mixKind P w).is k u = true := by
  cases k with
  | inl i => obtain ⟨t, e⟩ := (show ∃ t, u = Value.int i t from r); subst e; exact mixKind_int P w i t
  | inr x => obtain ⟨t, e⟩ := (show ∃ t, u = Value.str x t from r); subst e; exact mixKind_str P w x t
theorem items_are {P : Program} {w : World} : ∀ {ks : List Key} {us : List Value}, Vals (ks.map kV) us → ItemsAre (mixKind P w) ks us
  | [], _, r => by rw [List.map_nil] at r; cases r; exact .nil
  | k :: ks, _, r => by
    rw [List.map_cons] at r
    cases r with
    | cons h t => exact .cons (kV_is h) (items_are t)

section
variable {P : Program} {w : World} {H : Hp} {h : Heap} {a : Addr}
theorem rd_of {u : HO} (ok : HOk P w H h) (e : Rd H a u) : ObjOk P w H h a u := e.ok ok
theorem dk_rd {kvs : List (Key × V)} (ok : HOk P w H h) (e : Rd H a (.dK kvs)) : kvs.length ≤ sizeLine ∧ (a == sysModules) = false ∧ ∃ vs, KV kvs vs ∧ h.DictOf (mixKind P w) a vs :=
  show ObjOk P w H h a (.dK kvs) from rd_of ok e
theorem dk_of {kvs : List (Key × V)} (ok : HOk P w H h) (e : H a = some (.dK kvs)) : kvs.length ≤ sizeLine ∧ (a == sysModules) = false ∧ ∃ vs, KV kvs vs ∧ h.DictOf (mixKind P w) a vs := dk_rd ok (.inl e)
end

section
variable {X : Cx} {pins : List (Addr × Obj)} {σ : St} {H : Hp} {s : Shared} {a : Addr} {y v : V} {u r : Value} {o : Option V} {A : Around} {E : Value → Shared → Prop}

theorem Inv.big (I : Inv X pins σ H s) : sysModules < s.heap.objs.size := by
  have h : mainGlobals < s.heap.objs.size := (I.mod.glob.keeps I.bk).lt
  exact Nat.lt_trans (by decide) h

/-- a dict's object is replaced -/
theorem d_write {h' : Heap} {t' : Nat} {ob : HO} (I : Inv X pins σ H s) (mu : Mut (H a)) (hs : Heap.SameBut a s.heap h') (he : ∃ q, h'.get? a = some q) (new : ObjOk X.prog X.w (upd H a ob) h' a ob) :
    Inv X pins σ (upd H a ob) { s with heap := h', toks := t' } :=
  I.write (x := a) (e := a) mu (.inl rfl) (fun b q hb z => (hs.2 b hb).trans z) he new
theorem dk_new {P : Program} {w : World} {H' : Hp} {h' : Heap} {kvs : List (Key × V)} {vs : List (Key × Value)} (z : kvs.length ≤ sizeLine) (hd : (a == sysModules) = false) (rel : KV kvs vs) (dd : h'.DictOf (mixKind P w) a vs) :
    ObjOk P w H' h' a (.dK kvs) := ⟨z, hd, vs, rel, dd⟩
end

section
variable {X : Cx} {pins : List (Addr × Obj)} {σ : St} {H : Hp} {s : Shared} {a : Addr} {kvs : List (Key × V)} {k : Key} {u : Value} {A : Around} {E : Value → Shared → Prop}
end


/-! ### readings and rules -/
section
variable {X : Cx} {o i e value : Expr} {pos pos' tpos : Pos} {td ty tv : TE}
end


/-! ### displays -/
theorem dk_empty {P : Program} {w : World} {H : Hp} (h : Heap) (hb : sysModules < h.objs.size) : ObjOk P w H (h.push { cls := .type "dict", data := .dict #[] }) h.objs.size (.dK []) :=
  ⟨Nat.zero_le _, beq_eq_false_iff_ne.mpr (Ne.symm (Nat.ne_of_lt hb)), [], .nil, Heap.DictOf.new h⟩
/-- {}, to be a dict of the kind that is wanted -/
def tDNewK : TE := fun _ H Q => ∀ p, H p = none → Q (.ref p) (upd H p (.dK []))
section
variable {X : Cx} {pos : Pos}
theorem pe_dnewK : PE X (.Dict [] [] pos) tDNewK := fun pins s σ H Q I h =>
  wpAny_Dict_empty ⟨.ref s.heap.objs.size, _, I.laid (a := s.heap.objs.size) (o := .dK []) (t' := s.toks) (fun _ _ q => Heap.get?_push_of_some _ q) (Nat.le_refl _) (dk_empty s.heap I.big), rfl, h _ (I.hok.fresh (Nat.le_refl _))⟩
end

/-- the pairs of a display, from the left -/
def tPairs : List (TE × TE) → St → Hp → (List (V × V) → Hp → Prop) → Prop
  | [], _, H, Q => Q [] H
  | (tk, tv) :: r, σ, H, Q => tk σ H fun x H1 => tv σ H1 fun y H2 => tPairs r σ H2 fun ps H3 => Q ((x, y) :: ps) H3
abbrev VV : List (V × V) → List (Value × Value) → Prop := Paired fun p q => RelV p.1 q.1 ∧ RelV p.2 q.2
def PPs (X : Cx) (pos : Pos) (keys : List (Option Expr)) (values : List Expr) (trs : List (TE × TE)) : Prop :=
  ∀ (pins : List (Addr × Obj)) (s : Shared) (σ : St) (H : Hp) (Q : List (V × V) → Hp → Prop), Inv X pins σ H s → tPairs trs σ H Q →
    wpAny (model X.prog X.w) X.A (evalPairs (pairTrees keys values X.env pos)) (fun vs s' => ∃ ps H', Inv X pins σ H' s' ∧ VV ps vs ∧ Q ps H') X.xe s
theorem pps_nil {X : Cx} {pos : Pos} : PPs X pos [] [] [] := fun pins s σ H Q I h => pairTrees_nil_walk ⟨[], H, I, .nil, h⟩
theorem pps_cons {X : Cx} {pos : Pos} {k v : Expr} {ks : List (Option Expr)} {vs : List Expr} {tk tv : TE} {trs : List (TE × TE)} (hk : PE X k tk) (hv : PE X v tv) (hr : PPs X pos ks vs trs) :
    PPs X pos (some k :: ks) (v :: vs) ((tk, tv) :: trs) := fun pins s σ H Q I h =>
  pairTrees_cons_walk (thn (hk pins s σ H _ I h) fun u s1 ⟨x, H1, I1, rx, q1⟩ => thn (hv pins s1 σ H1 _ I1 q1) fun w2 s2 ⟨y, H2, I2, ry, q2⟩ =>
    thn (hr pins s2 σ H2 _ I2 q2) fun ws s3 ⟨ps, H3, I3, rel, q3⟩ => ⟨(x, y) :: ps, H3, I3, .cons ⟨rx, ry⟩ rel, q3⟩)

def mergeK (kvs more : List (Key × V)) : List (Key × V) := more.foldl (fun acc kv => putK acc kv.1 kv.2) kvs
theorem KV.merge : ∀ {more : List (Key × V)} {rs : List (Key × Value)} {kvs : List (Key × V)} {vs : List (Key × Value)}, KV more rs → KV kvs vs → KV (mergeK kvs more) (merged vs rs) := by
  intro more rs kvs vs r
  unfold KV at r
  induction r generalizing kvs vs with
  | nil => intro q; exact q
  | @cons p q ps qs h t ih =>
    intro r0
    have e : KV (putK kvs p.1 p.2) (stored vs q.1 q.2) := by
      have := r0.put p.1 h.2
      rw [← h.1]; exact this
    exact ih e
theorem length_mergeK : ∀ (more kvs : List (Key × V)), (mergeK kvs more).length ≤ kvs.length + more.length
  | [], kvs => by show kvs.length ≤ kvs.length + 0; lia
  | p :: r, kvs => by
    have h1 := length_mergeK r (putK kvs p.1 p.2)
    have h2 := length_putK kvs p.1 p.2
    show (mergeK (putK kvs p.1 p.2) r).length ≤ _
    rw [List.length_cons]; lia
theorem carries_of {P : Program} {w : World} : ∀ {kvs : List (Key × V)} {ws : List (Value × Value)}, VV (kvs.map fun kv => (kV kv.1, kv.2)) ws → ∃ rs, Carries (mixKind P w) ws rs ∧ KV kvs rs
  | [], _, r => by rw [List.map_nil] at r; cases r; exact ⟨[], True.intro, .nil⟩
  | p :: kvs, _, r => by
    rw [List.map_cons] at r
    cases r with
    | @cons a b as bs h t =>
      obtain ⟨rs, c, q⟩ := carries_of (P := P) (w := w) t
      obtain ⟨b1, b2⟩ := b
      exact ⟨(p.1, b2) :: rs, ⟨kV_is h.1, rfl, c⟩, .cons ⟨rfl, h.2⟩ q⟩
/-- {k: v, ..} with keys ints and texts; the new dict stands empty while the pairs are made -/
def tDisp (trs : List (TE × TE)) : TE := fun σ H Q => ∀ p, H p = none → tPairs trs σ (upd H p (.dK [])) fun ps H2 => H2 p = some (.dK []) ∧ ∃ kvs : List (Key × V), ps = kvs.map (fun kv => (kV kv.1, kv.2)) ∧ kvs.length ≤ 15 ∧ Q (.ref p) (upd H2 p (.dK (mergeK [] kvs)))
theorem pe_disp {X : Cx} {pos : Pos} {keys : List (Option Expr)} {values : List Expr} {trs : List (TE × TE)} (h : PPs X pos keys values trs) (hall : keys.all (·.isSome) = true) (hl : keys.length = values.length) (h0 : keys ≠ [])
    (h15 : keys.length ≤ 15) : PE X (.Dict keys values pos) (tDisp trs) := by
  intro pins s σ H Q I q
  have hn := I.hok.fresh (Nat.le_refl s.heap.objs.size)
  have I1 := I.laid (a := s.heap.objs.size) (o := .dK []) (h' := s.heap.push { cls := .type "dict", data := .dict #[] }) (t' := s.toks) (fun _ _ q => Heap.get?_push_of_some _ q) (Nat.le_refl _) (dk_empty s.heap I.big)
  refine wpAny_Dict_walk (knd := mixKind X.prog X.w) hall hl h0 h15 (thn (h pins _ σ _ _ I1 (q _ hn)) fun ws s2 ⟨ps, H2, I2, rel, e, kvs, ep, lk, q2⟩ => ?_)
  subst ep
  obtain ⟨rs, c, rk⟩ := carries_of (P := X.prog) (w := X.w) rel
  obtain ⟨z, hd, vs0, r0, dd⟩ := dk_of I2.hok e
  cases r0
  refine ⟨rs, c, dd, fun h' dd' hs => ⟨.ref s.heap.objs.size, _, ?_, rfl, q2⟩⟩
  have hz : (mergeK [] kvs).length ≤ sizeLine := by
    have h1 := length_mergeK kvs []
    rw [List.length_nil] at h1
    rw [sizeLine_eq]; lia
  have he : ∃ q, h'.get? s.heap.objs.size = some q := let ⟨q, _, _, hq, _⟩ := dd'; ⟨q, hq⟩
  exact d_write I2 (by rw [e]; exact True.intro) hs he (dk_new hz hd (rk.merge .nil) dd')


/-! ### methods -/
/-- a method call o.m(e) of a built-in, with one argument: what must be seen of the text -/
structure M1 (X : Cx) (o : Expr) (m : Str) (apos : Pos) (e : Expr) (cpos : Pos) : Prop where
  base : attributeBase o m X.env (eval o X.env) = eval o X.env
  few : ((backTo cpos (starEach [e] X.env)).all (fun x => !x.1) && (backToKw cpos (keywordEach [] X.env)).all (fun x => x.1.isSome)
    && decide (([e] : List Expr).length + ([] : List Keyword).length + (if ([] : List Keyword).isEmpty then 0 else 1) < 30)) = true
  line : (apos.endLine == cpos.line) = true
  trees : backTo cpos (starEach [e] X.env) = [(false, eval e X.env)]
structure M2 (X : Cx) (o : Expr) (m : Str) (apos : Pos) (e f : Expr) (cpos : Pos) : Prop where
  base : attributeBase o m X.env (eval o X.env) = eval o X.env
  few : ((backTo cpos (starEach [e, f] X.env)).all (fun x => !x.1) && (backToKw cpos (keywordEach [] X.env)).all (fun x => x.1.isSome)
    && decide (([e, f] : List Expr).length + ([] : List Keyword).length + (if ([] : List Keyword).isEmpty then 0 else 1) < 30)) = true
  line : (apos.endLine == cpos.line) = true
  trees : backTo cpos (starEach [e, f] X.env) = [(false, eval e X.env), (false, eval f X.env)]

section
variable {X : Cx} {pins : List (Addr × Obj)} {σ : St} {H : Hp} {s : Shared} {a : Addr} {y d : V} {u r : Value} {o : Option V} {A : Around} {E : Value → Shared → Prop}
end

section
variable {X : Cx} {o e f : Expr} {apos cpos : Pos} {td ty tx : TE}
end

/-! ### dict(d): a copy -/
section
variable {X : Cx} {pins : List (Addr × Obj)} {σ : St} {H : Hp} {s : Shared} {a : Addr} {kvs : List (Key × V)} {A : Around} {E : Value → Shared → Prop}
end


section
variable {X : Cx} {pins : List (Addr × Obj)} {σ : St} {H : Hp} {s : Shared} {a : Addr} {y : V} {u : Value} {A : Around} {E : Value → Shared → Prop}
end
end L2


/-! numbers: the mathematics -/
namespace Nm
/-- the measure that both defs divide by -/
def msr (a b : Int) : Int := if b < 0 then -(Int.gcd a b : Int) else (Int.gcd a b : Int)
theorem gcd_pos {a b : Int} (hb : b ≠ 0) : 0 < Int.gcd a b := Nat.pos_of_ne_zero fun h => hb (Int.gcd_eq_zero_iff.mp h).2
theorem msr_ne {a b : Int} (hb : b ≠ 0) : msr a b ≠ 0 := by
  have := gcd_pos (a := a) hb
  unfold msr; split <;> lia
theorem fdiv_neg_dvd {a g : Int} (h : g ∣ a) : a.fdiv (-g) = -(a / g) := by
  obtain ⟨k, rfl⟩ := h
  by_cases hg : g = 0
  · subst hg; simp
  · rw [Int.mul_ediv_cancel_left _ hg, show g * k = -g * -k by rw [Int.neg_mul_neg], Int.mul_fdiv_cancel_left _ (by lia)]
theorem fdiv_dvd {a g : Int} (h : g ∣ a) : a.fdiv g = a / g := by
  obtain ⟨k, rfl⟩ := h
  by_cases hg : g = 0
  · subst hg; simp
  · rw [Int.mul_ediv_cancel_left _ hg, Int.mul_fdiv_cancel_left _ hg]
theorem top_msr {a b : Int} (hb : b ≠ 0) : a.fdiv (msr a b) = (Rat.divInt a b).num := by
  rw [Rat.num_divInt, Int.gcd_comm b a]
  have d : (Int.gcd a b : Int) ∣ a := Int.gcd_dvd_left ..
  unfold msr
  split
  · rename_i h
    rw [fdiv_neg_dvd d, Int.sign_eq_neg_one_of_neg h, Int.neg_mul, Int.one_mul, Int.neg_ediv_of_dvd d]
  · rw [fdiv_dvd d, Int.sign_eq_one_of_pos (by lia), Int.one_mul]
theorem bottom_msr {a b : Int} (hb : b ≠ 0) : b.fdiv (msr a b) = (Rat.divInt a b).den := by
  rw [Rat.den_divInt, if_neg hb, Int.gcd_comm b a]
  have d : (Int.gcd a b : Int) ∣ b := Int.gcd_dvd_right ..
  rw [Int.natCast_ediv]
  unfold msr
  split
  · rename_i h
    rw [fdiv_neg_dvd d, ← Int.neg_ediv_of_dvd d, Int.ofNat_natAbs_of_nonpos (by lia)]
  · rw [fdiv_dvd d, Int.natAbs_of_nonneg (by lia)]
/-- one turn of the search for the common measure -/
theorem gcd_turn (x y : Int) : Int.gcd y (x % y) = Int.gcd x y := by
  have e : x % y + y * (x / y) = x := Int.emod_add_mul_ediv x y
  have h : Int.gcd (x % y + y * (x / y)) y = Int.gcd (x % y) y := Int.gcd_add_mul_left_left ..
  rw [e] at h
  rw [h, Int.gcd_comm]
theorem abs_if (i : Int) : (if i < 0 then -i else i) = (i.natAbs : Int) := by split <;> lia
theorem num_mul (q : Rat) : ((q.num : Int) : Rat) = q * ((q.den : Int) : Rat) := by
  have hd : ((q.den : Nat) : Int) ≠ 0 := by have := q.den_pos; lia
  have h1 : q = (q.num : Rat) / ((q.den : Int) : Rat) := by
    have := Rat.num_divInt_den q
    rw [Rat.divInt_eq_div] at this
    exact this.symm
  have h0 : (((q.den : Int)) : Rat) ≠ 0 := fun z => hd (by exact_mod_cast z)
  conv => rhs; lhs; rw [h1]
  rw [Rat.div_mul_cancel h0]
theorem den_ne (q : Rat) : ((q.den : Nat) : Int) ≠ 0 := by have := q.den_pos; lia
theorem cast_ne {a : Int} (h : a ≠ 0) : (a : Rat) ≠ 0 := fun z => h (by exact_mod_cast z)
theorem div_eq {t b : Int} {q : Rat} (hb : b ≠ 0) (h : (t : Rat) = q * (b : Rat)) : Rat.divInt t b = q := by
  rw [Rat.divInt_eq_div, h, Rat.mul_div_cancel (cast_ne hb)]
theorem plus_eq (p q : Rat) : Rat.divInt (p.num * q.den + q.num * p.den) (p.den * q.den) = p + q :=
  div_eq (Int.mul_ne_zero (den_ne p) (den_ne q)) (by rw [Rat.intCast_add, Rat.intCast_mul, Rat.intCast_mul, Rat.intCast_mul, num_mul p, num_mul q]; grind)
end Nm

/-! curves: the mathematics -/
namespace Cv
/-- the height at x -/
def ev : List Rat → Rat → Rat
  | [], _ => 0
  | q :: r, x => q + x * ev r x
/-- by powers -/
def pw : List Rat → Rat → Rat → Rat
  | [], _, _ => 0
  | q :: r, x, p => q * p + pw r x (p * x)
/-! ### a curve that is nought at more places than it has numbers -/
end Cv

/-! own layer, part 1: a list comprehension -/
namespace L2
open PySem PySem.Spec PyProof.Rows

/-! ### the cells that a comprehension closes over -/
theorem closure_ok {env : Env} : ∀ (names : List (Str × NameKind)) (acc : List (Str × Addr)), (∀ x ∈ names, x.2 = .free → ∃ c, env.cells.lookup x.1 = some c) →
    ∃ cl : List (Str × Addr), (forIn (m := Sem) names acc fun x r => do
        if x.2 == .free then pure (ForInStep.yield ((x.1, ← cellOf env x.1) :: r)) else pure (ForInStep.yield r)) = pure cl ∧
      (∀ p ∈ cl, p ∈ acc ∨ env.cells.lookup p.1 = some p.2) ∧ (∀ p ∈ acc, p ∈ cl) ∧ ∀ x ∈ names, x.2 = .free → ∃ c, (x.1, c) ∈ cl
  | [], acc, _ => ⟨acc, rfl, fun _ h => .inl h, fun _ h => h, fun _ h => nomatch h⟩
  | x :: r, acc, h => by
    by_cases hk : x.2 = .free
    · obtain ⟨c, hc⟩ := h x List.mem_cons_self hk
      obtain ⟨cl, e, h1, h2, h3⟩ := closure_ok r ((x.1, c) :: acc) fun y hy => h y (List.mem_cons_of_mem _ hy)
      refine ⟨cl, ?_, fun p hp => ?_, fun p hp => h2 p (List.mem_cons_of_mem _ hp), fun y hy hf => ?_⟩
      · rw [List.forIn_cons]
        have z : (x.2 == NameKind.free) = true := by rw [hk]; rfl
        have cell : cellOf env x.1 = pure c := by unfold cellOf; rw [hc]
        simp only [z, if_true, cell]
        exact e
      · rcases h1 p hp with q | q
        · rcases List.mem_cons.mp q with rfl | q
          · exact .inr hc
          · exact .inl q
        · exact .inr q
      · rcases List.mem_cons.mp hy with rfl | hy
        · exact ⟨c, h2 _ List.mem_cons_self⟩
        · exact h3 y hy hf
    · obtain ⟨cl, e, h1, h2, h3⟩ := closure_ok r acc fun y hy => h y (List.mem_cons_of_mem _ hy)
      refine ⟨cl, ?_, h1, h2, fun y hy hf => ?_⟩
      · rw [List.forIn_cons]
        have z : (x.2 == NameKind.free) = false := by
          cases e : x.2 <;> first | rfl | exact absurd e hk
        simp only [z, Bool.false_eq_true, if_false]
        exact e
      · rcases List.mem_cons.mp hy with rfl | hy
        · exact absurd hf hk
        · exact h3 y hy hf
theorem lookup_of_mem {x : Str} {c : Addr} : ∀ {cl : List (Str × Addr)}, (x, c) ∈ cl → ∃ c', cl.lookup x = some c'
  | [], h => nomatch h
  | (y, d) :: r, h => by
    by_cases e : x = y
    · subst e; exact ⟨d, by simp⟩
    · rcases List.mem_cons.mp h with q | q
      · cases q; exact absurd rfl e
      · obtain ⟨c', q'⟩ := lookup_of_mem q
        refine ⟨c', ?_⟩
        have : (x == y) = false := by simpa using e
        rw [List.lookup_cons, this]
        exact q'
theorem closureFor_ok {scope : Scope} {env : Env} (h : ∀ x ∈ scope.names, x.2 = .free → ∃ c, env.cells.lookup x.1 = some c) :
    ∃ cl : List (Str × Addr), closureFor scope env = pure cl ∧ (∀ x c, cl.lookup x = some c → env.cells.lookup x = some c) ∧ ∀ x ∈ scope.names, x.2 = .free → ∃ c, cl.lookup x.1 = some c := by
  obtain ⟨cl, e, h1, _, h3⟩ := closure_ok scope.names [] h
  refine ⟨cl, ?_, fun x c q => ?_, fun x hx hf => ?_⟩
  · unfold closureFor
    simp only [bind_pure]
    exact e
  · rcases h1 _ (PySem.mem_of_lookup q) with z | z
    · exact nomatch z
    · exact z
  · obtain ⟨c, hc⟩ := h3 x hx hf
    exact lookup_of_mem hc

/-- what stands in the block's table: a name that was free -/
theorem lookup_relabel_free {env : Env} : ∀ {names : List (Str × NameKind)} {x : Str}, names.lookup x = some .free →
    (names.map fun (n, k) => if (k == NameKind.free && env.scope.kind == .function && env.kindOf n == some .cell) then (n, NameKind.cell) else (n, k)).lookup x = some .cell ∨
    (names.map fun (n, k) => if (k == NameKind.free && env.scope.kind == .function && env.kindOf n == some .cell) then (n, NameKind.cell) else (n, k)).lookup x = some .free
  | [], _, h => by simp at h
  | (n, k) :: r, x, h => by
    have ih := @lookup_relabel_free env r x
    show List.lookup x ((if (k == NameKind.free && env.scope.kind == .function && env.kindOf n == some .cell) = true then (n, NameKind.cell) else (n, k)) :: _) = _ ∨ List.lookup x ((if (k == NameKind.free && env.scope.kind == .function && env.kindOf n == some .cell) = true then (n, NameKind.cell) else (n, k)) :: _) = _
    cases hx : x == n with
    | true =>
      simp only [List.lookup_cons, hx] at h
      cases h
      by_cases hc : (NameKind.free == NameKind.free && env.scope.kind == .function && env.kindOf n == some .cell) = true
      · rw [if_pos hc]; simp [List.lookup_cons, hx]
      · rw [if_neg hc]; simp [List.lookup_cons, hx]
    | false =>
      simp only [List.lookup_cons, hx] at h
      by_cases hc : (k == NameKind.free && env.scope.kind == .function && env.kindOf n == some .cell) = true
      · rw [if_pos hc]; simp only [List.lookup_cons, hx]; exact ih h
      · rw [if_neg hc]; simp only [List.lookup_cons, hx]; exact ih h
/-- a name of the block that has a cell was free -/
theorem relabel_free {env : Env} {x : Str} : ∀ {names : List (Str × NameKind)}, (∀ y ∈ names, y.2 ≠ .cell) →
    ((names.map fun (n, k) => if (k == NameKind.free && env.scope.kind == .function && env.kindOf n == some .cell) then (n, NameKind.cell) else (n, k)).lookup x = some .cell ∨
     (names.map fun (n, k) => if (k == NameKind.free && env.scope.kind == .function && env.kindOf n == some .cell) then (n, NameKind.cell) else (n, k)).lookup x = some .free) → (x, NameKind.free) ∈ names
  | [], _, h => by simp at h
  | (n, k) :: r, hc, h => by
    have ih := @relabel_free env x r fun y hy => hc y (List.mem_cons_of_mem _ hy)
    have hk : k ≠ .cell := hc (n, k) List.mem_cons_self
    change List.lookup x ((if (k == NameKind.free && env.scope.kind == .function && env.kindOf n == some .cell) = true then (n, NameKind.cell) else (n, k)) :: _) = _ ∨ List.lookup x ((if (k == NameKind.free && env.scope.kind == .function && env.kindOf n == some .cell) = true then (n, NameKind.cell) else (n, k)) :: _) = _ at h
    cases hx : x == n with
    | true =>
      have e : x = n := by simpa using hx
      subst e
      by_cases hq : (k == NameKind.free && env.scope.kind == .function && env.kindOf x == some .cell) = true
      · have : k = .free := by
          cases k <;> first | rfl | (simp at hq)
        subst this; exact List.mem_cons_self
      · rw [if_neg hq] at h
        simp only [List.lookup_cons, hx] at h
        rcases h with h | h
        · cases h; exact absurd rfl hk
        · cases h; exact List.mem_cons_self
    | false =>
      refine List.mem_cons_of_mem _ (ih ?_)
      by_cases hq : (k == NameKind.free && env.scope.kind == .function && env.kindOf n == some .cell) = true
      · rw [if_pos hq] at h; simpa only [List.lookup_cons, hx] using h
      · rw [if_neg hq] at h; simpa only [List.lookup_cons, hx] using h

/-! ### the block -/
/-- the context of a comprehension's block: its names are the target's, then those that it closes over -/
def cxComp (X : Cx) (N : List Str) (scope : Scope) (cl : List (Str × Addr)) (C : Addr) (s : Shared) (H : Hp) (fp : List Addr) : Cx :=
  { prog := X.prog, w := X.w, K := X.K, mg := X.mg, base := X.base, A := X.A, N := N, s₀ := s, H₀ := H, env := compEnvC scope cl C X.env, outer := X.stack, stack := X.stack, ex := fp,
    fn := fun _ => false, calm := X.calm, pn := [], xe := fun _ _ => False }
/-- the block's slots: nt for the target, then the outer ones at js -/
def cS (nt : Nat) (js : List Nat) (σ : St) : St := List.replicate nt none ++ js.map fun i => σ.getD i none
abbrev lstO (ys : List Value) : Obj := { cls := .type "list", data := .seq ys.toArray ys.length }

theorem compLoop_any {prog : Program} {w : World} {A : Around} {R : Result → Shared → Prop} {s : Shared} {elt target iter : Expr} {ifs : List Expr} {scope : Scope} {pos : Pos} {it acc : Value} {env : Env} (I : Nat → Shared → Prop)
    (turn : ∀ n s, I n s → wpAny (model prog w) A (pyNext it) (fun r s₁ => match r with
      | none => R (.ok .next) s₁
      | some v => wpAny (model prog w) A (letOwnedTupleGo target it v) (fun _ s₁' => wpAny (model prog w) A (assign target env v) (fun _ s₂ =>
          wpAny (model prog w) A (forIn ifs true fun c r => if r = true then do let ok ← isTrue c env (eval c env); pure (ForInStep.yield ok) else pure (ForInStep.yield r)) (fun ok s₃ =>
            if ok = true then wpAny (model prog w) A (eval elt env) (fun x s₄ =>
              wpAny (model prog w) A (call (.builtin "list.append") [acc, x]) (fun _ s₅ => ∃ m, m < n ∧ I m s₅) (fun _ _ => False) s₄) (fun _ _ => False) s₃
            else ∃ m, m < n ∧ I m s₃) (fun _ _ => False) s₂) (fun _ _ => False) s₁') (fun _ _ => False) s₁) (fun _ _ => False) s)
    (n : Nat) (h : I n s) :
    codeAny (model prog w) A (.compLoop (.ListComp elt [⟨target, iter, ifs, 0⟩] scope pos) 0 it acc env) R s := by
  refine codeAny_loop rfl I (fun n s hI => ?_) n h
  show wpAny _ A ((compTurn (.ListComp elt [⟨target, iter, ifs, 0⟩] scope pos) 0 it acc env).onRaise (fun x => do noteFrame x env; theTreesLotGoes x)) _ _ s
  refine wpAny_noted ?_
  rw [compTurn_list]
  refine wpAny_bind (wpAny_standAt (wpAny_bind (wpAny_mono (turn n s hI) (fun r s₁ h₁ => ?_) fun _ _ h' => h'.elim)))
  cases r with
  | none => exact wpAny_pure h₁
  | some v =>
    refine wpAny_bind (wpAny_mono h₁ (fun _ s₁' h₁' => ?_) fun _ _ h' => h'.elim)
    refine wpAny_bind (wpAny_mono h₁' (fun _ s₂ h₂ => wpAny_bind (wpAny_mono h₂ (fun ok s₃ h₃ => ?_) fun _ _ h' => h'.elim)) fun _ _ h' => h'.elim)
    cases ok with
    | false => exact wpAny_pure ⟨rfl, h₃⟩
    | true =>
      exact wpAny_bind (wpAny_bind (wpAny_mono h₃ (fun x s₄ h₄ => wpAny_bind (wpAny_mono h₄ (fun _ s₅ h₅ => wpAny_pure (wpAny_pure ⟨rfl, h₅⟩)) fun _ _ h' => h'.elim)) fun _ _ h' => h'.elim))

/-- the tests of a clause -/
def PTs (X : Cx) (ifs : List Expr) (t : TT) : Prop :=
  ∀ (pins : List (Addr × Obj)) (s : Shared) (σ : St) (H : Hp) (Q : Bool → Hp → Prop), Inv X pins σ H s → t σ H Q →
    wpAny (model X.prog X.w) X.A (forIn ifs true fun c r => if r = true then do let ok ← isTrue c X.env (eval c X.env); pure (ForInStep.yield ok) else pure (ForInStep.yield r)) (TP X pins σ Q) X.xe s
def tYes : TT := fun _ H Q => Q true H
theorem pts_nil {X : Cx} : PTs X [] tYes := fun _ _ _ H _ I h => wpAny_tests_nil ⟨H, I, h⟩
/-- what a comprehension's n turns are to keep -/
structure LcW (J : It) (n nt : Nat) (js : List Nat) (σ : St) (g : TG) (tc : TT) (te : TE) (Fin : List V → Hp → Prop) (W : Nat → List V → Hp → Prop) : Prop where
  go : ∀ i zs H, i < n → W i zs H → J.go i H ∧ zs.length < sizeLine
  step : ∀ i zs H x H', i < n → W i zs H → J.yld i H x H' → g x (cS nt js σ) H' fun σ2 H2 => tc σ2 H2 fun b H3 => if b = true then te σ2 H3 fun y H4 => W (i + 1) (zs ++ [y]) H4 else W (i + 1) zs H3
  stop : ∀ zs H, W n zs H → J.stop n H ∧ zs.length ≤ sizeLine ∧ Fin zs H
@[irreducible] def tLC (wi : TI) (nt : Nat) (js : List Nat) (g : TG) (tc : TT) (te : TE) : TE := fun σ H Q => wi σ H fun J H1 =>
  ∃ (n : Nat) (W : Nat → List V → Hp → Prop), W 0 [] H1 ∧ LcW J n nt js σ g tc te (fun zs H' => ∀ p, H' p = none → Q (.ref p) (upd H' p (.lst zs))) W

theorem lc_of {wi : TI} {nt : Nat} {js : List Nat} {g : TG} {tc : TT} {te : TE} {σ : St} {H : Hp} {Q : VK}
    (h : wi σ H fun J H1 => ∃ (n : Nat) (W : Nat → List V → Hp → Prop), W 0 [] H1 ∧ LcW J n nt js σ g tc te (fun zs H' => ∀ p, H' p = none → Q (.ref p) (upd H' p (.lst zs))) W) : tLC wi nt js g tc te σ H Q := by
  unfold tLC; exact h
theorem lc_to {wi : TI} {nt : Nat} {js : List Nat} {g : TG} {tc : TT} {te : TE} {σ : St} {H : Hp} {Q : VK} (h : tLC wi nt js g tc te σ H Q) :
    wi σ H fun J H1 => ∃ (n : Nat) (W : Nat → List V → Hp → Prop), W 0 [] H1 ∧ LcW J n nt js σ g tc te (fun zs H' => ∀ p, H' p = none → Q (.ref p) (upd H' p (.lst zs))) W := by
  unfold tLC at h; exact h

/-- what the block's names need -/
structure CompOk (X : Cx) (N : List Str) (nt : Nat) (js : List Nat) (scope : Scope) : Prop where
  kind : scope.kind = .function
  nocell : ∀ y ∈ scope.names, y.2 ≠ .cell
  names : ∀ y ∈ scope.names, y.2 = .local → scope.names.lookup y.1 = some .local
  free : ∀ y ∈ scope.names, y.2 = .free → X.env.kindOf y.1 = some .cell ∨ X.env.kindOf y.1 = some .free
  len : N.length = nt + js.length
  outer : ∀ j i, js[j]? = some i → ∃ x, N[nt + j]? = some x ∧ X.N[i]? = some x ∧ scope.names.lookup x = some .free

/-- .. by looking -/
def compOkB (NX : List Str) (sc : Scope) (N : List Str) (nt : Nat) (js : List Nat) (scope : Scope) : Bool :=
  decide (scope.kind = .function) && scope.names.all (fun y => decide (y.2 ≠ .cell)) && scope.names.all (fun y => decide (y.2 ≠ .local) || decide (scope.names.lookup y.1 = some .local)) &&
  scope.names.all (fun y => decide (y.2 ≠ .free) || (decide (sc.names.lookup y.1 = some .cell) || decide (sc.names.lookup y.1 = some .free))) && decide (N.length = nt + js.length) &&
  (List.range js.length).all fun j => match js[j]?, N[nt + j]? with
    | some i, some x => decide (NX[i]? = some x) && decide (scope.names.lookup x = some .free)
    | _, _ => false
theorem CompOk.look {X : Cx} {NX N : List Str} {sc scope : Scope} {nt : Nat} {js : List Nat} (hN : X.N = NX) (hs : X.env.scope = sc) (h : compOkB NX sc N nt js scope = true) : CompOk X N nt js scope := by
  unfold compOkB at h
  simp only [Bool.and_eq_true, List.all_eq_true, Bool.or_eq_true, decide_eq_true_eq] at h
  obtain ⟨⟨⟨⟨⟨h1, h2⟩, h3⟩, h4⟩, h5⟩, h6⟩ := h
  refine ⟨h1, h2, fun y hy hl => (h3 y hy).resolve_left fun z => z hl, fun y hy hf => ?_, h5, fun j i e => ?_⟩
  · have q := (h4 y hy).resolve_left fun z => z hf
    rw [← hs] at q
    exact q
  · have hj : j < js.length := (List.getElem?_eq_some_iff.mp e).1
    have q := h6 j (List.mem_range.mpr hj)
    rw [e] at q
    cases en : N[nt + j]? with
    | none => rw [en] at q; cases q
    | some x =>
      rw [en] at q
      simp only [Bool.and_eq_true, decide_eq_true_eq] at q
      exact ⟨x, rfl, by rw [hN]; exact q.1, q.2⟩

section
variable {X : Cx} {N : List Str} {nt : Nat} {js : List Nat} {scope : Scope} {cl : List (Str × Addr)}
theorem HOk.track {P : Program} {w : World} {H : Hp} {h : Heap} {a : Addr} {o : HO} (x : HOk P w H h) (hn : H a = none) (new : ObjOk P w (upd H a o) h a o) : HOk P w (upd H a o) h := fun b u e => by
  by_cases hb : b = a
  · subst hb; rw [upd_same] at e; cases e; exact new
  · rw [upd_ne hb] at e
    exact (x b u e).stay (fun c v _ q => q) (fun c q => by rw [upd_ne (ne_of_none q hn)]; exact q) fun c xs q => by rw [upd_ne (ne_of_none q hn)]; exact q

/-- the block's entry -/
theorem inv_comp {pins : List (Addr × Obj)} {σ : St} {H : Hp} {s : Shared} {C D : Addr} {h' : Heap} {tk : Nat} {fp : List Addr} {m : Str → Option Value} (I : Inv X pins σ H s) (ok : CompOk X N nt js scope)
    (hcl : ∀ x c, cl.lookup x = some c → X.env.cells.lookup x = some c) (hcl2 : ∀ x ∈ scope.names, x.2 = .free → ∃ c, cl.lookup x.1 = some c)
    (hf : ∀ b ∈ fp, FpOk X pins H b) (ho : ∀ b ∈ fp, ∃ o, s.heap.get? b = some o ∧ ∀ v, o.data ≠ .cell v)
    (hD : s.heap.objs.size ≤ D) (hC : s.heap.objs.size ≤ C) (hDC : D ≠ C) (k : ∀ b o, s.heap.get? b = some o → h'.get? b = some o) (hn : h'.Ns C m) (hd : h'.get? D = some (lstO [])) :
    Inv (cxComp X N scope cl C s H fp) [(D, lstO [])] (cS nt js σ) H { s with heap := h', toks := tk } := by
  have lt : ∀ b ∈ fp, b < s.heap.objs.size := fun b hb => by obtain ⟨o, e, _⟩ := ho b hb; exact Heap.lt_size e
  have frlt : ∀ b ∈ frs X.stack, b < s.heap.objs.size := fun b hb => by
    obtain ⟨_, o, e, _⟩ := I.stack.mem hb
    exact Heap.lt_size e
  refine ⟨⟨I.ok.mod, ok.kind, I.ok.glob, I.ok.blt, hC, fun x y c h1 h2 => I.ok.inj x y c (hcl x c h1) (hcl y c h2), fun x hx => ?_, fun x c hx => absurd hx Bool.false_ne_true, I.ok.hd, I.ok.frames, .inl rfl, fun b hb => ⟨?_, fun x c e => (hf b hb).2.2.2.2.1 x c (hcl x c e)⟩, I.bs,
      Nat.le_trans I.ok.bsz I.sz, fun b o e hb => ?_, fun b hb hs => ?_, I.stack, I.stkFree⟩, rfl, I.bare, Un.kept k, ⟨m, hn, fun j x v h1 h2 h3 => ?_⟩, fun x c e => ?_, I.hok.fresh hC, fun x c e => I.freeC x c (hcl x c e), fun p hp => ?_, I.hok.kept k, ?_⟩
  · obtain ⟨c, hc⟩ := hcl2 (x, .free) (relabel_free ok.nocell hx) rfl
    exact ⟨c, hc⟩
  · exact Nat.ne_of_lt (Nat.lt_of_lt_of_le (lt b hb) hC)
  · rcases (hf b hb).2.2.2.1 with z | z
    · exact I.ok.noex b o e z
    · exact absurd (Nat.lt_of_lt_of_le (Heap.lt_size e) (Nat.le_trans I.ok.bsz z)) (Nat.lt_irrefl _)
  · rcases List.mem_cons.mp (I.stkSub b hs) with z | z
    · exact (hf b hb).2.1 z
    · exact (hf b hb).2.2.1 z
  · change N[j]? = some x at h1
    unfold cS at h2
    by_cases hj : j < nt
    · rw [List.getElem?_append_left (by simpa using hj), List.getElem?_replicate] at h2
      rw [if_pos hj] at h2; cases h2
    · rw [List.getElem?_append_right (by simpa using Nat.not_lt.mp hj), List.length_replicate, List.getElem?_map] at h2
      cases ei : js[j - nt]? with
      | none => rw [ei] at h2; cases h2
      | some i =>
        rw [ei] at h2
        obtain ⟨y, e1, e2, e3⟩ := ok.outer _ i ei
        rw [show nt + (j - nt) = j by lia, h1] at e1
        cases e1
        have hv : σ[i]? = some (some v) := by
          simp only [Option.map_some, Option.some.injEq] at h2
          rw [List.getD_eq_getElem?_getD] at h2
          cases eσ : σ[i]? with
          | none => rw [eσ] at h2; cases h2
          | some z => rw [eσ] at h2; simp at h2; rw [h2]
        obtain ⟨m₀, _, hl⟩ := I.loc
        have kf := ok.free (x, .free) (PySem.mem_of_lookup e3) rfl
        obtain ⟨u, r, l⟩ := hl i x v e2 hv (kf.elim (fun z => .inr (.inl z)) fun z => .inr (.inr z))
        refine ⟨u, r, .inr ⟨lookup_relabel_free e3, ?_⟩⟩
        rcases l with ⟨kl, _⟩ | ⟨_, c, ec, ⟨oc, hoc, hod⟩⟩
        · rcases kf with z | z <;> (rw [z] at kl; cases kl)
        · obtain ⟨c', hc'⟩ := hcl2 (x, .free) (PySem.mem_of_lookup e3) rfl
          have e' := hcl x c' hc'
          rw [ec] at e'
          cases e'
          exact ⟨c, hc', oc, k _ _ hoc, hod⟩
  · obtain ⟨v, oc, hoc, hod⟩ := I.cell x c (hcl x c e)
    exact ⟨v, oc, k _ _ hoc, hod⟩
  · have e : p = (D, lstO []) := by
      have hp' : p ∈ [(D, lstO [])] := hp
      simpa using hp'
    subst e
    refine ⟨hd, I.hok.fresh hD, hDC, fun hb => absurd (Nat.lt_of_lt_of_le (frlt D hb) hD) (Nat.lt_irrefl _), fun v z => by cases z⟩
  · show (cS nt js σ).length = N.length
    unfold cS
    rw [List.length_append, List.length_replicate, List.length_map, ok.len]
end
end L2

/-! own layer, part 2: a list comprehension runs -/
namespace L2
open PySem PySem.Spec PyProof.Rows

/-- the target's store leaves the other slots -/
def Stays (g : TG) (nt : Nat) : Prop := ∀ x σ H Q, g x σ H Q → g x σ H fun σ2 H2 => (σ2.length = σ.length ∧ σ2.drop nt = σ.drop nt) ∧ Q σ2 H2
theorem stays_name {i nt : Nat} (h : i < nt) : Stays (gName i) nt := fun x σ H Q q => ⟨⟨List.length_set, by
  apply List.ext_getElem?
  intro k
  rw [List.getElem?_drop, List.getElem?_drop, List.getElem?_set_ne (by lia)]⟩, q⟩

section
variable {X : Cx} {N : List Str} {nt : Nat} {js : List Nat} {scope : Scope} {elt iter tg : Expr} {ifs : List Expr} {pos : Pos} {g : TG} {tc : TT} {te : TE} {wi : TI}

theorem cS_weak {σ σ2 : St} (hl : σ2.length = (cS nt js σ).length) (hd : σ2.drop nt = (cS nt js σ).drop nt) : ∀ (i : Nat) v, (cS nt js σ)[i]? = some (some v) → σ2[i]? = some (some v) := fun i v e => by
  by_cases hi : i < nt
  · unfold cS at e
    rw [List.getElem?_append_left (by simpa using hi), List.getElem?_replicate, if_pos hi] at e
    cases e
  · have q : ((cS nt js σ).drop nt)[i - nt]? = some (some v) := by rw [List.getElem?_drop, show nt + (i - nt) = i by lia]; exact e
    rw [← hd, List.getElem?_drop, show nt + (i - nt) = i by lia] at q
    exact q

set_option maxHeartbeats 4000000 in
theorem comp_run {pins : List (Addr × Obj)} {σ : St} {H : Hp} {s₂ : Shared} {cl : List (Str × Addr)} {J : It} {fp : List Addr} {it : Addr} {tn : Nat → Heap → Prop} {E : Value → Shared → Prop} {Fin : List V → Hp → Prop} {W : Nat → List V → Hp → Prop} {nn : Nat}
    {RR : Value → Addr → Result → Shared → Prop} (hcalm : X.calm = true) (ok : CompOk X N nt js scope)
    (hcl : ∀ x c, cl.lookup x = some c → X.env.cells.lookup x = some c) (hcl2 : ∀ x ∈ scope.names, x.2 = .free → ∃ c, cl.lookup x.1 = some c)
    (hg : ∀ cl C s H fp, PG (cxComp X N scope cl C s H fp) tg g) (hk : Stays g nt) (hc : ∀ cl C s H fp, PTs (cxComp X N scope cl C s H fp) ifs tc) (he : ∀ cl C s H fp, PE (cxComp X N scope cl C s H fp) elt te)
    (I : Inv X pins σ H s₂) (T : Turn X.prog X.w X.K tg J fp it tn) (st : tn 0 s₂.heap) (hf : ∀ b ∈ fp, FpOk X pins H b) (w0 : W 0 [] H) (lw : LcW J nn nt js σ g tc te Fin W)
    (hRR : ∀ D C s' H' zs m, Inv X pins σ (upd H' D (.lst zs)) s' → s'.heap.Ns C m → H' D = none → (upd H' D (.lst zs)) C = none → C ≠ X.env.locals → X.s₀.heap.objs.size ≤ C → (∀ x c, X.env.cells.lookup x = some c → c ≠ C) →
      (∀ p ∈ X.pn ++ pins, p.1 ≠ C) → Fin zs H' → RR (.ref D) C (.ok .next) s') :
    wpAny (model X.prog X.w) X.A (newList []) (fun acc s₃ => wpAny (model X.prog X.w) X.A (newFunctionEnv scope X.env.globals cl [] X.env.qual none .none (some X.env)) (fun cenv s₄ =>
      codeAny (model X.prog X.w) X.A (.compStart (.ListComp elt [⟨tg, iter, ifs, 0⟩] scope pos) 0 (.ref it) acc { cenv with scope := relabel scope X.env }) (RR acc cenv.locals) s₄) E s₃) E s₂ := by
  refine wpAny_newObj_type (wpAny_newFunctionEnv ok.nocell (by intro y hy; simp at hy) (fun h₁ hns₁ hsb₁ => ?_) ok.kind)
  dsimp only at hns₁ hsb₁ ⊢
  generalize hH2 : s₂.heap.push { cls := .type "list", dict := none, data := .seq ([] : List Value).toArray } = H2 at hns₁ hsb₁ ⊢
  have hC : H2.objs.size = s₂.heap.objs.size + 1 := by rw [← hH2, Heap.size_push]
  have hDC : s₂.heap.objs.size ≠ H2.objs.size := by rw [hC]; exact Nat.ne_of_lt (Nat.lt_succ_self _)
  have hCle : s₂.heap.objs.size ≤ H2.objs.size := by rw [hC]; exact Nat.le_succ _
  have below : ∀ b, b < s₂.heap.objs.size → b ≠ H2.objs.size ∧ b ≠ s₂.heap.objs.size := fun b hb => ⟨by rw [hC]; exact Nat.ne_of_lt (Nat.lt_succ_of_lt hb), Nat.ne_of_lt hb⟩
  have old : ∀ b o, s₂.heap.get? b = some o → h₁.get? b = some o := fun b o e => hsb₁.extBut b o (below b (Heap.lt_size e)).1 (Heap.get?_push_of_some _ (hH2 ▸ Heap.get?_push_of_some _ e))
  have hacc : h₁.get? s₂.heap.objs.size = some (lstO []) := hsb₁.extBut _ _ hDC (Heap.get?_push_of_some _ (hH2 ▸ Heap.get?_push_size _ rfl))
  have ho := T.obj 0 _ st
  have lt : ∀ b ∈ fp, b < s₂.heap.objs.size := fun b hb => by obtain ⟨o, e, _⟩ := ho b hb; exact Heap.lt_size e
  have loop : ∀ s₃ : Shared, s₃ = { s₂ with heap := h₁, toks := s₂.toks + ([] : List (Str × Value)).length } →
      codeAny (model X.prog X.w) X.A (.compLoop (.ListComp elt [⟨tg, iter, ifs, 0⟩] scope pos) 0 (.ref it) (.ref s₂.heap.objs.size) (compEnvC scope cl H2.objs.size X.env)) (RR (.ref s₂.heap.objs.size) H2.objs.size) s₃ := by
    rintro s₃ rfl
    have I0 : Inv (cxComp X N scope cl H2.objs.size s₂ H fp) [(s₂.heap.objs.size, lstO [])] (cS nt js σ) H { s₂ with heap := h₁, toks := s₂.toks + ([] : List (Str × Value)).length } :=
      inv_comp I ok hcl hcl2 hf ho (Nat.le_refl _) hCle hDC old hns₁ hacc
    have fpy : ∀ {H' : Hp} {ys : List Value}, (∀ b ∈ fp, H' b = none) → ∀ b ∈ fp, FpOk (cxComp X N scope cl H2.objs.size s₂ H fp) [(s₂.heap.objs.size, lstO ys)] H' b := fun {H' ys} hn b hb =>
      ⟨hn b hb, (below b (lt b hb)).1, I0.ok.exfs b hb, .inl hb, (I0.ok.exf b hb).2, fun p hp => by
        have hp' : p ∈ [(s₂.heap.objs.size, lstO ys)] := hp
        have e : p = (s₂.heap.objs.size, lstO ys) := by simpa using hp'
        rw [e]; exact Ne.symm (below b (lt b hb)).2⟩
    refine compLoop_any (fun n s' => ∃ i zs ys H', n = nn - i ∧ i ≤ nn ∧ Inv (cxComp X N scope cl H2.objs.size s₂ H fp) [(s₂.heap.objs.size, lstO ys)] (cS nt js σ) H' s' ∧ Vals zs ys ∧ tn i s'.heap ∧ (∀ b ∈ fp, H' b = none) ∧ W i zs H') ?_ nn
      ⟨0, [], [], H, rfl, Nat.zero_le _, I0, .nil, T.keep 0 _ _ st (fun b _ o e => old b o e), fun b hb => (hf b hb).1, w0⟩
    rintro n s' ⟨i, zs, ys, H', hn0, hile, I', rv, st', fr', w'⟩
    by_cases hlt : i < nn
    case neg =>
      have hie : i = nn := Nat.le_antisymm hile (Nat.not_lt.mp hlt)
      rw [hie] at w' st'
      obtain ⟨stop, zl, fin⟩ := lw.stop zs H' w'
      refine thn (T.done (cxComp X N scope cl H2.objs.size s₂ H fp) rfl rfl rfl hcalm nn _ s' _ H' (fun _ _ => False) I' (fpy fr') st' stop) fun r s4 ⟨hr, I4⟩ => ?_
      subst hr
      have zD := (I4.pin (s₂.heap.objs.size, lstO ys) (List.mem_append_right _ (List.mem_singleton.mpr rfl)))
      have u := I4.base
      have u2 : Un (frs X.stack) fp H (upd H' s₂.heap.objs.size (.lst zs)) s₂.heap s4.heap :=
        ⟨u.keep, u.slot, fun b o q n hx => by rw [upd_ne (Nat.ne_of_lt (Heap.lt_size q))]; exact u.free b o q n hx, u.there, fun b xs q => by rw [upd_ne (ne_of_none (u.tups b xs q) zD.2.1)]; exact u.tups b xs q,
         fun b o xs q => by rw [upd_ne (ne_of_none (u.frzs b o xs q) zD.2.1)]; exact u.frzs b o xs q, fun b ps q => by
           obtain ⟨more, e⟩ := u.tbls b ps q
           exact ⟨more, by rw [upd_ne (ne_of_none e zD.2.1)]; exact e⟩⟩
      have hok2 : HOk X.prog X.w (upd H' s₂.heap.objs.size (.lst zs)) s4.heap := HOk.track I4.hok zD.2.1 ⟨zl, ys, _, rv, zD.1⟩
      have I5 : Inv X pins σ (upd H' s₂.heap.objs.size (.lst zs)) s4 := I.call' I4.os u2 hok2 I4.bare fun b hb => ⟨(hf b hb).2.2.2.1, (hf b hb).2.1, (hf b hb).2.2.2.2.1, (hf b hb).2.2.2.2.2⟩
      obtain ⟨m, hn, _⟩ := I4.loc
      refine hRR _ _ s4 H' zs m I5 hn zD.2.1 ?_ ?_ (Nat.le_trans I.sz hCle) ?_ ?_ fin
      · rw [upd_ne (Ne.symm hDC)]; exact I4.free
      · exact Nat.ne_of_gt (Nat.lt_of_lt_of_le I.lt hCle)
      · intro x c e z
        obtain ⟨v, q⟩ := I.cell x c e
        exact absurd (Nat.lt_of_lt_of_le q.lt (by rw [z]; exact hCle)) (Nat.lt_irrefl _)
      · intro p hp z
        exact absurd (Nat.lt_of_lt_of_le (Heap.lt_size (I.pin p hp).1) (by rw [z]; exact hCle)) (Nat.lt_irrefl _)
    case pos =>
      obtain ⟨go, zl⟩ := lw.go i zs H' hlt w'
      have step := lw.step i zs H'
      refine thn (T.item (cxComp X N scope cl H2.objs.size s₂ H fp) rfl rfl rfl hcalm i _ s' _ H' (fun _ _ => False) I' (fpy fr') st' go) fun r s4 ⟨u, hr, h4⟩ => ?_
      subst hr
      refine thn h4 fun _ s5 ⟨x, H5, I5, r5, y5, st5, fr5⟩ => ?_
      have I5' := I5.pinned (fpy fr5) (T.obj _ _ st5)
      refine thn (hg cl _ s₂ H fp _ s5 _ H5 x u _ I5' r5 (hk _ _ _ _ (step x H5 hlt w' y5))) fun _ s6 ⟨σ6, H6, I6, ⟨hl6, hd6⟩, q6⟩ => ?_
      refine thn (hc cl _ s₂ H fp _ s6 σ6 H6 _ I6 q6) fun okb s7 ⟨H7, I7, q7⟩ => ?_
      have frs' : ∀ {H8 : Hp} {σ8 : St} {s8 : Shared}, Inv (cxComp X N scope cl H2.objs.size s₂ H fp) ([(s₂.heap.objs.size, lstO ys)] ++ pinsAt fp s5.heap) σ8 H8 s8 → tn (i + 1) s8.heap ∧ ∀ b ∈ fp, H8 b = none := fun {H8 σ8 s8} I8 =>
        ⟨T.keep _ _ _ st5 fun b hb o e => (I8.pin (b, o) (List.mem_append_right _ (List.mem_append_right _ (mem_pinsAt hb e)))).1, fun b hb => by
          obtain ⟨o, e, d⟩ := T.obj _ _ st5 b hb
          exact (I8.pin (b, o) (List.mem_append_right _ (List.mem_append_right _ (mem_pinsAt hb e)))).2.1⟩
      cases okb with
      | false =>
        rw [if_neg Bool.false_ne_true] at q7 ⊢
        obtain ⟨a1, a2⟩ := frs' I7
        exact ⟨nn - (i + 1), by rw [hn0]; exact Nat.sub_lt_sub_left hlt (Nat.lt_succ_self i), i + 1, zs, ys, H7, rfl, hlt, I7.unpinned.weak (by rw [hl6]) (cS_weak hl6 hd6), rv, a1, a2, q7⟩
      | true =>
        rw [if_pos rfl] at q7 ⊢
        refine thn (he cl _ s₂ H fp _ s7 σ6 H7 _ I7 q7) fun v s8 ⟨y, H8, I8, r8, q8⟩ => ?_
        have zD := (I8.pin (s₂.heap.objs.size, lstO ys) (List.mem_append_right _ (List.mem_append_left _ (List.mem_singleton.mpr rfl))))
        have ylen : ys.length < sizeLine := by rw [← rv.length]; exact zl
        obtain ⟨a1, a2⟩ := frs' I8
        refine append_at (hsz := by rw [List.size_toArray]; exact Nat.le_of_lt ylen) zD.1 fun h9 hs9 hD9 => ?_
        have I8u : Inv (cxComp X N scope cl H2.objs.size s₂ H fp) [] (cS nt js σ) H8 s8 := (I8.pins_of (pins' := []) fun p hp => nomatch hp).weak (by rw [hl6]) (cS_weak hl6 hd6)
        have I9 : Inv (cxComp X N scope cl H2.objs.size s₂ H fp) [] (cS nt js σ) H8 { s8 with heap := h9 } := I8u.turned (t' := s8.toks) (it := s₂.heap.objs.size) (fun b o hb e => hs9.extBut b o hb e) zD.2.1 hDC (.inr (Nat.le_refl _))
          (fun x c e z => by
            obtain ⟨v, q⟩ := I.cell x c (hcl x c e)
            exact absurd (Nat.lt_of_lt_of_le q.lt (by rw [z]; exact Nat.le_refl _)) (Nat.lt_irrefl _)) (fun p hp => nomatch hp)
        refine ⟨nn - (i + 1), by rw [hn0]; exact Nat.sub_lt_sub_left hlt (Nat.lt_succ_self i), i + 1, zs ++ [y], ys ++ [v], H8, rfl, hlt, I9.pins_of (fun p hp => ?_), rv.snoc r8, T.keep _ _ _ a1 fun b hb o e => hs9.extBut b o (below b (lt b hb)).2 e, a2, q8⟩
        have e : p = (s₂.heap.objs.size, lstO (ys ++ [v])) := by simpa using hp
        subst e
        refine ⟨?_, zD.2.1, hDC, zD.2.2.2.1, fun v z => by cases z⟩
        rw [hD9]
        show some ({ cls := .type "list", data := .seq (ys.toArray.push v) (ys.length + 1) } : Obj) = some { cls := .type "list", data := .seq (ys ++ [v]).toArray (ys ++ [v]).length }
        rw [List.length_append, List.length_singleton, List.push_toArray]
  exact codeAny_compStart_list (loop _ rfl) (T.self _ 0 _ _ _ (T.keep 0 _ _ st (fun b _ o e => old b o e)) (loop _ rfl))

/-- [elt for tg in iter if ..] as a value -/
theorem pe_lc (hcalm : X.calm = true) (ok : CompOk X N nt js scope) (hi : PI X tg iter wi) (hg : ∀ cl C s H fp, PG (cxComp X N scope cl C s H fp) tg g) (hk : Stays g nt) (hc : ∀ cl C s H fp, PTs (cxComp X N scope cl C s H fp) ifs tc)
    (he : ∀ cl C s H fp, PE (cxComp X N scope cl C s H fp) elt te) (hs : ∀ x, foldedSetIterable iter X.env x = pure x := by intro _; rfl) : PE X (.ListComp elt [⟨tg, iter, ifs, 0⟩] scope pos) (tLC wi nt js g tc te) := by
  intro pins s σ H Q I h
  obtain ⟨cl, hclos, hcl, hcl2⟩ := closureFor_ok (scope := scope) (env := X.env) fun x hx hf => I.ok.has x.1 (ok.free x hx hf)
  rw [eval_ListComp]
  refine wpAny_comprehension_free (use := none) rfl hs hclos ok.kind ok.names ?_
  refine thn (hi pins s σ H _ I (lc_to h)) fun v s1 h1 => thn h1 fun itv s2 h2 => ?_
  obtain ⟨it, fp, tn, J, H2, e, I2, T, st2, f2, nn, W, w0, lw⟩ := h2
  subst e
  refine comp_run (RR := fun acc C => compPost (model X.prog X.w) X.A X.xe none (EP X pins σ Q) acc C) hcalm ok hcl hcl2 hg hk hc he I2 T st2 f2 w0 lw ?_
  intro D C s' H' zs m I3 hn hDn hCn hCL hC0 hCc hCp fin
  exact ⟨m, hn, fun h'' hs'' => ⟨.ref D, _, I3.turned (t' := s'.toks) (it := C) (fun b o hb e => hs''.extBut b o hb e) hCn hCL (.inr hC0) hCc hCp, rfl, fin D hDn⟩⟩

/-- name = [..], where the store and the leaving of the block change places -/
theorem ps_lc {i : Nat} {y : Str} {py spos : Pos} (hcalm : X.calm = true) (hN : X.N.Nodup) (hi' : X.N[i]? = some y) (hy : X.env.kindOf y = some .local) (ok : CompOk X N nt js scope) (hi : PI X tg iter wi) (hg : ∀ cl C s H fp, PG (cxComp X N scope cl C s H fp) tg g) (hk : Stays g nt)
    (hc : ∀ cl C s H fp, PTs (cxComp X N scope cl C s H fp) ifs tc) (he : ∀ cl C s H fp, PE (cxComp X N scope cl C s H fp) elt te)
    (hsw : swapsWith (.ListComp elt [⟨tg, iter, ifs, 0⟩] scope pos) (some (.Name y py)) spos.line X.env = pure true) (hs : ∀ x, foldedSetIterable iter X.env x = pure x := by intro _; rfl) :
    PS X (.Assign [.Name y py] (.ListComp elt [⟨tg, iter, ifs, 0⟩] scope pos) spos) (tAsg (tLC wi nt js g tc te) (gName i)) := by
  intro pins s σ H D₀ I h
  obtain ⟨cl, hclos, hcl, hcl2⟩ := closureFor_ok (scope := scope) (env := X.env) fun x hx hf => I.ok.has x.1 (ok.free x hx hf)
  rw [exec_Assign_Name_used _ _ _ _ hsw]
  refine wpAny_bind (wpAny_standAt (wpAny_bind ?_))
  show wpAny _ X.A (do let _ ← comprehension (.ListComp elt [⟨tg, iter, ifs, 0⟩] scope pos) scope X.env _ (newList []) false (eval iter X.env) (some (assign (.Name y py) X.env))) _ _ s
  refine wpAny_bind (wpAny_mono (wpAny_comprehension_free (use := some (assign (.Name y py) X.env)) (Q := fun _ s' => SP X pins D₀ .next s') rfl hs hclos ok.kind ok.names
    (thn (hi pins s σ H _ I (lc_to (show tLC wi nt js g tc te σ H fun x H1 => gName i x σ H1 D₀.nx from h))) fun v s1 h1 => thn h1 fun itv s2 h2 => ?_)) (fun _ s' hq => wpAny_pure (wpAny_pure hq)) fun _ _ e => e)
  obtain ⟨it, fp, tn, J, H2, e, I2, T, st2, f2, nn, W, w0, lw⟩ := h2
  subst e
  refine comp_run (RR := fun acc C => compPost (model X.prog X.w) X.A X.xe (some (assign (.Name y py) X.env)) (fun _ s' => SP X pins D₀ .next s') acc C) hcalm ok hcl hcl2 hg hk hc he I2 T st2 f2 w0 lw ?_
  intro D C s' H' zs m I3 hn hDn hCn hCL hC0 hCc hCp fin
  show wpAny _ X.A (assign (.Name y py) X.env (.ref D)) _ _ _
  refine wpAny_assign_Name (store_ok2 (v := .ref D) I3 hN hi' (.inl hy) rfl (fun s3 I4 hsb => ?_) (.inr hy))
  obtain ⟨a, hsb, ha⟩ := hsb
  have haC : C ≠ a := by
    rcases ha with z | z
    · rw [z]; exact hCL
    · exact Ne.symm (hCc y a z)
  refine ⟨m, hn.sameBut hsb haC, fun h'' hs'' => ?_⟩
  exact ⟨_, _, I4.turned (t' := s3.toks) (it := C) (fun b o hb e => hs''.extBut b o hb e) hCn hCL (.inr hC0) hCc hCp, fin D hDn⟩
end

end L2

/-! own layer, part 3: more operations -/
namespace L2
open PySem PySem.Spec PyProof.Rows

/-! ### sizes: an int of at most n bits -/
def Bd (n : Nat) (x : Int) : Prop := x.natAbs < 2 ^ n
theorem Bd.bits {n : Nat} {x : Int} (h : Bd n x) : Builtin.Int.intBits x ≤ n := PySem.intBits_le_iff.mpr h
/-- a product is small enough -/
def MulOk (i j : Int) : Prop := ∃ m n, Bd m i ∧ Bd n j ∧ m + n ≤ 134217728
theorem MulOk.ok {i j : Int} (h : MulOk i j) : IntMulOk i j := by
  obtain ⟨m, n, h1, h2, h3⟩ := h
  exact PySem.IntMulOk.of_le h1.bits h2.bits h3
section
variable {X : Cx}
/-- // by any number but nought: the frames have room for _pylong, and nobody sees it -/
theorem op_fdivX {k : Nat} (hr : Room k X.A) (hT : X.prog.given.tree = none) (hk : 32 ≤ k := by decide)
    (hst : ∃ (env : Env) (l : List Env), X.stack = env :: l ∧ env.scope.isGenerator = false ∧ env.scope.isCoroutine = false ∧ env.builtins = builtinsNs ∧ env.globals = mainGlobals := by exact ⟨_, _, rfl, rfl, rfl, rfl, rfl⟩) :
    OpR X (binaryOp .FloorDiv) (rI (fun _ j => j ≠ 0) fun i j => .int (i.fdiv j)) := by
  intro pins s σ H x y v u Q I rx ry h
  obtain ⟨i, j, rfl, rfl, hc, q⟩ := h
  obtain ⟨t, rfl⟩ := rx
  obtain ⟨t', rfl⟩ := ry
  obtain ⟨env, l, e1, e2, e3, e4, e5⟩ := hst
  have hd : X.A.depth + Builtin.pylongFrames < recursionLimit := by
    have := hr.dp
    have e : Builtin.pylongFrames ≤ 101 := by decide
    lia
  refine floordiv_int hc ⟨.int (i.fdiv j), H, I.tok _, ⟨_, rfl⟩, q⟩ (.inr (PySem.PylongRoom.of I.nolimit hd (PySem.SeerAt.of (I.ok.mod.seer.keeps I.bk) hT (by rw [I.ok.frames, e1]) e2 e3 e4 e5)))
end

/-! ### a def of the text, as a caller takes it -/
structure Fd (P : Program) (w : World) (K : PySem.W.Frag) (mg : Str → Option Value) (base : Heap) (n : Nat) (x : Str) (ps : List Str) (sp : Sp) : Prop where
  ex : ∃ (f : Addr) (fd : FuncData), FnOk P w K mg base CX0 n f fd ps sp ∧ Binds K fd ps [] ∧ PySem.W.keepIn K (.ref f) = true ∧ mg x = some (.ref f)
theorem pe_fn {X : Cx} {n k : Nat} {x : Str} {ps : List Str} {sp : Sp} {e : Expr} {es : List Expr} {t : TA} {p pos : Pos} (F : Fd X.prog X.w X.K X.mg X.base n x ps sp) (hr : Room k X.A) (hg : Gl X x) (ha : PA X (e :: es) t) (hn : n ≤ k := by decide)
    (hdb : (x == ("__debug__" : Str)) = false := by decide) (he : starEach (e :: es) X.env = (false, eval e X.env) :: starEach es X.env := by rfl) (hpl : (backTo pos (starEach es X.env)).any (·.1) = false := by rfl) :
    PE X (.Call (.Name x p) (e :: es) [] pos) (tCall sp [] E0 t) := by
  obtain ⟨f, fd, F1, F2, F3, F4⟩ := F.ex
  exact pe_call F1 (hr.mono hn) hg F4 F3 F2 .nil pass0 ha hdb he hpl
/-! ### == and != of things with things in them -/
/-- what stands at a value, all the way down -/
inductive Rds (K : PySem.W.Frag) (H : Hp) : V → PyData → Prop where
  | non : Rds K H .non .none
  | bl (b : Bool) : Rds K H (.bl b) (.bool b)
  | int (i : Int) : Rds K H (.int i) (.int i)
  | str (x : Str) : Rds K H (.str x) (.str x)
  | lst {a : Addr} {xs : List V} {ds : List PyData} : SqL K H a xs → xs.length = ds.length → (∀ (i : Nat) x d, xs[i]? = some x → ds[i]? = some d → Rds K H x d) → Rds K H (.ref a) (.list ds)
  | tup {a : Addr} {xs : List V} {ds : List PyData} : SqT K H a xs → xs.length = ds.length → (∀ (i : Nat) x d, xs[i]? = some x → ds[i]? = some d → Rds K H x d) → Rds K H (.ref a) (.tuple ds)
theorem readsAll_of {h : Heap} : ∀ {us : List Value} {xs : List V} {ds : List PyData}, Vals xs us → xs.length = ds.length → (∀ (i : Nat) x d u, xs[i]? = some x → ds[i]? = some d → RelV x u → ∃ as, Reads h u d as) → ∃ as, ReadsAll h us ds as
  | [], _, [], .nil, _, _ => ⟨[], .nil⟩
  | [], _, _ :: _, .nil, hl, _ => by simp at hl
  | _ :: _, _, [], .cons _ _, hl, _ => by simp at hl
  | u :: us, x :: xs, d :: ds, .cons r t, hl, hr => by
    obtain ⟨a1, r1⟩ := hr 0 x d u rfl rfl r
    obtain ⟨a2, r2⟩ := readsAll_of (us := us) (xs := xs) (ds := ds) t (by simpa using hl) fun i x' d' u' e1 e2 q => hr (i + 1) x' d' u' (by simpa using e1) (by simpa using e2) q
    exact ⟨_, .cons r1 r2⟩
theorem reads_of {X : Cx} {pins : List (Addr × Obj)} {σ : St} {H : Hp} {s : Shared} (I : Inv X pins σ H s) {x : V} {d : PyData} (r : Rds X.K H x d) : ∀ {u : Value}, RelV x u → ∃ as, Reads s.heap u d as := by
  induction r with
  | non => intro u ru; cases ru; exact ⟨_, .none⟩
  | bl b => intro u ru; cases ru; exact ⟨_, .bool b⟩
  | int i => intro u ru; obtain ⟨t, rfl⟩ := ru; exact ⟨_, .int i t⟩
  | str z => intro u ru; obtain ⟨t, rfl⟩ := ru; exact ⟨_, .str z t⟩
  | lst q hl _ ih =>
    intro u ru
    cases ru
    obtain ⟨its, rv, ⟨o, n, e, c, _, dd⟩, _⟩ := I.list q
    obtain ⟨as, ra⟩ := readsAll_of rv hl fun i x d u e1 e2 rr => ih i x d e1 e2 rr
    exact ⟨_, .list e c dd (by simpa using ra)⟩
  | tup q hl _ ih =>
    intro u ru
    cases ru
    obtain ⟨its, rv, ⟨o, e, c, n, dd⟩, _⟩ := I.tuple q
    obtain ⟨as, ra⟩ := readsAll_of rv hl fun i x d u e1 e2 rr => ih i x d e1 e2 rr
    exact ⟨_, .tuple e c dd (by simpa using ra)⟩
section
variable {X : Cx}
@[irreducible] def rEqD (K : PySem.W.Frag) (neg : Bool) : R2 := fun x y H Q => ∃ d e, Rds K H x d ∧ Rds K H y e ∧ SeqAt.shaped d = true ∧ SeqAt.shaped e = true ∧ Q (.bl (if neg then !PyData.eqv d e else PyData.eqv d e)) H
theorem eqD_of {K : PySem.W.Frag} {neg : Bool} {x y : V} {H : Hp} {Q : VK} (h : ∃ d e, Rds K H x d ∧ Rds K H y e ∧ SeqAt.shaped d = true ∧ SeqAt.shaped e = true ∧ Q (.bl (if neg then !PyData.eqv d e else PyData.eqv d e)) H) : rEqD K neg x y H Q := by
  unfold rEqD; exact h
theorem op_neD (hu : X.A.units + 64 < cLine) : OpR X (compareOp .NotEq) (rEqD X.K true) := by
  intro pins s σ H x y v u Q I rx ry h
  unfold rEqD at h
  obtain ⟨d, e, r1, r2, h1, h2, q⟩ := h
  obtain ⟨as, q1⟩ := reads_of I r1 rx
  obtain ⟨bs, q2⟩ := reads_of I r2 ry
  exact SeqAt.compareNe_shaped q1 q2 h1 h2 hu ⟨.bl _, H, I, rfl, q⟩
end

/-! ### {} -/
end L2

/-! own layer, part 4: names of built-ins, a small ledger, numbers -/
namespace L2
open PySem PySem.Spec PyProof.Rows
theorem bt_len : bootBuiltins "len" = some (.builtin "len") := by decide +kernel
theorem bt_abs : bootBuiltins "abs" = some (.builtin "abs") := by decide +kernel
theorem bt_isinstance : bootBuiltins "isinstance" = some (.builtin "isinstance") := by decide +kernel
theorem bt_all : bootBuiltins "all" = some (.builtin "all") := by decide +kernel
theorem bt_list : bootBuiltins "list" = some (.type "list") := by decide +kernel
theorem bt_tuple : bootBuiltins "tuple" = some (.type "tuple") := by decide +kernel
theorem bt_int : bootBuiltins "int" = some (.type "int") := by decide +kernel
theorem bt_bool : bootBuiltins "bool" = some (.type "bool") := by decide +kernel
/-! ### a small ledger: what stands where -/
def Fx (H : Hp) (L : List (Addr × HO)) : Prop := ∀ p ∈ L, H p.1 = some p.2
/-- all but a stays as it was; there may be more -/
def Mv (a : Addr) (H H' : Hp) : Prop := ∀ b o, b ≠ a → H b = some o → H' b = some o
theorem Mv.refl (a : Addr) (H : Hp) : Mv a H H := fun _ _ _ h => h
theorem Mv.trans {a : Addr} {H H1 H2 : Hp} (x : Mv a H H1) (y : Mv a H1 H2) : Mv a H H2 := fun b o n h => y b o n (x b o n h)
theorem Mv.new {a p : Addr} {H : Hp} {o : HO} (h : H p = none) : Mv a H (upd H p o) := fun b u _ q => by rw [upd_ne (ne_of_none q h)]; exact q
/-- an item of a list of ints -/
theorem at_ints {ns : List Int} {k : Int} (h0 : 0 ≤ k) (h : k < (ns.length : Int)) : ∃ v : Int, atI (ns.map V.int) k = some (.int v) := by
  have hk : k.toNat < ns.length := by lia
  have ek : k = ((k.toNat : Nat) : Int) := by lia
  have q : atI (ns.map V.int) ((k.toNat : Nat) : Int) = some (.int ns[k.toNat]) := atI_nat (by rw [List.getElem?_map, List.getElem?_eq_getElem hk] <;> rfl)
  rw [← ek] at q
  exact ⟨_, q⟩

/-! ### a number -/
def nT (q : Rat) : HO := .tup [.int q.num, .int q.den]
/-- the pen of the draws -/
def Pen (H : Hp) (a : Addr) : Prop := ∃ c0 c1 c2 : Int, H a = some (.lst [.int c0, .int c1, .int c2])
theorem Pen.same {H : Hp} {a p : Addr} {o : HO} (x : Pen H a) (h : H p = none) : Pen (upd H p o) a := by
  obtain ⟨c0, c1, c2, e⟩ := x
  exact ⟨c0, c1, c2, by rw [upd_ne (ne_of_none e h)]; exact e⟩
theorem Pen.put {H : Hp} {a : Addr} {c0 c1 c2 : Int} : Pen (upd H a (.lst [.int c0, .int c1, .int c2])) a := ⟨c0, c1, c2, upd_same⟩

/-- a product: one factor is small, or both are of known size -/
def MulC (i j : Int) : Prop := (-(2 ^ 64) < i ∧ i < 2 ^ 64) ∨ (-(2 ^ 64) < j ∧ j < 2 ^ 64) ∨ MulOk i j
theorem MulC.ok {i j : Int} (h : MulC i j) : IntMulOk i j := by
  rcases h with ⟨h1, h2⟩ | ⟨h1, h2⟩ | h
  · exact .of_left (intBits_le_64 h1 h2)
  · exact .of_right (intBits_le_64 h1 h2)
  · exact h.ok
theorem op_mulC {X : Cx} : OpR X (binaryOp .Mult) (rI MulC fun i j => .int (i * j)) := opI fun _ _ _ _ _ _ _ hc q => mul_int q hc.ok

/-- a alone has changed -/
def OnlyAt (a : Addr) (H H' : Hp) : Prop := ∀ b, b ≠ a → H' b = H b
theorem OnlyAt.mv {a : Addr} {H H' : Hp} (x : OnlyAt a H H') : Mv a H H' := fun b o n h => by rw [x b n]; exact h
theorem OnlyAt.put {a : Addr} {H : Hp} {o : HO} : OnlyAt a H (upd H a o) := fun b n => upd_ne n
theorem Pen.ne {H : Hp} {a p : Addr} {o : HO} (x : Pen H a) (h : H p = some o) (hd : ∀ c0 c1 c2 : Int, o ≠ .lst [.int c0, .int c1, .int c2]) : p ≠ a := by
  obtain ⟨c0, c1, c2, e⟩ := x
  exact ne_of h e (hd c0 c1 c2)
/-- a pen and what else stands -/
structure Lg (a : Addr) (H : Hp) (L : List (Addr × HO)) : Prop where
  fx : Fx H L
  ne : ∀ x ∈ L, x.1 ≠ a
  pen : Pen H a
theorem nT_ne (q : Rat) : ∀ c0 c1 c2 : Int, nT q ≠ .lst [.int c0, .int c1, .int c2] := fun _ _ _ z => by cases z
/-- an item of a written list of ints -/
theorem at_menu {xs : List Int} {i : Int} (h0 : 0 ≤ i) (h : i < (xs.length : Int)) : ∃ v : Int, atI (xs.map V.int) i = some (.int v) ∧ v ∈ xs := by
  have hk : i.toNat < xs.length := by lia
  have ek : i = ((i.toNat : Nat) : Int) := by lia
  have q : atI (xs.map V.int) ((i.toNat : Nat) : Int) = some (.int xs[i.toNat]) := atI_nat (by rw [List.getElem?_map, List.getElem?_eq_getElem hk] <;> rfl)
  rw [← ek] at q
  exact ⟨_, q, List.getElem_mem hk⟩

/-- a list that stood ahead of the pen stands yet -/
theorem sq_mv {K : PySem.W.Frag} {H H1 : Hp} {a p : Addr} {xs : List V} {o : HO} (hS : SqL K H a xs) (hp : H p = none) (m : Mv p (upd H p o) H1) : SqL K H1 a xs := by
  have st : ∀ u, H a = some u → H1 a = some u := fun u e => by
    have n := ne_of_none e hp
    exact m a u n (by rw [upd_ne n]; exact e)
  rcases hS with (h | ⟨o, h⟩) | h
  · exact .inl (.inl (st _ h))
  · exact .inl (.inr ⟨o, st _ h⟩)
  · exact .inr h
/-- what the promises of the draws' defs say -/
inductive spDraw (vs : List V) (H : Hp) (Q : VK) (E_3 : XK) : Prop
  | mk (a : Addr) (m : Int) (h1 : vs = [.ref a, .int m]) (h2 : Pen H a) (h3 : 1 ≤ m) (h4 : m < 1073741824) (h5 : ∀ (d : Int) (H' : Hp), 0 ≤ d → d < m → OnlyAt a H H' → Pen H' a → Q (.int d) H') : spDraw vs H Q E_3
inductive spPen (K : PySem.W.Frag) (vs : List V) (H : Hp) (Q : VK) (E_3 : XK) : Prop
  | mk (a : Addr) (ns : List Int) (k : Int) (h1 : vs = [.ref a, .int k]) (h2 : SqL K H a (ns.map V.int)) (h3 : ns.length ≤ 63) (h4 : 0 ≤ k) (h5 : k < 2 ^ 62) (h6 : ∀ (p : Addr) (c0 c1 : Int), H p = none → Q (.ref p) (upd H p (.lst [.int c0, .int c1, .int 0]))) : spPen K vs H Q E_3
inductive spLow (vs : List V) (H : Hp) (Q : VK) (E_3 : XK) : Prop
  | mk (t b : Int) (h1 : vs = [.int t, .int b]) (h2 : b ≠ 0) (h3 : ∀ p, H p = none → Q (.ref p) (upd H p (nT (Rat.divInt t b)))) : spLow vs H Q E_3
inductive spGcd (vs : List V) (H : Hp) (Q : VK) (E_3 : XK) : Prop
  | mk (a b : Int) (h1 : vs = [.int a, .int b]) (h2 : Q (.int (Int.gcd a b)) H) : spGcd vs H Q E_3
/-- a drawn number: its top and bottom are of at most n bits -/
inductive spNum (n : Nat) (vs : List V) (H : Hp) (Q : VK) (E_3 : XK) : Prop
  | mk (a : _) (h1 : vs = [.ref a]) (h2 : Pen H a) (h3 : ∀ (q : Rat) (r : Addr) (H' : Hp), Mv a H H' → Pen H' a → H' r = some (nT q) → Bd n q.num → Bd n q.den → Q (.ref r) H') : spNum n vs H Q E_3
inductive spLaw (K : PySem.W.Frag) (vs : List V) (H : Hp) (Q : VK) (E_3 : XK) : Prop
  | mk (a : Addr) (ns : List Int) (h1 : vs = [.ref a]) (h2 : SqL K H a (ns.map V.int)) (h3 : ns.length ≤ 63) (h4 : ∀ H', Q (.bl true) H') : spLaw K vs H Q E_3
/-- the int in slot i, as a measure -/
def mu (i : Nat) (σ : St) : Nat := match σ[i]? with | some (some (.int y)) => y.toNat | _ => 0

theorem Bd.mono {m n : Nat} {x : Int} (h : Bd m x) (hmn : m ≤ n) : Bd n x := Nat.lt_of_lt_of_le h (Nat.pow_le_pow_right (by decide) hmn)
theorem Bd.num {n : Nat} {t b : Int} (h : Bd n t) : Bd n (Rat.divInt t b).num := by
  unfold Bd at *
  by_cases hb : b = 0
  · subst hb; simp; exact Nat.pos_of_ne_zero (by simp)
  · rw [← Nm.top_msr hb]
    exact Nat.lt_of_le_of_lt (PySem.natAbs_fdiv_le t _) h
theorem Bd.den {n : Nat} {t b : Int} (hb : b ≠ 0) (h : Bd n b) : Bd n (Rat.divInt t b).den := by
  unfold Bd at *
  rw [← Nm.bottom_msr hb]
  exact Nat.lt_of_le_of_lt (PySem.natAbs_fdiv_le b _) h
end L2

/-! own layer, part 5: more of what loops walk, all, lists of truths -/
namespace L2
open PySem PySem.Spec PyProof.Rows
/-! ### reversed(a list) -/
section
variable {X : Cx} {tg : Expr}
end
/-! ### all of a list of truths -/
theorem call_allB {X : Cx} (hc : X.calm = true) : CallR X (.builtin "all") (fun xs H Q => ∃ (a : Addr) (bs : List Bool), xs = [.ref a] ∧ SqL X.K H a (bs.map V.bl) ∧ Q (.bl (bs.all id)) H) := by
  intro pins s σ H xs us Q I r h
  obtain ⟨a, bs, rfl, hq, q⟩ := h
  obtain ⟨u, rfl, rfl⟩ := vals1 r
  obtain ⟨its, rv, p, hz⟩ := I.list hq
  have hl := rv.length
  rw [List.length_map] at hl
  have hlt : a < s.heap.objs.size := by obtain ⟨_, e, _⟩ := p.isList; exact Heap.lt_size e
  refine call_all_walk (wpAny_pyIter_list p.isList ?_)
  refine ⟨s.heap.objs.size, [s.heap.objs.size, a], [s.heap.objs.size], its.toArray.size, _, _, fun i => (bs[i]?).getD true, rfl, Walks.list (A := X.A.in1) (I.ok.hd hc) _ a (Nat.ne_of_lt hlt) its.toArray,
    ⟨⟨_, Heap.get?_push_size _ rfl, rfl, rfl⟩, p.isList.push _⟩, fun i v s' Q' E' hP hQ => ?_, fun h' tk hk => ?_⟩
  · have hP' : its[i]? = some v := by simpa using hP
    have hi : i < bs.length := by rw [hl]; exact (List.getElem?_eq_some_iff.mp hP').1
    obtain ⟨u', hu', ru⟩ := rv.get (i := i) (x := .bl bs[i]) (by rw [List.getElem?_map, List.getElem?_eq_getElem hi]; rfl)
    rw [hP'] at hu'
    cases hu'
    cases ru
    dsimp only at hQ
    rw [List.getElem?_eq_getElem hi, Option.getD_some] at hQ
    exact wpAny_truthy_bool hQ
  · have e : ((List.range its.toArray.size).all fun i => (bs[i]?).getD true) = bs.all id := by
      rw [List.size_toArray, ← hl, Bool.eq_iff_iff, List.all_eq_true, List.all_eq_true]
      constructor
      · intro z b hb
        obtain ⟨i, hi, rfl⟩ := List.getElem_of_mem hb
        have := z i (List.mem_range.mpr hi)
        rw [List.getElem?_eq_getElem hi, Option.getD_some] at this
        exact this
      · intro z i hi
        have hi' := List.mem_range.mp hi
        rw [List.getElem?_eq_getElem hi', Option.getD_some]
        exact z _ (List.getElem_mem hi')
    rw [e]
    exact ⟨.bl _, H, I.kept (fun b o e => hk b o (fun hm => by rw [List.mem_singleton.mp hm] at e; exact Nat.lt_irrefl _ (Heap.lt_size e)) (Heap.get?_push_of_some _ e)), rfl, q⟩
end L2

/-! own layer, part 6: numbers and curves on the heap -/
namespace L2
open PySem PySem.Spec PyProof.Rows
theorem SqT.same {K : PySem.W.Frag} {H H' : Hp} {a : Addr} {xs : List V} (h : SqT K H a xs) (e : Same H H') : SqT K H' a xs := by
  rcases h with (h | ⟨o, h⟩) | h
  · exact .inl (.inl (e _ _ h))
  · exact .inl (.inr ⟨o, e _ _ h⟩)
  · exact .inr h
theorem Same.new {H : Hp} {p : Addr} {o : HO} (h : H p = none) : Same H (upd H p o) := fun b u q => by rw [upd_ne (ne_of_none q h)]; exact q
theorem Same.mv {H H' : Hp} {a : Addr} (h : Same H H') : Mv a H H' := fun b o _ q => h b o q

/-! ### pairs of lists -/
theorem Paired.get {α β : Type} {F : α → β → Prop} : ∀ {l₁ : List α} {l₂ : List β} {i : Nat} {a : α}, Paired F l₁ l₂ → l₁[i]? = some a → ∃ b, l₂[i]? = some b ∧ F a b
  | _, _, _, _, .nil, e => by simp at e
  | _, _, 0, _, .cons h _, e => by simp at e; subst e; exact ⟨_, rfl, h⟩
  | _, _, i + 1, _, .cons _ t, e => by
    obtain ⟨b, h1, h2⟩ := Paired.get (i := i) t (by simpa using e)
    exact ⟨b, by simpa using h1, h2⟩
theorem Paired.get' {α β : Type} {F : α → β → Prop} : ∀ {l₁ : List α} {l₂ : List β} {i : Nat} {b : β}, Paired F l₁ l₂ → l₂[i]? = some b → ∃ a, l₁[i]? = some a ∧ F a b
  | _, _, _, _, .nil, e => by simp at e
  | _, _, 0, _, .cons h _, e => by simp at e; subst e; exact ⟨_, rfl, h⟩
  | _, _, i + 1, _, .cons _ t, e => by
    obtain ⟨b, h1, h2⟩ := Paired.get' (i := i) t (by simpa using e)
    exact ⟨b, by simpa using h1, h2⟩
theorem Paired.take {α β : Type} {F : α → β → Prop} : ∀ {l₁ : List α} {l₂ : List β} (n : Nat), Paired F l₁ l₂ → Paired F (l₁.take n) (l₂.take n)
  | _, _, 0, _ => by simp; exact .nil
  | _, _, _ + 1, .nil => .nil
  | _, _, n + 1, .cons h t => .cons h (Paired.take n t)
theorem Paired.append {α β : Type} {F : α → β → Prop} {l₁ l₁' : List α} {l₂ l₂' : List β} (a : Paired F l₁ l₂) (b : Paired F l₁' l₂') : Paired F (l₁ ++ l₁') (l₂ ++ l₂') := by
  induction a with
  | nil => exact b
  | cons h t ih => exact .cons h ih
/-! ### a number, numbers -/
def NumV (K : PySem.W.Frag) (H : Hp) (x : V) (q : Rat) : Prop := ∃ r, x = .ref r ∧ SqT K H r [.int q.num, .int q.den]
abbrev Nums (K : PySem.W.Frag) (H : Hp) : List V → List Rat → Prop := Paired (NumV K H)
theorem NumV.of {K : PySem.W.Frag} {H : Hp} {r : Addr} {q : Rat} (h : H r = some (nT q)) : NumV K H (.ref r) q := ⟨r, rfl, SqT.of h⟩
theorem NumV.same {K : PySem.W.Frag} {H H' : Hp} {x : V} {q : Rat} (h : NumV K H x q) (e : Same H H') : NumV K H' x q := by
  obtain ⟨r, rfl, h⟩ := h
  exact ⟨r, rfl, h.same e⟩
theorem Nums.same {K : PySem.W.Frag} {H H' : Hp} {xs : List V} {qs : List Rat} (h : Nums K H xs qs) (e : Same H H') : Nums K H' xs qs := Paired.mapP h fun _ _ z => z.same e
/-- a pen changes, numbers stay -/
theorem SqT.mv {K : PySem.W.Frag} {H H' : Hp} {a p : Addr} {xs : List V} (h : SqT K H a xs) (pn : Pen H p) (m : Mv p H H') : SqT K H' a xs := by
  obtain ⟨c0, c1, c2, e⟩ := pn
  rcases h with (h | ⟨o, h⟩) | h
  · exact .inl (.inl (m _ _ (ne_of h e (fun z => by cases z)) h))
  · exact .inl (.inr ⟨o, m _ _ (ne_of h e (fun z => by cases z)) h⟩)
  · exact .inr h
theorem NumV.mv {K : PySem.W.Frag} {H H' : Hp} {x : V} {q : Rat} {p : Addr} (h : NumV K H x q) (pn : Pen H p) (m : Mv p H H') : NumV K H' x q := by
  obtain ⟨r, rfl, h⟩ := h
  exact ⟨r, rfl, h.mv pn m⟩
theorem Nums.mv {K : PySem.W.Frag} {H H' : Hp} {xs : List V} {qs : List Rat} {p : Addr} (h : Nums K H xs qs) (pn : Pen H p) (m : Mv p H H') : Nums K H' xs qs := Paired.mapP h fun _ _ z => z.mv pn m
/-- a list is written, numbers stay -/
theorem SqT.put {K : PySem.W.Frag} {H : Hp} {a p : Addr} {xs ys : List V} {o : HO} (h : SqT K H a xs) (hp : H p = some (.lst ys)) : SqT K (upd H p o) a xs := by
  rcases h with (h | ⟨u, h⟩) | h
  · exact .inl (.inl (by rw [upd_ne (ne_of h hp (fun z => by cases z))]; exact h))
  · exact .inl (.inr ⟨u, by rw [upd_ne (ne_of h hp (fun z => by cases z))]; exact h⟩)
  · exact .inr h
theorem NumV.put {K : PySem.W.Frag} {H : Hp} {x : V} {q : Rat} {p : Addr} {ys : List V} {o : HO} (h : NumV K H x q) (hp : H p = some (.lst ys)) : NumV K (upd H p o) x q := by
  obtain ⟨r, rfl, h⟩ := h
  exact ⟨r, rfl, h.put hp⟩
theorem Nums.put {K : PySem.W.Frag} {H : Hp} {xs : List V} {qs : List Rat} {p : Addr} {ys : List V} {o : HO} (h : Nums K H xs qs) (hp : H p = some (.lst ys)) : Nums K (upd H p o) xs qs := Paired.mapP h fun _ _ z => z.put hp
/-- a tuple of numbers; a list of numbers -/
def Crv (K : PySem.W.Frag) (H : Hp) (r : Addr) (qs : List Rat) : Prop := ∃ xs, SqT K H r xs ∧ Nums K H xs qs
theorem Crv.same {K : PySem.W.Frag} {H H' : Hp} {r : Addr} {qs : List Rat} (h : Crv K H r qs) (e : Same H H') : Crv K H' r qs := let ⟨xs, a, b⟩ := h; ⟨xs, a.same e, b.same e⟩
/-! ### == of numbers, of lists and tuples of numbers -/
def nD (q : Rat) : PyData := .tuple [.int q.num, .int q.den]
theorem NumV.rds {K : PySem.W.Frag} {H : Hp} {x : V} {q : Rat} (h : NumV K H x q) : Rds K H x (nD q) := by
  obtain ⟨r, rfl, h⟩ := h
  refine .tup h rfl fun i x d e1 e2 => ?_
  match i with
  | 0 => simp at e1 e2; subst e1; subst e2; exact .int _
  | 1 => simp at e1 e2; subst e1; subst e2; exact .int _
  | i + 2 => simp at e1
theorem nD_eqv (p q : Rat) : PyData.eqv (nD p) (nD q) = decide (p = q) := by
  show (p.num == q.num && (((p.den : Int) == (q.den : Int)) && true)) = _
  rw [Bool.and_true, Bool.eq_iff_iff]
  simp only [Bool.and_eq_true, beq_iff_eq, decide_eq_true_eq]
  constructor
  · rintro ⟨h1, h2⟩
    exact Rat.ext h1 (Int.ofNat.inj h2)
  · rintro rfl
    exact ⟨rfl, rfl⟩
theorem nDs_eqv : ∀ ps qs : List Rat, PyData.eqvAll (ps.map nD) (qs.map nD) = decide (ps = qs)
  | [], [] => rfl
  | [], _ :: _ => rfl
  | _ :: _, [] => rfl
  | p :: ps, q :: qs => by
    show (PyData.eqv (nD p) (nD q) && PyData.eqvAll (ps.map nD) (qs.map nD)) = _
    rw [nD_eqv, nDs_eqv ps qs, Bool.eq_iff_iff]
    simp
theorem nD_shaped (q : Rat) : SeqAt.shaped (nD q) = true := by rfl
theorem Nums.rds {K : PySem.W.Frag} {H : Hp} {xs : List V} {qs : List Rat} (h : Nums K H xs qs) : ∀ (i : Nat) x d, xs[i]? = some x → (qs.map nD)[i]? = some d → Rds K H x d := fun i x d e1 e2 => by
  obtain ⟨q, hq, hn⟩ := Paired.get h e1
  rw [List.getElem?_map, hq] at e2
  cases e2
  exact hn.rds
theorem Nums.rdsT {K : PySem.W.Frag} {H : Hp} {r : Addr} {xs : List V} {qs : List Rat} (h : Nums K H xs qs) (s : SqT K H r xs) : Rds K H (.ref r) (.tuple (qs.map nD)) := .tup s (by rw [h.length, List.length_map]) h.rds
theorem Nums.rdsL {K : PySem.W.Frag} {H : Hp} {r : Addr} {xs : List V} {qs : List Rat} (h : Nums K H xs qs) (s : SqL K H r xs) : Rds K H (.ref r) (.list (qs.map nD)) := .lst s (by rw [h.length, List.length_map]) h.rds
theorem nDs_lay : ∀ qs : List Rat, PyData.canLayAll0 (qs.map nD) = true
  | [] => rfl
  | q :: r => by
    show (PyData.canLay0 (nD q) && PyData.canLayAll0 (r.map nD)) = true
    rw [nDs_lay r]; rfl
theorem nDs_depth : ∀ qs : List Rat, PyData.depthAll (qs.map nD) ≤ 1
  | [] => Nat.zero_le _
  | q :: r => by
    have ih := nDs_depth r
    show max (PyData.depth (nD q)) (PyData.depthAll (r.map nD)) ≤ 1
    exact Nat.max_le.mpr ⟨Nat.le_refl _, ih⟩
theorem nDs_shL (qs : List Rat) : SeqAt.shaped (.list (qs.map nD)) = true := by
  show (PyData.canLayAll0 (qs.map nD) && decide (PyData.depthAll (qs.map nD) + 1 ≤ 64)) = true
  rw [nDs_lay, Bool.true_and]
  exact decide_eq_true (by have := nDs_depth qs; lia)
/-! ### a while, by what holds and a measure -/
/-! ### sizes of numbers -/
def RB (n : Nat) (q : Rat) : Prop := Bd n q.num ∧ Bd n (q.den : Int)
theorem Bd.mul {m n : Nat} {x y : Int} (h1 : Bd m x) (h2 : Bd n y) : Bd (m + n) (x * y) := by
  unfold Bd at *
  rw [Int.natAbs_mul, Nat.pow_add]
  exact Nat.mul_lt_mul'' h1 h2
theorem Bd.add {n : Nat} {x y : Int} (h1 : Bd n x) (h2 : Bd n y) : Bd (n + 1) (x + y) := by
  unfold Bd at *
  rw [Nat.pow_succ, Nat.mul_two]
  exact Nat.lt_of_le_of_lt (Int.natAbs_add_le x y) (Nat.add_lt_add h1 h2)
theorem MulC.bd {m n : Nat} {x y : Int} (h1 : Bd m x) (h2 : Bd n y) (h : m + n ≤ 134217728 := by lia) : MulC x y := .inr (.inr ⟨m, n, h1, h2, h⟩)
theorem RB.mono {m n : Nat} {q : Rat} (h : RB m q) (hmn : m ≤ n) : RB n q := ⟨h.1.mono hmn, h.2.mono hmn⟩
theorem RB.plus {m n : Nat} {p q : Rat} (h1 : RB m p) (h2 : RB n q) : RB (m + n + 1) (p + q) := by
  rw [← Nm.plus_eq]
  refine ⟨Bd.num (Bd.add (h1.1.mul h2.2) ((h2.1.mul h1.2).mono (by lia))), Bd.den (Int.mul_ne_zero (Nm.den_ne p) (Nm.den_ne q)) ((h1.2.mul h2.2).mono (by lia))⟩
theorem RB.one {n : Nat} (h : 1 ≤ n) : RB n 1 := ⟨(show Bd 1 1 by unfold Bd; decide).mono h, (show Bd 1 1 by unfold Bd; decide).mono h⟩
/-- sums, differences, products of two numbers, as the law's own defs and the program's -/
inductive spBin (K : PySem.W.Frag) (g : Rat → Rat → Rat) (vs : List V) (H : Hp) (Q : VK) (E_3 : XK) : Prop
  | mk (x y : V) (p q : Rat) (m n : Nat) (h1 : vs = [x, y]) (h2 : NumV K H x p) (h3 : NumV K H y q) (h4 : RB m p) (h5 : RB n q) (h6 : m + n ≤ 100000000) (h7 : ∀ r, H r = none → Q (.ref r) (upd H r (nT (g p q)))) : spBin K g vs H Q E_3
end L2

/-! own layer, part 7: loops and comprehensions over a list or a tuple -/
namespace L2
open PySem PySem.Spec PyProof.Rows
/-- a list (true) or a tuple (false) -/
def Sq (b : Bool) (K : PySem.W.Frag) (H : Hp) (a : Addr) (xs : List V) : Prop := match b with
  | true => SqL K H a xs
  | false => SqT K H a xs
theorem Sq.same {b : Bool} {K : PySem.W.Frag} {H H' : Hp} {a : Addr} {xs : List V} (h : Sq b K H a xs) (e : Same H H') : Sq b K H' a xs := by
  cases b
  · exact SqT.same h e
  · exact e.seq h
theorem pi_either {X : Cx} {tg l : Expr} {w1 w2 : TI} (h1 : PI X tg l w1) (h2 : PI X tg l w2) : PI X tg l (fun σ H R => w1 σ H R ∨ w2 σ H R) := fun pins s σ H R I h => by
  rcases h with h | h
  · exact h1 pins s σ H R I h
  · exact h2 pins s σ H R I h
abbrev iSeq (K : PySem.W.Frag) (tl : TE) : TI := fun σ H R => iList K tl σ H R ∨ iTup K tl σ H R
/-- [e for x in a list or tuple] -/
theorem lc_seq {K : PySem.W.Frag} {b : Bool} {a : Addr} {n : Nat} {js : List Nat} {xs : List V} {te : TE} {σ : St} {H : Hp} {Q : VK} (hσ : σ[n]? = some (some (.ref a))) (Pv : Nat → List V → Hp → Prop) (h0 : Pv 0 [] H)
    (hl : ∀ i zs H, i ≤ xs.length → Pv i zs H → Sq b K H a xs ∧ zs.length = i) (hz : xs.length ≤ sizeLine)
    (hs : ∀ i x zs H, xs[i]? = some x → Pv i zs H → te ((cS 1 js σ).set 0 (some x)) H fun y H4 => Pv (i + 1) (zs ++ [y]) H4) (fin : ∀ zs H', Pv xs.length zs H' → ∀ p, H' p = none → Q (.ref p) (upd H' p (.lst zs))) :
    tLC (iSeq K (tVar n)) 1 js (gName 0) tYes te σ H Q := by
  have q := (hl 0 [] H (Nat.zero_le _) h0).1
  cases b with
  | true =>
    refine lc_of (.inl ⟨_, hσ, a, rfl, ⟨xs, q⟩, xs.length, Pv, h0, ⟨?_, ?_, ?_⟩⟩)
    · intro i zs H' hi p
      have hle := Nat.le_of_lt hi
      obtain ⟨h1, h2⟩ := hl i zs H' hle p
      exact ⟨⟨xs, xs[i], h1, by simp [hi]⟩, by lia⟩
    · rintro i zs H' x H1 hi p ⟨rfl, y⟩
      have hle := Nat.le_of_lt hi
      have hx := y xs (hl i zs _ hle p).1
      exact hs i x zs _ hx p
    · intro zs H' p
      have hle := Nat.le_refl xs.length
      obtain ⟨h1, h2⟩ := hl _ zs H' hle p
      exact ⟨⟨xs, h1, Nat.le_refl _⟩, by lia, fin zs H' p⟩
  | false =>
    refine lc_of (.inr ⟨_, hσ, a, rfl, ⟨xs, q⟩, xs.length, Pv, h0, ⟨?_, ?_, ?_⟩⟩)
    · intro i zs H' hi p
      have hle := Nat.le_of_lt hi
      obtain ⟨h1, h2⟩ := hl i zs H' hle p
      exact ⟨⟨xs, xs[i], h1, by simp [hi]⟩, by lia⟩
    · rintro i zs H' x H1 hi p ⟨rfl, y⟩
      have hle := Nat.le_of_lt hi
      have hx := y xs (hl i zs _ hle p).1
      exact hs i x zs _ hx p
    · intro zs H' p
      have hle := Nat.le_refl xs.length
      obtain ⟨h1, h2⟩ := hl _ zs H' hle p
      exact ⟨⟨xs, h1, Nat.le_refl _⟩, by lia, fin zs H' p⟩

/-! ### the rules that name the written part, by its name -/
section
variable {X : Cx} (K : PySem.W.Frag)
theorem ixT (e : X.K = K := by rfl) : IxR X (rIxT K) := by subst e; exact ix_tup
theorem ixL (e : X.K = K := by rfl) : IxR X (rIxL K) := by subst e; exact ix_list
theorem neD (hu : X.A.units + 64 < cLine) (e : X.K = K := by rfl) : OpR X (compareOp .NotEq) (rEqD K true) := by subst e; exact op_neD hu
theorem notInS (e : X.K = K := by rfl) : OpR X (compareOp .NotIn) (rIn K true) := by subst e; exact op_notIn_seq
theorem slL (e : X.K = K := by rfl) : SlR X (rSlL K) := by subst e; exact sl_list
/-- the type of a value: a tuple, a list also where it is the module's or known -/
inductive TyX (K : PySem.W.Frag) (H : Hp) : V → Value → Prop where
  | of {x : V} {t : Value} (h : TyOf K H x t) : TyX K H x t
  | tup {a : Addr} {xs : List V} (h : SqT K H a xs) : TyX K H (.ref a) (.type "tuple")
  | lst {a : Addr} {xs : List V} (h : SqL K H a xs) : TyX K H (.ref a) (.type "list")
inductive cIsi (xs : List V) (H : Hp) (Q : VK) : Prop
  | mk (x : _) (T : _) (t : _) (b : _) (h1 : xs = [x, .ty T]) (h2 : TyX K H x t) (h3 : PySem.W.kitOne K t (.type T) = some b) (h4 : Q (.bl b) H) : cIsi xs H Q
theorem isiK (e : X.K = K := by rfl) : CallR X (.builtin "isinstance") (cIsi K) := by
  subst e
  intro pins s σ H xs us Q I r h
  obtain ⟨x, T, t, b, rfl, ty, e, q⟩ := h
  obtain ⟨u, w', rfl, rx, rT⟩ := vals2 r
  cases rT
  cases ty with
  | of ty => exact isinst_ok I rx ty e fun tk => ⟨.bl b, H, I.tok _, rfl, q⟩
  | tup hq =>
    cases rx
    obtain ⟨its, rv, ⟨o, e1, c, _⟩, _⟩ := I.tuple hq
    exact PySem.W.kia_one PySem.W.kitx_tuple I.kIn ⟨o, e1, c⟩ e (fun z => nomatch z) fun tk => ⟨.bl b, H, I.tok _, rfl, q⟩
  | lst hq =>
    cases rx
    obtain ⟨its, rv, ⟨o, n, e1, c, _⟩, _⟩ := I.list hq
    exact PySem.W.kia_one PySem.W.kitx_list I.kIn ⟨o, e1, c⟩ e (fun z => nomatch z) fun tk => ⟨.bl b, H, I.tok _, rfl, q⟩
inductive cLen (xs : List V) (H : Hp) (Q : VK) : Prop
  | mk (p : _) (ys : _) (h1 : xs = [.ref p]) (h2 : (SqL K H p ys ∨ SqT K H p ys)) (h3 : Q (.int ys.length) H) : cLen xs H Q
theorem lenK (e : X.K = K := by rfl) : CallR X (.builtin "len") (cLen K) := by subst e; exact fun pins s σ H xs us Q I r ⟨p, ys, h1, h2, h3⟩ => call_len_seq pins s σ H xs us Q I r ⟨p, ys, h1, h2, h3⟩
inductive cList (xs : List V) (H : Hp) (Q : VK) : Prop
  | mk (p : _) (ys : _) (h1 : xs = [.ref p]) (h2 : (SqL K H p ys ∨ SqT K H p ys)) (h3 : ∀ l, H l = none → Q (.ref l) (upd H l (.lst ys))) : cList xs H Q
theorem listK (e : X.K = K := by rfl) : CallR X (.type "list") (cList K) := by subst e; exact fun pins s σ H xs us Q I r ⟨p, ys, h1, h2, h3⟩ => call_list_of pins s σ H xs us Q I r ⟨p, ys, h1, h2, h3⟩
inductive cTuple (xs : List V) (H : Hp) (Q : VK) : Prop
  | mk (p : _) (ys : _) (h1 : xs = [.ref p]) (h2 : ((SqL K H p ys ∧ ∀ l, H l = none → Q (.ref l) (upd H l (.tup ys))) ∨ (SqT K H p ys ∧ Q (.ref p) H))) : cTuple xs H Q
theorem tupleK (e : X.K = K := by rfl) : CallR X (.type "tuple") (cTuple K) := by subst e; exact fun pins s σ H xs us Q I r ⟨p, ys, h1, h2⟩ => call_tuple_of pins s σ H xs us Q I r ⟨p, ys, h1, h2⟩
inductive cAll (xs : List V) (H : Hp) (Q : VK) : Prop
  | mk (a : Addr) (bs : List Bool) (h1 : xs = [.ref a]) (h2 : SqL K H a (bs.map V.bl)) (h3 : Q (.bl (bs.all id)) H) : cAll xs H Q
theorem allB (hc : X.calm = true) (e : X.K = K := by rfl) : CallR X (.builtin "all") (cAll K) := by subst e; exact fun pins s σ H xs us Q I r ⟨a, bs, h1, h2, h3⟩ => call_allB hc pins s σ H xs us Q I r ⟨a, bs, h1, h2, h3⟩
variable {tg l : Expr} {tl : TE}
theorem piL (hl : PE X l tl) (e : X.K = K := by rfl) : PI X tg l (iList K tl) := by subst e; exact pi_list hl
theorem piT (hl : PE X l tl) (e : X.K = K := by rfl) : PI X tg l (iTup K tl) := by subst e; exact pi_tup hl
theorem piS (hl : PE X l tl) (e : X.K = K := by rfl) : PI X tg l (iSeq K tl) := by subst e; exact pi_either (pi_list hl) (pi_tup hl)
end
end L2

/-! own layer, part 8: what is a whole number, a number, a curve; comprehensions over a range -/
namespace L2
open PySem PySem.Spec PyProof.Rows
inductive Whole (K : PySem.W.Frag) (H : Hp) : V → Bool → Prop where
  | int (i : Int) : Whole K H (.int i) true
  | bl (b : Bool) : Whole K H (.bl b) false
  | oth {x : V} {t : Value} (ty : TyX K H x t) (h : PySem.W.kitOne K t (.type "int") = some false) : Whole K H x false
theorem kit_ii (K : PySem.W.Frag) : PySem.W.kitOne K (.type "int") (.type "int") = some true := by kernel_rfl
theorem kit_ib (K : PySem.W.Frag) : PySem.W.kitOne K (.type "int") (.type "bool") = some false := by kernel_rfl
theorem kit_bi (K : PySem.W.Frag) : PySem.W.kitOne K (.type "bool") (.type "int") = some true := by kernel_rfl
theorem kit_bb (K : PySem.W.Frag) : PySem.W.kitOne K (.type "bool") (.type "bool") = some true := by kernel_rfl
theorem kit_tt (K : PySem.W.Frag) : PySem.W.kitOne K (.type "tuple") (.type "tuple") = some true := by kernel_rfl
theorem kit_it (K : PySem.W.Frag) : PySem.W.kitOne K (.type "int") (.type "tuple") = some false := by kernel_rfl
theorem kit_bt (K : PySem.W.Frag) : PySem.W.kitOne K (.type "bool") (.type "tuple") = some false := by kernel_rfl
theorem kit_nt (K : PySem.W.Frag) : PySem.W.kitOne K (.type "NoneType") (.type "tuple") = some false := by kernel_rfl
theorem kit_st (K : PySem.W.Frag) : PySem.W.kitOne K (.type "str") (.type "tuple") = some false := by kernel_rfl
theorem kit_lt (K : PySem.W.Frag) : PySem.W.kitOne K (.type "list") (.type "tuple") = some false := by kernel_rfl
theorem kit_ni (K : PySem.W.Frag) : PySem.W.kitOne K (.type "NoneType") (.type "int") = some false := by kernel_rfl
theorem kit_si (K : PySem.W.Frag) : PySem.W.kitOne K (.type "str") (.type "int") = some false := by kernel_rfl
theorem kit_ti (K : PySem.W.Frag) : PySem.W.kitOne K (.type "tuple") (.type "int") = some false := by kernel_rfl
theorem lc_itr {lo : Int} {n : Nat} {js : List Nat} {te : TE} {σ : St} {H : Hp} {Fin : List V → Hp → Prop} (Pv : Nat → List V → Hp → Prop) (h0 : Pv 0 [] H) (hl : ∀ i zs H, i ≤ n → Pv i zs H → zs.length = i) (hz : n ≤ sizeLine)
    (hs : ∀ i zs H, i < n → Pv i zs H → te ((cS 1 js σ).set 0 (some (.int (lo + i)))) H fun y H4 => Pv (i + 1) (zs ++ [y]) H4) (fin : ∀ zs H', Pv n zs H' → Fin zs H') :
    ∃ (n' : Nat) (W : Nat → List V → Hp → Prop), W 0 [] H ∧ LcW (Itr lo n) n' 1 js σ (gName 0) tYes te Fin W := by
  refine ⟨n, Pv, h0, ⟨?_, ?_, ?_⟩⟩
  · intro i zs H' hi p
    have := hl i zs H' (Nat.le_of_lt hi) p
    exact ⟨hi, by lia⟩
  · rintro i zs H' x H1 hi p ⟨rfl, rfl⟩
    exact hs i zs _ hi p
  · intro zs H' p
    have := hl n zs H' (Nat.le_refl _) p
    exact ⟨Nat.le_refl _, by lia, fin zs H' p⟩
theorem all_rep (n : Nat) : (List.replicate n true).all id = true := by
  rw [List.all_eq_true]
  intro b hb
  exact (List.mem_replicate.mp hb).2
theorem Pen.sm {H H' : Hp} {p : Addr} (h : Pen H p) (e : Same H H') : Pen H' p := let ⟨c0, c1, c2, z⟩ := h; ⟨c0, c1, c2, e _ _ z⟩
theorem Same.put {H H' : Hp} {p : Addr} {o : HO} (h : Same H H') (hp : H p = none) : Same H (upd H' p o) := fun b u q => by rw [upd_ne (ne_of_none q hp)]; exact h b u q
end L2

/-! own layer, part 9: an exception that leaves a def, raise, and try with one except around a call -/
namespace L2
open PySem PySem.Spec PyProof.Rows
/-- how an exception lies behind a call: it flies over B, and B holds all that is known -/
def CX1 (P : Program) (w : World) : CXT := fun outer H s E e s' => ∃ (ea : Addr) (cls a0 : Value) (B : Heap) (H' : Hp), e = .ref ea ∧ s'.os = s.os ∧ AllBare s'.gens ∧ Un (frs outer) [] H H' s.heap s'.heap ∧ HOk P w H' s'.heap ∧
  Heap.FlyingW B outer ea cls a0 s'.heap ∧ (∀ b o, s.heap.get? b = some o → b ∉ frs outer → ∃ o', B.get? b = some o') ∧ (∀ b u, H' b = some u → ∃ o', B.get? b = some o') ∧ E cls none H'
theorem ObjOk.got {P : Program} {w : World} {H : Hp} {h : Heap} {a : Addr} {o : HO} (x : ObjOk P w H h a o) : ∃ ob, h.get? a = some ob := by
  induction o with
  | lst xs => obtain ⟨_, _, _, _, e⟩ := x; exact ⟨_, e⟩
  | tup xs => obtain ⟨_, _, _, ob, e, _⟩ := x; exact ⟨_, e⟩
  | dK kvs => obtain ⟨_, _, _, _, ob, _, _, e, _⟩ := x; exact ⟨_, e⟩
  | dT kvs => obtain ⟨_, _, _, _, ob, _, _, e, _⟩ := x; exact ⟨_, e⟩
  | set S n => obtain ⟨ob, _, _, _, e, _⟩ := x; exact ⟨_, e⟩
  | ins C dx fs => obtain ⟨_, _, _, e, _⟩ := x; exact ⟨_, e⟩
  | own y => exact x
  | xd fs => obtain ⟨_, ⟨ob, _, _, e, _⟩, _⟩ := x; exact ⟨_, e⟩
  | met f y => exact ⟨_, x⟩
  | rng lo hi => obtain ⟨_, _, _, e⟩ := x; exact ⟨_, e⟩
  | frz ob u ih => exact ⟨_, x.1⟩
  | tbl ps => exact ⟨_, x⟩
  | ext φ => exact x.2.1
section
variable {X : Cx} {pins : List (Addr × Obj)} {σ : St} {H H' : Hp} {s s' : Shared} {B : Heap}
/-- behind a flight's station: all that B holds is as it was, the frames are kept up to slots -/
theorem Inv.flown {h2 : Heap} {toks : Nat} (I : Inv X pins σ H s) (un : Un (frs X.stack) [] H H' s.heap s'.heap) (hok : HOk X.prog X.w H' s'.heap) (os : s'.os = s.os) (bare : AllBare s'.gens)
    (hs : ∀ b o, B.get? b = some o → s'.heap.get? b = some o) (k1 : ∀ b o, s.heap.get? b = some o → b ∉ frs X.stack → ∃ o', B.get? b = some o') (k2 : ∀ b u, H' b = some u → ∃ o', B.get? b = some o')
    (h2s : ∀ b o, B.get? b = some o → h2.get? b = some o) (sl : ∀ b o, b ∈ frs X.stack → s'.heap.get? b = some o → ∃ z, h2.get? b = some { o with slots := z }) : Inv X pins σ H' { s' with heap := h2, toks := toks } := by
  have key : ∀ b o, s'.heap.get? b = some o → (∃ o', B.get? b = some o') → h2.get? b = some o := fun b o e ⟨o', q⟩ => by
    have := hs b o' q
    rw [e] at this
    cases this
    exact h2s b o q
  refine I.call' (ch := []) os ⟨fun b o e n nb nx => key b o (un.keep b o e n nb nx) (k1 b o e nb), fun b o e n nb nx => ?_, un.free, fun b o e nx => ?_, un.tups, un.frzs, un.tbls⟩ (fun b u e => ?_) bare (fun _ z => nomatch z)
  · obtain ⟨z, q⟩ := un.slot b o e n nb nx
    obtain ⟨z', q'⟩ := sl b _ nb q
    exact ⟨z', q'⟩
  · obtain ⟨o', q⟩ := un.there b o e nx
    by_cases hb : b ∈ frs X.stack
    · obtain ⟨z', q'⟩ := sl b _ hb q
      exact ⟨_, q'⟩
    · exact ⟨_, key b o' q (k1 b o e hb)⟩
  · refine (hok b u e).stay (fun c v hc q => key c v q ?_) (fun _ q => q) fun _ _ q => q
    rcases hc with rfl | z
    · exact k2 _ u e
    · exact k2 c _ z
theorem hid_frs (h : Heap) (l : List Env) : ∀ env ∈ l, ∀ b, env.frame = some b → b ∈ frs l := fun env he b hb => List.mem_filterMap.mpr ⟨env, he, hb⟩
theorem Inv.slots {h2 : Heap} (hf : s'.heap.FunFrames B X.stack) (u : s'.heap.UpToSlots h2) : ∀ b o, b ∈ frs X.stack → s'.heap.get? b = some o → ∃ z, h2.get? b = some { o with slots := z } := fun b o hb e => by
  obtain ⟨_, o', e', nf⟩ := hf.mem hb
  rw [e] at e'
  cases e'
  exact u b o e nf
end
section
variable {P : Program} {w : World} {K : PySem.W.Frag} {mg : Str → Option Value} {base : Heap} {N : List Str} {qual : Str} {scope : Scope} {f : Addr} {cd : Value} {A : Around} {outer : List Env} {s : Shared} {H : Hp} {E : XK}
end
/-- an own class of exceptions, under ValueError -/
structure XCls (K : PySem.W.Frag) (x : Str) (C : Addr) : Prop where
  ns : PySem.W.nsIn K mainGlobals x = some (some (.ref C))
  ob : ∃ bm N nm q bs hdct sn sub ab col dd k0 k1 k2 k3 k5, K.lookup C = some (excClassObj nm q C N bs bm hdct sn sub ab col dd k0 k1 k2 k3 k5 "ValueError.__new__")
  ex : PySem.W.excIn K C [.type "ValueError", .type "Exception", .type "BaseException", .type "object"] "ValueError.__new__" = true
def tRaise (E : XK) (C : Addr) (t : TA) : TS := fun _ σ H => t σ H fun xs H1 => xs.length ≤ sizeLine ∧ E (.ref C) none H1
def Makes (X : Cx) (E : XK) : Prop := ∀ (pins : List (Addr × Obj)) (σ : St) (H1 : Hp) (s1 : Shared) (h2 : Heap) (ea : Addr) (cls : Value) (vs : List Value), Inv X pins σ H1 s1 → Heap.MadeExcOf s1.heap h2 ea cls vs → E cls none H1 → X.xe (.ref ea) { s1 with heap := h2 }
theorem own_in {K : PySem.W.Frag} {h : Heap} {mg : Str → Option Value} {x : Str} {C : Addr} (X : K.In h) (g : h.Ns mainGlobals mg) (c : XCls K x C) : OwnCls x C [.type "ValueError", .type "Exception", .type "BaseException", .type "object"] "ValueError.__new__" mg h := by
  obtain ⟨bm, N, nm, q, bs, hdct, sn, sub, ab, col, dd, k0, k1, k2, k3, k5, l⟩ := c.ob
  have ex := c.ex
  unfold PySem.W.excIn at ex
  rw [l] at ex
  simp only [excClassObj, Bool.and_eq_true, beq_iff_eq] at ex
  exact ⟨PySem.W.mg_of X g c.ns, bm, N, nm, q, bs, hdct, sn, sub, ab, col, dd, k0, k1, k2, k3, k5, _, X _ _ l, .of_isNs (PySem.W.isNs_of_in X ex.1.2), PySem.W.nsMap_none_of_in X ex.1.2 ex.2, PySem.W.tail_of_in X ex.1.1.2⟩
theorem ps_raise {X : Cx} {E : XK} {x : Str} {C : Addr} {np cpos pos : Pos} {e₀ : Expr} {rest : List Expr} {t : TA} (c : XCls X.K x C) (hg : Gl X x) (hM : Makes X E) (hc : X.calm = true) (ha : PA X (e₀ :: rest) t)
    (hdb : (x == ("__debug__" : Str)) = false := by decide) (he : starEach (e₀ :: rest) X.env = (false, eval e₀ X.env) :: starEach rest X.env := by rfl) (hpl : (backTo cpos (starEach rest X.env)).any (·.1) = false := by rfl) :
    PS X (.Raise (some (.Call (.Name x np) (e₀ :: rest) [] cpos)) none pos) (tRaise E C t) := by
  intro pins s σ H D I h
  have O := own_in I.mod.kin I.mod.glob c
  obtain ⟨tl, N, nm, q, bs, hdct, sn, sub, ab, col, dd, k0, k1, k2, k3, k5, mN, hC, hN, hni, T⟩ := O.obj
  have FB := PySem.F.excBase_ValueError
  refine wpAny_Raise_call_subT (C := C) (nm := nm) (q := q) (N := N) (bs := bs) (bm := tl) (hdct := hdct) (sn := sn) (sub := sub) (ab := ab) (col := col) (dd := dd) (k0 := k0) (k1 := k1) (k2 := k2) (k3 := k3) (k5 := k5)
    FB (mN := mN) (T.hasType FB.hasBase) (I.ok.hd hc) (by rw [he]; show (false || (backTo cpos (starEach rest X.env)).any (·.1)) = false; rw [hpl]; rfl) hni (ld_glob I hg O.bound ⟨rfl, ?_⟩ hdb)
  rw [he]
  refine Calls.evalArgs_plain ?_
  have z := ha cpos pins s σ H _ I h
  rw [he] at z
  refine thn z fun us s2 ⟨xs, H1, I1, r, hz, hE⟩ => ⟨rfl, by rw [← r.length]; exact hz, I1.bk _ _ hC, hN.keeps I1.bk, T.keeps I1.bk, fun h' e hx => hM pins σ H1 s2 h' e _ _ I1 hx hE⟩

/-! ### try, with one except, around one call -/
/-- a caught exception: its class is known -/
def hoX (a : Addr) (cls : Value) : HO := .ext fun h => ∃ o, h.get? a = some o ∧ o.cls = cls
theorem hoX_ok {P : Program} {w : World} {H : Hp} {h : Heap} {a : Addr} {o : Obj} (e : h.get? a = some o) : ObjOk P w H h a (hoX a o.cls) := ⟨⟨o, e, rfl⟩, ⟨o, e⟩, fun _ _ ⟨o1, e1, c1⟩ k => ⟨o1, k o1 e1, c1⟩⟩
/-- within an except suite -/
abbrev Cx.marked (X : Cx) (ea : Addr) : Cx := { X with A := X.A.mark (some (.ref ea)), calm := false, xe := fun _ _ => False }
section
variable {X : Cx} {pins : List (Addr × Obj)} {σ : St} {H H' : Hp} {s s' : Shared} {B : Heap}
theorem Cx.Ok.marked (ok : X.Ok) (ea : Addr) : (X.marked ea).Ok :=
  ⟨ok.mod, ok.kind, ok.glob, ok.blt, ok.above, ok.inj, ok.has, ok.cab, (fun z => nomatch z), ok.frames, ok.stk, ok.exf, ok.bs, ok.bsz, ok.noex, ok.exfs, ok.funs, ok.frf⟩
theorem Inv.marked (I : Inv X pins σ H s) (ea : Addr) : Inv (X.marked ea) pins σ H s := ⟨I.ok.marked ea, I.os, I.bare, I.base, I.loc, I.cell, I.free, I.freeC, I.pin, I.hok, I.len⟩
/-- the exception is held in the frame: from here on it is tracked -/
theorem Inv.caught {h2 : Heap} {toks : Nat} {ea : Addr} {cls a0 : Value} (I : Inv X pins σ H s) (un : Un (frs X.stack) [] H H' s.heap s'.heap) (hok : HOk X.prog X.w H' s'.heap) (os : s'.os = s.os) (bare : AllBare s'.gens)
    (hs : ∀ b o, B.get? b = some o → s'.heap.get? b = some o) (k1 : ∀ b o, s.heap.get? b = some o → b ∉ frs X.stack → ∃ o', B.get? b = some o') (k2 : ∀ b u, H' b = some u → ∃ o', B.get? b = some o')
    (fly : Heap.FlyingW B X.stack ea cls a0 h2) (sl : ∀ b o, b ∈ frs X.stack → s'.heap.get? b = some o → ∃ z, h2.get? b = some { o with slots := z }) : Inv X pins σ (upd H' ea (hoX ea cls)) { s' with heap := h2, toks := toks } := by
  have neB : ∀ b o, B.get? b = some o → b ≠ ea := fun b o e z => by rw [z, fly.2.1] at e; cases e
  obtain ⟨oe, vs, heo, hec, hed, _⟩ := fly.first
  have neS : ∀ b o, s.heap.get? b = some o → b ≠ ea := fun b o e z => by
    by_cases hb : b ∈ frs X.stack
    · obtain ⟨_, o', e', nf⟩ := fly.2.2.1.mem hb
      rw [z, heo] at e'
      cases e'
      exact nf _ hed
    · obtain ⟨o', q⟩ := k1 b o e hb
      exact neB b o' q z
  have neT : ∀ b u, H' b = some u → b ≠ ea := fun b u e => let ⟨o', q⟩ := k2 b u e; neB b o' q
  have key : ∀ b o, s'.heap.get? b = some o → (∃ o', B.get? b = some o') → h2.get? b = some o := fun b o e ⟨o', q⟩ => by
    have := hs b o' q
    rw [e] at this
    cases this
    exact fly.1 b o q
  refine I.call' (ch := []) os ⟨fun b o e n nb nx => key b o (un.keep b o e n nb nx) (k1 b o e nb), fun b o e n nb nx => ?_, fun b o e n nx => ?_, fun b o e nx => ?_, fun b xs e => ?_, fun b o u e => ?_, fun b ps e => ?_⟩ (fun b u e => ?_) bare (fun _ z => nomatch z)
  · obtain ⟨z, q⟩ := un.slot b o e n nb nx
    obtain ⟨z', q'⟩ := sl b _ nb q
    exact ⟨z', q'⟩
  · rw [upd_ne (neS b o e)]; exact un.free b o e n nx
  · obtain ⟨o', q⟩ := un.there b o e nx
    by_cases hb : b ∈ frs X.stack
    · obtain ⟨z', q'⟩ := sl b _ hb q
      exact ⟨_, q'⟩
    · exact ⟨_, key b o' q (k1 b o e hb)⟩
  · have z := un.tups b xs e; rw [upd_ne (neT b _ z)]; exact z
  · have z := un.frzs b o u e; rw [upd_ne (neT b _ z)]; exact z
  · obtain ⟨more, z⟩ := un.tbls b ps e; exact ⟨more, by rw [upd_ne (neT b _ z)]; exact z⟩
  · by_cases hb : b = ea
    · subst hb
      rw [upd_same] at e
      cases e
      rw [← hec]
      exact hoX_ok heo
    · rw [upd_ne hb] at e
      refine (hok b u e).stay (fun c v hc q => key c v q ?_) (fun c q => by rw [upd_ne (neT c _ q)]; exact q) fun c xs q => by rw [upd_ne (neT c _ q)]; exact q
      rcases hc with rfl | z
      · exact k2 _ u e
      · exact k2 c _ z
/-- a name of the frame is gone -/
theorem Inv.gone {h2 : Heap} {toks : Nat} {i : Nat} {n : Str} {v : Option Value} {m : Str → Option Value} (I : Inv X pins σ H s) (hN : X.N.Nodup) (hi : X.N[i]? = some n)
    (hl : ∀ (j : Nat) (x : Str) (v : V), X.N[j]? = some x → σ[j]? = some (some v) → Vis X.env.scope x → ∃ u, RelV v u ∧ Look X.env s.heap m x u)
    (hn : h2.Ns X.env.locals fun x => if x = n then v else m x) (sb : Heap.SameBut X.env.locals s.heap h2) : Inv X pins (σ.set i none) H { s with heap := h2, toks := toks } := by
  have kp : ∀ b o, b ≠ X.env.locals → s.heap.get? b = some o → h2.get? b = some o := fun b o nb e => (sb.2 b nb).trans e
  have neL : ∀ b o, X.s₀.heap.get? b = some o → b ≠ X.env.locals := fun b o e => Nat.ne_of_lt (Nat.lt_of_lt_of_le (Heap.lt_size e) I.ok.above)
  have cellK : ∀ x c, X.env.cells.lookup x = some c → ∀ v, s.heap.IsCell c v → h2.IsCell c v := fun x c e v ⟨o, ho, hd⟩ => ⟨o, kp c o (I.cne x c e) ho, hd⟩
  refine ⟨I.ok, I.os, I.bare, ⟨fun b o e nn hb hx => kp b o (neL b o e) (I.base.keep b o e nn hb hx), fun b o e nn hb hx => ?_, I.base.free, fun b o e hx => ?_, I.base.tups, I.base.frzs, I.base.tbls⟩, ⟨_, hn, fun j x v' e1 e2 e3 => ?_⟩, fun x c e => ?_, I.free, I.freeC, fun p hp => ?_, fun b u e => ?_, by rw [List.length_set]; exact I.len⟩
  · obtain ⟨sl, q⟩ := I.base.slot b o e nn hb hx
    exact ⟨sl, kp b _ (neL b o e) q⟩
  · obtain ⟨o', q⟩ := I.base.there b o e hx
    exact ⟨o', kp b _ (neL b o e) q⟩
  · by_cases hij : i = j
    · subst hij
      rw [List.getElem?_set] at e2
      split at e2
      · split at e2 <;> cases e2
      · exact absurd rfl (by assumption)
    · rw [List.getElem?_set_ne hij] at e2
      obtain ⟨u, r, l⟩ := hl j x v' e1 e2 e3
      have hx : x ≠ n := fun z => hij (nodup_ix hN hi (by rw [← z]; exact e1))
      refine ⟨u, r, ?_⟩
      rcases l with ⟨k, l⟩ | ⟨k, c, e, z⟩
      · exact .inl ⟨k, by show (if x = n then v else m x) = _; rw [if_neg hx]; exact l⟩
      · exact .inr ⟨k, c, e, cellK x c e _ z⟩
  · obtain ⟨v, z⟩ := I.cell x c e
    exact ⟨v, cellK x c e v z⟩
  · obtain ⟨e, nn, ne, nf, d⟩ := I.pin p hp
    exact ⟨kp _ _ ne e, nn, ne, nf, d⟩
  · refine (I.hok b u e).stay (fun c v hc q => kp c v ?_ q) (fun _ q => q) fun _ _ q => q
    rcases hc with rfl | z
    · intro y; rw [y, I.free] at e; cases e
    · intro y; rw [y, I.free] at z; cases z
end
def tTry (K : PySem.W.Frag) (CE : Addr) (i : Nat) (sp : Sp) (ta : TA) (ts : TS) : TS := fun D σ H => ta σ H fun vs H1 => sp vs H1 (fun _ H2 => D.nx σ H2) fun cls _ H2 => PySem.W.exmOne K cls (.ref CE) = some true ∧
  ∀ ea, H2 ea = none → ts { nx := fun σ' H3 => D.nx (σ'.set i none) H3, rt := fun _ _ => False } (σ.set i (some (.ref ea))) (upd H2 ea (hoX ea cls))
theorem ps_tryFn {X : Cx} {k : Nat} {f CE : Addr} {fd : FuncData} {ps : List Str} {sp : Sp} {x y n : Str} {i : Nat} {p cpos epos yp hpos pos : Pos} {e : Expr} {es : List Expr} {b₀ : Stmt} {suite : List Stmt} {t : TA} {ts : TS}
    (F : FnOk X.prog X.w X.K X.mg X.base (CX1 X.prog X.w) k f fd ps sp) (hr : Room k X.A) (hg : Gl X x) (hm : X.mg x = some (.ref f)) (hk : PySem.W.keepIn X.K (.ref f) = true) (hb : Binds X.K fd ps []) (ha : PA X.nox (e :: es) t)
    (hgy : Gl X y) (hmy : X.mg y = some (.ref CE)) (nd : X.N.Nodup) (hi : X.N[i]? = some n) (hl : X.env.scope.names.lookup n = some .local) (hst : X.stack = X.env :: X.outer) (hfr : X.env.frame = some X.env.locals)
    (hsuite : ∀ ea, PSs (X.marked ea) (b₀ :: suite) ts) (hs : swapsWith (.Call (.Name x p) (e :: es) [] cpos) none epos.line X.env = pure false := by rfl) (hdb : (x == ("__debug__" : Str)) = false := by decide) (hdy : (y == ("__debug__" : Str)) = false := by decide)
    (he : starEach (e :: es) X.env = (false, eval e X.env) :: starEach es X.env := by rfl) (hpl : (backTo cpos (starEach es X.env)).any (·.1) = false := by rfl) :
    PS X (.Try [.Expr (.Call (.Name x p) (e :: es) [] cpos) epos] [.ExceptHandler (some (.Name y yp)) (some n) (b₀ :: suite) hpos] [] [] pos) (tTry X.K CE i sp t ts) := by
  intro pins s σ H D I h
  refine wpAny_Try_except (wpAny_execs_cons (wpAny_Expr_any (wpAny_Call_Name_kw (ld_glob I hg hm ?_ hdb)) I.quiet hs))
  refine PySem.W.callWith_K (h₀ := X.base) I.ok.mod.kin hk (wpAny_mono (ha cpos pins s σ H _ (I.wish _) h) (fun us s1 ⟨vs, H1, I1, r, q⟩ => ⟨I1.unwish.kIn, ?_⟩) fun _ _ z => False.elim z) he hpl
  have I1 := I1.unwish
  have hlen : us.length = ps.length := by rw [← r.length]; exact F.len _ _ _ _ q
  have hb' := hb s1 us I1.kIn (by rw [List.append_nil]; exact hlen)
  rw [List.append_nil] at hb'
  refine wpAny_call (codeAny_mono (F.run X.A X.stack s1 H1 ⟨us, []⟩ us vs _ _ hr I1.env0 hb' r q) fun r s2 hq => ?_)
  cases r with
  | ok fl =>
    cases fl with
    | ret u =>
      obtain ⟨_, H2, I2, _, q2⟩ := I1.after hq
      exact wpAny_execs_nil (wpAny_execs_nil ⟨σ, H2, I2, q2⟩)
    | next => exact False.elim hq
    | brk => exact False.elim hq
    | cont => exact False.elim hq
  | error ex =>
    obtain ⟨ea, cls, a0, B, H2, rfl, os, bare, un, hok, fly, k1, k2, hxm, hts⟩ := hq
    have hH2 : H2 ea = none := by
      cases z : H2 ea with
      | none => rfl
      | some u => obtain ⟨o', q'⟩ := k2 ea u z; rw [fly.2.1] at q'; cases q'
    have hts := hts ea hH2
    have hA : X.A.frames = some (X.env :: X.outer) := by rw [← hst]; exact I.ok.frames
    have ff := fly.2.2.1
    rw [hst] at fly
    refine wpAny_looks_onW (base := B) hA hfr fly fun h3 held us3 => ?_
    refine wpAny_landsW held fun h4 fly4 us4 => ?_
    have u4 := us3.trans us4
    have J4 := I1.flown (toks := s2.toks) un hok os bare fly.1 k1 k2 fly4.1 (Inv.slots ff u4)
    refine wpAny_handleBy_cons (codeAny_handlers_test ?_) (by intro q; cases q)
    refine ld_glob (X := X.marked ea) (J4.marked ea) hgy hmy ?_ hdy
    obtain ⟨ob, hob, hcl⟩ := fly4.there
    have LT : PySem.W.Looks (model X.prog X.w) h4 (typeOf (.ref ea)) cls := by subst hcl; exact (PySem.W.Looks.ld hob).andThen .now
    refine (PySem.W.exm_one J4.kIn LT hxm).here ?_
    refine codeAny_handlers_suite_as ?_
    refine lands_againW fly4 fun h5 fly5 us5 => ?_
    have fly5' : Heap.FlyingW B X.stack ea cls a0 h5 := by rw [hst]; exact fly5
    have J5 := I1.caught (toks := s2.toks) un hok os bare fly.1 k1 k2 fly5' (Inv.slots ff (u4.trans us5))
    refine store_ok (X := X.marked ea) (J5.marked ea) nd hi (.inl hl) (v := .ref ea) rfl (fun s6 I6 => ?_) (.inr hl)
    refine wpAny_mono (hsuite ea pins s6 _ _ _ I6 hts) (fun fl s7 hs7 => ?_) fun _ _ z => False.elim z
    cases fl with
    | next =>
      obtain ⟨σ', H7, I7, q7⟩ := hs7
      obtain ⟨m, hn, hl7⟩ := id I7.loc
      refine wpAny_nameGoes_keeps hl hn (by rw [I.ok.kind]; rfl) fun h8 v hn8 sb => ?_
      have I8 : Inv X pins σ' H7 s7 := ⟨I.ok, I7.os, I7.bare, I7.base, I7.loc, I7.cell, I7.free, I7.freeC, I7.pin, I7.hok, I7.len⟩
      exact ⟨_, _, I8.gone nd hi hl7 hn8 sb, q7⟩
    | ret u => obtain ⟨_, _, _, _, _, q7⟩ := hs7; exact q7.elim
    | brk => obtain ⟨_, _, _, q7⟩ := hs7; exact q7.elim
    | cont => obtain ⟨_, _, _, q7⟩ := hs7; exact q7.elim

/-! ### isinstance of a caught exception -/
section
open PySem.W PySem.Builtin PySem.Builtin.ObjectAttr PySem.Builtin.Getset_descriptor
variable {prog : Program} {w : World} {A : Around} {E : Value → Shared → Prop} {s : Shared} {K : PySem.W.Frag} {x D : Addr}
/-- what the class answers about its instances' class -/
structure XTy (K : PySem.W.Frag) (D : Addr) : Prop where
  ga : findIn K (.ref D) "__getattribute__" = some (some (.builtin "BaseException.__getattribute__"))
  gt : findIn K (.ref D) "__getattr__" = some none
  ca : findIn K (.ref D) "__class__" = some (some (.builtin "object.__class__"))
  gg : specialIn K (.builtin "object.__class__") "__get__" = some (some (.builtin "getset_descriptor.__get__"))
  tk : takesIn K (.builtin "object.__class__") = some true
  ob : mroIn K D (.type "object") = some true
  be : mroIn K D (.type "BaseException") = some true
  cl : ∃ c d cd sl, K.lookup D = some ⟨c, d, .cls cd, sl⟩
theorem look_data (X : K.In s.heap) (T : XTy K D) : Looks (model prog w) s.heap (find (.ref x) (.ref D) "__class__") (.bind (.builtin "getset_descriptor.__get__") (.builtin "object.__class__")) := by
  have L1 := looks_findIn (M := model prog w) X T.ca
  have L2 : Looks (model prog w) s.heap (getOf (some (.builtin "object.__class__"))) (some (.builtin "getset_descriptor.__get__")) := looks_specialIn X T.gg
  have L3 := looks_takesIn (M := model prog w) X T.tk
  exact L1.andThen (L2.andThen ((show Looks (model prog w) s.heap (dataDescriptor? (some (.builtin "object.__class__")) (some (.builtin "getset_descriptor.__get__"))) (some (.builtin "getset_descriptor.__get__", .builtin "object.__class__")) from L3.andThen .now).andThen (Looks.tag .now)))
theorem exc_class {Q : Option Value → Shared → Prop} (X : K.In s.heap) (L0 : Looks (model prog w) s.heap (typeOf (.ref x)) (.ref D)) (T : XTy K D) (h : Q (some (.ref D)) { s with toks := s.toks + 1 }) : wpAny (model prog w) A (getAttr? (.ref x) "__class__") Q E s := by
  have L1 := looks_findIn (M := model prog w) X T.ga
  have L2 := look_data (prog := prog) (w := w) (x := x) X T
  have L3 := looks_findIn (M := model prog w) X T.gt
  have L4 := looks_mroIn (M := model prog w) X T.ob
  obtain ⟨hh, g, d, t, os⟩ := s
  unfold getAttr? getAttrBy? getAttrBy
  have L5 := looks_mroIn (M := model prog w) X T.be
  refine wpAny_bind (wpAny_mkText (wpAny_bind (wpAny_attempt (wpAny_holding (wpAny_bind (L0.at (wpAny_bind (L1.at ?_))))))))
  have hx2 : (Value.builtin "BaseException.__getattribute__" == Value.builtin "object.__getattribute__") = false := by decide +kernel
  dsimp only
  rw [hx2, Bool.and_false, if_neg (by decide)]
  have hk : builtinKind "BaseException.__getattribute__" = some .slot := by decide +kernel
  have hsplit : splitId "BaseException.__getattribute__" = some ("BaseException", "__getattribute__") := by decide +kernel
  have ha := F.args_bexc_ga (.ref x) (.str "__class__" t)
  unfold getAttrByItsOwn hookBefore
  refine wpAny_bind ?_
  show wpAny _ _ (typeLookup (.ref D) "__getattr__") _ _ _
  refine L3.at (wpAny_bind (wpAny_attempt (wpAny_holding ?_)))
  show wpAny _ _ (boundAndCalled (.builtin "BaseException.__getattribute__") (.ref x) _) _ _ _
  unfold boundAndCalled
  rw [F.excAttr_ValueError.ga.bind (.ref x)]
  refine wpAny_bind (wpAny_pure ?_)
  first | refine wpAny_call (codeAny_call_builtin F.excAttr_ValueError.ga.plain F.entry_bexc_ga ?_) | refine wpAny_holding (wpAny_call (codeAny_call_builtin F.excAttr_ValueError.ga.plain F.entry_bexc_ga ?_))
  simp only [checkBuiltinCall, hk, hsplit]
  unfold isInstance
  show wpAny _ _ (do let b ← (do let tp ← typeOf (.ref x); isSubtype tp (.type "BaseException")); _) _ _ _
  refine wpAny_bind (wpAny_bind (L0.at (L5.at ?_)))
  rw [if_neg (by decide)]
  unfold argsOk at ha
  refine wpAny_of_eq ha ?_
  show wpAny _ _ (Builtin.«object.__getattribute__» ⟨[.ref x, .str "__class__" t], []⟩) _ _ _
  unfold Builtin.«object.__getattribute__»
  refine wpAny_bind (wpAny_of_eq (show slotArgs "__getattribute__" 1 ⟨[.ref x, .str "__class__" t], []⟩ = pure (.ref x, [.str "__class__" t]) from by kernel_rfl) ?_)
  refine wpAny_bind (wpAny_of_eq (show attrName (.str "__class__" t) = pure "__class__" from by kernel_rfl) ?_)
  refine wpAny_bind (L0.at (wpAny_bind (L2.at ?_)))
  unfold bindTo
  show wpAny _ _ (holding [Value.builtin "object.__class__"] (call (.builtin "getset_descriptor.__get__") [.builtin "object.__class__", .ref x, .ref D]) >>= ret) _ _ _
  refine wpAny_bind (wpAny_holding (wpAny_call ?_))
  refine codeAny_call_builtin KF.slot_gs.plain KF.entry_gs (KF.slot_gs.check _ _ _ _ _ _ _ _ KF.type_class (KF.args_gs _ _ _) ?_)
  unfold Builtin.«getset_descriptor.__get__» descrGet
  rw [dga_obj]
  refine wpAny_bind (wpAny_pure ?_)
  unfold descrGetter descrCheckInstance descrNameAndClass isInstance
  simp only [KF.owner_class]
  repeat lk
  refine ⟨Code.quiet_builtin _ (by decide +kernel), codeAny_builtin KF.entry_class ?_⟩
  unfold Builtin.«object.__class__» shownTypeOf
  repeat lk
  exact h
/-- an exception of the class at D stands at x -/
def ExAt (x D : Addr) (h : Heap) : Prop := ∃ o, h.get? x = some o ∧ o.cls = .ref D
theorem exAt_ty {M : Model} {h : Heap} (p : ExAt x D h) : Looks M h (typeOf (.ref x)) (.ref D) := by
  obtain ⟨o, h1, h2⟩ := p
  exact h2 ▸ (Looks.ld h1).andThen .now
theorem kitx_exc (T : XTy K D) : KitX K (.ref x) (.ref D) (ExAt x D) where
  ty := fun _ _ _ p => exAt_ty p
  it := fun _ _ X _ => by
    obtain ⟨c, d, cd, sl, ho⟩ := T.cl
    intro A' Q' E' s' k q
    unfold isType loadHead
    exact wpAny_bind (wpAny_loadPart (k _ _ (X _ _ ho)) (wpAny_pure q))
  ne := fun h tp dd its n sl X htp => by
    obtain ⟨c, d, cd, sl', ho⟩ := T.cl
    refine Bool.eq_false_iff.mpr fun q => ?_
    have e : D = tp := Value.ref.inj (beq_iff_eq.mp q)
    subst e
    have z := (X _ _ ho).symm.trans htp
    cases z
  ca := fun X p k => exc_class X (exAt_ty p) T k
def clsV : V → Option Value
  | .ref a => some (.ref a)
  | .ty T => some (.type T)
  | _ => none
theorem clsV_rel {y : V} {u c : Value} (r : RelV y u) (e : clsV y = some c) : u = c := by
  cases y <;> cases e <;> exact r
theorem clsV_rels : ∀ {ys : List V} {us cs : List Value}, Vals ys us → ys.map clsV = cs.map some → us = cs
  | _, _, [], .nil, _ => rfl
  | _, _, _ :: _, .nil, e => nomatch e
  | _, _, [], .cons _ _, e => nomatch e
  | _, _, c :: cs, .cons r rs, e => by
    injection e with e1 e2
    rw [clsV_rel r e1, clsV_rels rs e2]
end
section
open PySem.W
variable {X : Cx} (K : PySem.W.Frag)
inductive cIsiX (xs : List V) (H : Hp) (Q : VK) : Prop
  | mk (ea : _) (D : _) (b : _) (h1 : H ea = some (hoX ea (.ref D))) (h2 : XTy K D) (h3 : ((∃ y c, xs = [.ref ea, y] ∧ clsV y = some c ∧ kitOne K (.ref D) c = some b) ∨ ∃ t ys cs, xs = [.ref ea, .ref t] ∧ H t = some (.tup ys) ∧ ys.map clsV = cs.map some ∧ kitAny K (.ref D) cs = some b)) (h4 : Q (.bl b) H) : cIsiX xs H Q
theorem isiX (e : X.K = K := by rfl) : CallR X (.builtin "isinstance") (cIsiX K) := by
  subst e
  intro pins s σ H xs us Q I r h
  obtain ⟨ea, D, b, hH, T, hc, q⟩ := h
  have hx : ExAt ea D s.heap := (I.hok ea _ hH).1
  rcases hc with ⟨y, c, rfl, hy, hk⟩ | ⟨t, ys, cs, rfl, ht, hys, hk⟩
  · obtain ⟨u, w', rfl, rx, ry⟩ := vals2 r
    cases rx
    rw [clsV_rel ry hy]
    exact kia_one (kitx_exc T) I.kIn hx hk (fun z => nomatch z) fun tk => ⟨.bl b, H, I.tok _, rfl, q⟩
  · obtain ⟨u, w', rfl, rx, ry⟩ := vals2 r
    cases rx
    cases ry
    obtain ⟨_, its, rv, ⟨cc, dd, dt, sl⟩, e1, e2, n, e3⟩ := (I.hok t _ ht)
    have e2 : cc = .type "tuple" := e2
    have e3 : dt = .seq its.toArray n := e3
    subst e2 e3
    rw [clsV_rels rv hys] at e1
    exact kia_tup (kitx_exc T) I.kIn hx e1 hk (fun z => nomatch z) fun tk => ⟨.bl b, H, I.tok _, rfl, q⟩
end

/-! ### a def from which an exception may leave, as its text stands and as a caller takes it -/
section
variable {P : Program} {w : World} {K : PySem.W.Frag} {mg : Str → Option Value} {base : Heap}
end
structure FdX (P : Program) (w : World) (K : PySem.W.Frag) (mg : Str → Option Value) (base : Heap) (n : Nat) (x : Str) (ps : List Str) (sp : Sp) : Prop where
  ex : ∃ (f : Addr) (fd : FuncData), FnOk P w K mg base (CX1 P w) n f fd ps sp ∧ Binds K fd ps [] ∧ PySem.W.keepIn K (.ref f) = true ∧ mg x = some (.ref f)
theorem ps_tryFd {X : Cx} {j k : Nat} {CE : Addr} {ps : List Str} {sp : Sp} {x y n : Str} {i : Nat} {p cpos epos yp hpos pos : Pos} {e : Expr} {es : List Expr} {b₀ : Stmt} {suite : List Stmt} {t : TA} {ts : TS}
    (F : FdX X.prog X.w X.K X.mg X.base j x ps sp) (hr : Room k X.A) (hg : Gl X x) (ha : PA X.nox (e :: es) t) (hgy : Gl X y) (hmy : X.mg y = some (.ref CE)) (nd : X.N.Nodup) (hi : X.N[i]? = some n) (hl : X.env.scope.names.lookup n = some .local)
    (hst : X.stack = X.env :: X.outer) (hfr : X.env.frame = some X.env.locals) (hsuite : ∀ ea, PSs (X.marked ea) (b₀ :: suite) ts) (hn : j ≤ k := by decide) (hs : swapsWith (.Call (.Name x p) (e :: es) [] cpos) none epos.line X.env = pure false := by rfl)
    (hdb : (x == ("__debug__" : Str)) = false := by decide) (hdy : (y == ("__debug__" : Str)) = false := by decide)
    (he : starEach (e :: es) X.env = (false, eval e X.env) :: starEach es X.env := by rfl) (hpl : (backTo cpos (starEach es X.env)).any (·.1) = false := by rfl) :
    PS X (.Try [.Expr (.Call (.Name x p) (e :: es) [] cpos) epos] [.ExceptHandler (some (.Name y yp)) (some n) (b₀ :: suite) hpos] [] [] pos) (tTry X.K CE i sp t ts) := by
  obtain ⟨f, fd, F1, F2, F3, F4⟩ := F.ex
  exact ps_tryFn F1 (hr.mono hn) hg F4 F3 F2 ha hgy hmy nd hi hl hst hfr hsuite hs hdb hdy he hpl
end L2

/-! own layer, part 10: range(a, b, -1) -/
namespace L2
open PySem PySem.Spec PyProof.Rows
section
variable {X : Cx} {tg : Expr}
end
theorem bt_ValueError : bootBuiltins "ValueError" = some (.type "ValueError") := by decide +kernel
end L2

/-! own layer, part 11: what stands behind a statement; lists of drawn numbers; whole tops over a bottom -/
namespace L2
open PySem PySem.Spec PyProof.Rows
theorem Mv.put' {a l : Addr} {H H' : Hp} {o : HO} (m : Mv a H H') (hl : H l = none) : Mv a H (upd H' l o) := fun b u n q => by rw [upd_ne (ne_of_none q hl)]; exact m b u n q
theorem Mv.free {a l : Addr} {H H' : Hp} (m : Mv a H H') (la : l ≠ a) (h : H' l = none) : H l = none := by
  cases z : H l with
  | none => rfl
  | some u => rw [m l u la z] at h; cases h
theorem Pen.put' {H : Hp} {a l : Addr} {o : HO} (h : Pen H a) (la : l ≠ a) : Pen (upd H l o) a := let ⟨x0, x1, x2, ex⟩ := h; ⟨x0, x1, x2, by rw [upd_ne (Ne.symm la)]; exact ex⟩
theorem Pen.ne' {H : Hp} {a l : Addr} (h : Pen H a) (hl : H l = none) : l ≠ a := let ⟨_, _, _, ex⟩ := h; (ne_of_none ex hl).symm
/-! ### a list of lists of numbers -/
def RowV (K : PySem.W.Frag) (H : Hp) (x : V) (rs : List Rat) : Prop := ∃ a ys, x = .ref a ∧ SqL K H a ys ∧ Nums K H ys rs
abbrev Rows (K : PySem.W.Frag) (H : Hp) : List V → List (List Rat) → Prop := Paired (RowV K H)
end L2

/-! own layer, part 12: x in a list of numbers; points -/
namespace L2
open PySem PySem.Spec PyProof.Rows
section
variable {X : Cx}
/-- x in a list of things, by what stands there -/
@[irreducible] def rInD (K : PySem.W.Frag) (neg : Bool) : R2 := fun x y H Q => ∃ p ds d, y = .ref p ∧ Rds K H (.ref p) (.list ds) ∧ Rds K H x d ∧ SeqAt.shaped (.list ds) = true ∧ SeqAt.shaped d = true ∧ Q (.bl (if neg then !(ds.any fun y => PyData.eqv y d) else ds.any fun y => PyData.eqv y d)) H
theorem inD_of {K : PySem.W.Frag} {neg : Bool} {x y : V} {H : Hp} {Q : VK} (h : ∃ p ds d, y = .ref p ∧ Rds K H (.ref p) (.list ds) ∧ Rds K H x d ∧ SeqAt.shaped (.list ds) = true ∧ SeqAt.shaped d = true ∧ Q (.bl (if neg then !(ds.any fun y => PyData.eqv y d) else ds.any fun y => PyData.eqv y d)) H) : rInD K neg x y H Q := by
  unfold rInD; exact h
theorem inD (K : PySem.W.Frag) {k : Nat} (hr : Room k X.A) (e : X.K = K := by rfl) : OpR X (compareOp .In) (rInD K false) := by
  subst e
  intro pins s σ H x y v u Q I rx ry h
  unfold rInD at h
  obtain ⟨p, ds, d, rfl, r1, r2, h1, h2, q⟩ := h
  cases ry
  obtain ⟨as, q1⟩ := reads_of I r1 (u := .ref p) rfl
  obtain ⟨bs, q2⟩ := reads_of I r2 rx
  exact SeqAt.in_list_reads q1 q2 (SeqAt.canLay_of_shaped h1) (SeqAt.canLay_of_shaped h2) (PyProof.Rows.room_in_shaped h2 (by have := hr.un; lia)) ⟨.bl _, H, I, rfl, q⟩
end
theorem any_nD (q : Rat) : ∀ qs : List Rat, ((qs.map nD).any fun y => PyData.eqv y (nD q)) = decide (q ∈ qs)
  | [] => by simp
  | c :: r => by
    rw [List.map_cons, List.any_cons, nD_eqv, any_nD q r, Bool.eq_iff_iff]
    simp only [Bool.or_eq_true, decide_eq_true_eq, List.mem_cons]
    constructor
    · rintro (h | h)
      · exact .inl h.symm
      · exact .inr h
    · rintro (h | h)
      · exact .inl h.symm
      · exact .inr h
/-- a number in a list of numbers -/
theorem inN {K : PySem.W.Frag} {H : Hp} {x : V} {a : Addr} {xs : List V} {q : Rat} {qs : List Rat} {Q : VK} {neg : Bool} (h1 : NumV K H x q) (s2 : SqL K H a xs) (n2 : Nums K H xs qs) (h : Q (.bl (if neg then !decide (q ∈ qs) else decide (q ∈ qs))) H) : rInD K neg x (.ref a) H Q :=
  inD_of ⟨a, _, _, rfl, n2.rdsL s2, h1.rds, nDs_shL _, nD_shaped _, by rw [any_nD]; exact h⟩
/-! ### points: tuples of numbers in a tuple -/
def PtV (K : PySem.W.Frag) (H : Hp) (x : V) (ps : List Rat) : Prop := ∃ a, x = .ref a ∧ Crv K H a ps
abbrev Pts (K : PySem.W.Frag) (H : Hp) : List V → List (List Rat) → Prop := Paired (PtV K H)
theorem PtV.same {K : PySem.W.Frag} {H H' : Hp} {x : V} {ps : List Rat} (h : PtV K H x ps) (e : Same H H') : PtV K H' x ps := let ⟨a, h1, h2⟩ := h; ⟨a, h1, h2.same e⟩
/-! ### told numbers -/
structure Told where
  x : Rat
  k : Int
  n : Rat
deriving DecidableEq
end L2

/-! own layer, part 13: xs[::-1] -/
namespace L2
open PySem PySem.Spec PyProof.Rows
section
variable {X : Cx} {e : Expr} {te : TE}
end
/-! ### tuples as targets of a comprehension -/
end L2

/-! own layer, part 14: curves are one where they come to the same; a division is one -/
namespace L2
def addL : List Rat → List Rat → List Rat
  | [], m => m
  | a :: l, [] => a :: l
  | a :: l, b :: m => (a + b) :: addL l m
open PySem PySem.Spec PyProof.Rows
/-- a comprehension over a tuple -/
theorem lc_tup {K : PySem.W.Frag} {a : Addr} {js : List Nat} {xs : List V} {te : TE} {σ : St} {H : Hp} {Fin : List V → Hp → Prop} (Pv : Nat → List V → Hp → Prop) (h0 : Pv 0 [] H)
    (hl : ∀ i zs H, i ≤ xs.length → Pv i zs H → SqT K H a xs ∧ zs.length = i) (hz : xs.length ≤ sizeLine)
    (hs : ∀ i x zs H, xs[i]? = some x → Pv i zs H → te ((cS 1 js σ).set 0 (some x)) H fun y H4 => Pv (i + 1) (zs ++ [y]) H4) (fin : ∀ zs H', Pv xs.length zs H' → Fin zs H') :
    ∃ (n' : Nat) (W : Nat → List V → Hp → Prop), W 0 [] H ∧ LcW (Itt K a) n' 1 js σ (gName 0) tYes te Fin W := by
  refine ⟨xs.length, Pv, h0, ⟨?_, ?_, ?_⟩⟩
  · intro i zs H' hi p
    obtain ⟨h1, h2⟩ := hl i zs H' (Nat.le_of_lt hi) p
    exact ⟨⟨xs, xs[i], h1, by simp [hi]⟩, by lia⟩
  · rintro i zs H' x H1 hi p ⟨rfl, y⟩
    exact hs i x zs _ (y xs (hl i zs _ (Nat.le_of_lt hi) p).1) p
  · intro zs H' p
    obtain ⟨h1, h2⟩ := hl _ zs H' (Nat.le_refl _) p
    exact ⟨⟨xs, h1, Nat.le_refl _⟩, by lia, fin zs H' p⟩
end L2

/-! own layer, part 15: heights between two places -/
namespace L2
/-! how many ways there are to take k of n -/
def ch : Nat → Nat → Nat
  | _, 0 => 1
  | 0, _ + 1 => 0
  | n + 1, k + 1 => ch n k + ch n (k + 1)
/-! neighbours added, neighbours meant -/
/-! lists -/
def aQ (l : List Rat) : List Rat := (List.range (l.length - 1)).map fun j => l.getD j 0 + l.getD (j + 1) 0
def aQN : Nat → List Rat → List Rat
  | 0, l => l
  | n + 1, l => aQ (aQN n l)
/-- the numbers along the stretch, each over how many ways there are -/
def partsQ (al : List Rat) : List Rat := (List.range al.length).map fun k => al.getD k 0 / ((ch (al.length - 1) k : Nat) : Rat)
def htsQ (al : List Rat) : List Rat := (List.range al.length).map fun j => (aQN j (partsQ al)).getD 0 0
/-! a curve put together with a line, number by number -/
def goL (a b : Rat) : Rat → List Rat → List Rat
  | p, [] => [a * p]
  | p, c :: r => (a * p + b * c) :: goL a b c r
def compL (a b : Rat) : List Rat → List Rat
  | [] => []
  | q :: r => match compL a b r with
    | [] => [q]
    | c :: s => (q + b * c) :: goL a b c s
/-- the heights of a curve between two places -/
def hts (cs : List Rat) (lo hi : Rat) : List Rat := if cs = [] then [0] else htsQ (compL (hi - lo) lo cs)
end L2

/-! own layer, part 16: differences of a curve's heights, and their sums -/
namespace L2
def sd : List Rat → List Rat
  | [] => []
  | [_] => []
  | _ :: p :: r => addL (0 :: sd (p :: r)) (compL 1 1 (p :: r))
/-! whole heights -/
end L2

/-! own layer, part 17: the least and the greatest of a list of ints, and where one stands -/
namespace L2
open PySem PySem.Spec PyProof.Rows PySem.SeqAt
end L2

/-! own layer, part 18: slopes of curves; curves that are nought at told places -/
namespace L2
/-- the curve about a place -/
def ty (x : Rat) : List Rat → List Rat
  | [] => []
  | q :: r => addL (q :: ty x r) ((ty x r).map (· * x))
end L2

/-! own layer, part 19: products of lines, and shares -/
namespace L2
end L2

/-! own layer, part 20: a comprehension with a test -/
namespace L2
open PySem PySem.Spec PyProof.Rows
end L2

/-! own layer, part 21: a tuple so many times -/
namespace PySem
open Sem (wp)
open Builtin
set_option maxRecDepth 100000
end PySem
namespace L2
open PySem PySem.Spec PyProof.Rows
variable {X : Cx}
end L2

/-! own layer, part 22: lists and tuples of tuples of numbers are compared -/
namespace L2
open PySem PySem.Spec PyProof.Rows
def tpD (rs : List Rat) : PyData := .tuple (rs.map nD)
theorem PtV.rds {K : PySem.W.Frag} {H : Hp} {x : V} {ps : List Rat} (h : PtV K H x ps) : Rds K H x (tpD ps) := by
  obtain ⟨a, rfl, xs, s, n⟩ := h
  exact n.rdsT s
theorem tpDs_eqv : ∀ ps qs : List (List Rat), PyData.eqvAll (ps.map tpD) (qs.map tpD) = decide (ps = qs)
  | [], [] => rfl
  | [], _ :: _ => rfl
  | _ :: _, [] => rfl
  | p :: ps, q :: qs => by
    show (PyData.eqv (tpD p) (tpD q) && PyData.eqvAll (ps.map tpD) (qs.map tpD)) = _
    have e : PyData.eqv (tpD p) (tpD q) = decide (p = q) := nDs_eqv p q
    rw [e, tpDs_eqv ps qs, Bool.eq_iff_iff]
    simp
theorem tpDs_lay : ∀ qs : List (List Rat), PyData.canLayAll0 (qs.map tpD) = true
  | [] => rfl
  | q :: r => by
    show (PyData.canLayAll0 (q.map nD) && PyData.canLayAll0 (r.map tpD)) = true
    rw [nDs_lay q, tpDs_lay r]; rfl
theorem tpDs_depth : ∀ qs : List (List Rat), PyData.depthAll (qs.map tpD) ≤ 2
  | [] => Nat.zero_le _
  | q :: r => by
    have ih := tpDs_depth r
    have iq := nDs_depth q
    show max (PyData.depthAll (q.map nD) + 1) (PyData.depthAll (r.map tpD)) ≤ 2
    exact Nat.max_le.mpr ⟨by lia, ih⟩
theorem tpDs_shT (qs : List (List Rat)) : SeqAt.shaped (.tuple (qs.map tpD)) = true := by
  show (PyData.canLayAll0 (qs.map tpD) && decide (PyData.depthAll (qs.map tpD) + 1 ≤ 64)) = true
  rw [tpDs_lay, Bool.true_and]
  exact decide_eq_true (by have := tpDs_depth qs; lia)
theorem Pts.rds {K : PySem.W.Frag} {H : Hp} {xs : List V} {rss : List (List Rat)} (h : Pts K H xs rss) : ∀ (i : Nat) x d, xs[i]? = some x → (rss.map tpD)[i]? = some d → Rds K H x d := fun i x d e1 e2 => by
  obtain ⟨q, hq, hn⟩ := Paired.get h e1
  rw [List.getElem?_map, hq] at e2
  cases e2
  exact hn.rds
/-- two tuples of tuples of numbers -/
theorem eqTT {K : PySem.W.Frag} {H : Hp} {a b : Addr} {xs ys : List V} {ps qs : List (List Rat)} {Q : VK} {neg : Bool} (s1 : SqT K H a xs) (n1 : Pts K H xs ps) (s2 : SqT K H b ys) (n2 : Pts K H ys qs) (h : Q (.bl (if neg then !decide (ps = qs) else decide (ps = qs))) H) : rEqD K neg (.ref a) (.ref b) H Q := by
  refine eqD_of ⟨_, _, .tup s1 (by rw [n1.length, List.length_map]) n1.rds, .tup s2 (by rw [n2.length, List.length_map]) n2.rds, tpDs_shT _, tpDs_shT _, ?_⟩
  have e : PyData.eqv (.tuple (ps.map tpD)) (.tuple (qs.map tpD)) = decide (ps = qs) := tpDs_eqv ps qs
  rw [e]; exact h
end L2

/-! own layer, part 23: numbers that are told of by their own object; dicts with such keys -/
namespace L2
open PySem PySem.Spec PyProof.Rows
/-- a number as a key -/
def kQ (q : Rat) : List Key := [.inl q.num, .inl (q.den : Int)]
theorem kQ_inj {p q : Rat} (h : kQ p = kQ q) : p = q := by
  unfold kQ at h
  injection h with h1 h2
  injection h2 with h2 _
  injection h1 with h1
  injection h2 with h2
  exact Rat.ext h1 (Int.ofNat.inj h2)
def NumT (H : Hp) (x : V) (q : Rat) : Prop := ∃ r, x = .ref r ∧ H r = some (nT q)
abbrev NumsT (H : Hp) : List V → List Rat → Prop := Paired (NumT H)
theorem NumT.num {K : PySem.W.Frag} {H : Hp} {x : V} {q : Rat} (h : NumT H x q) : NumV K H x q := let ⟨r, e, h⟩ := h; ⟨r, e, SqT.of h⟩
theorem NumT.same {H H' : Hp} {x : V} {q : Rat} (h : NumT H x q) (e : Same H H') : NumT H' x q := let ⟨r, z, h⟩ := h; ⟨r, z, e _ _ h⟩
theorem NumT.mv {H H' : Hp} {x : V} {q : Rat} {p : Addr} (h : NumT H x q) (pn : Pen H p) (m : Mv p H H') : NumT H' x q := let ⟨r, z, h⟩ := h; ⟨r, z, m r _ (pn.ne h (nT_ne q)) h⟩
theorem NumT.put {H : Hp} {x : V} {q : Rat} {p : Addr} {ys : List V} {o : HO} (h : NumT H x q) (hp : H p = some (.lst ys)) : NumT (upd H p o) x q := let ⟨r, z, h⟩ := h; ⟨r, z, by rw [upd_ne (ne_of h hp (fun z => by cases z))]; exact h⟩
theorem NumsT.nums {K : PySem.W.Frag} {H : Hp} {xs : List V} {qs : List Rat} (h : NumsT H xs qs) : Nums K H xs qs := Paired.mapP h fun _ _ z => z.num
theorem NumsT.same {H H' : Hp} {xs : List V} {qs : List Rat} (h : NumsT H xs qs) (e : Same H H') : NumsT H' xs qs := Paired.mapP h fun _ _ z => z.same e
theorem NumsT.mv {H H' : Hp} {xs : List V} {qs : List Rat} {p : Addr} (h : NumsT H xs qs) (pn : Pen H p) (m : Mv p H H') : NumsT H' xs qs := Paired.mapP h fun _ _ z => z.mv pn m
theorem NumsT.put {H : Hp} {xs : List V} {qs : List Rat} {p : Addr} {ys : List V} {o : HO} (h : NumsT H xs qs) (hp : H p = some (.lst ys)) : NumsT (upd H p o) xs qs := Paired.mapP h fun _ _ z => z.put hp
/-- a point whose place is told of by its own object -/
def PtT (K : PySem.W.Frag) (H : Hp) (x : V) (ps : List Rat) : Prop := ∃ a us p, x = .ref a ∧ SqT K H a us ∧ Nums K H us ps ∧ us[0]? = some (.ref p) ∧ H p = some (nT (ps.getD 0 0))
abbrev PtsT (K : PySem.W.Frag) (H : Hp) : List V → List (List Rat) → Prop := Paired (PtT K H)
section
variable {K : PySem.W.Frag} {H H' : Hp} {x : V} {ps : List Rat} {xs : List V} {pss : List (List Rat)} {p : Addr} {ys : List V} {o : HO}
theorem PtT.pt (h : PtT K H x ps) : PtV K H x ps := let ⟨a, us, _, e, h1, h2, _⟩ := h; ⟨a, e, us, h1, h2⟩
theorem PtT.same (h : PtT K H x ps) (e : Same H H') : PtT K H' x ps := let ⟨a, us, b, z, h1, h2, h3, h4⟩ := h; ⟨a, us, b, z, h1.same e, h2.same e, h3, e _ _ h4⟩
theorem PtT.mv (h : PtT K H x ps) (pn : Pen H p) (m : Mv p H H') : PtT K H' x ps := let ⟨a, us, b, z, h1, h2, h3, h4⟩ := h; ⟨a, us, b, z, h1.mv pn m, h2.mv pn m, h3, m b _ (pn.ne h4 (nT_ne _)) h4⟩
theorem PtT.put (h : PtT K H x ps) (hp : H p = some (.lst ys)) : PtT K (upd H p o) x ps := let ⟨a, us, b, z, h1, h2, h3, h4⟩ := h; ⟨a, us, b, z, h1.put hp, h2.put hp, h3, by rw [upd_ne (ne_of h4 hp (fun z => by cases z))]; exact h4⟩
theorem PtsT.pts (h : PtsT K H xs pss) : Pts K H xs pss := Paired.mapP h fun _ _ z => z.pt
theorem PtsT.same (h : PtsT K H xs pss) (e : Same H H') : PtsT K H' xs pss := Paired.mapP h fun _ _ z => z.same e
theorem PtsT.mv (h : PtsT K H xs pss) (pn : Pen H p) (m : Mv p H H') : PtsT K H' xs pss := Paired.mapP h fun _ _ z => z.mv pn m
theorem PtsT.put (h : PtsT K H xs pss) (hp : H p = some (.lst ys)) : PtsT K (upd H p o) xs pss := Paired.mapP h fun _ _ z => z.put hp
end
/-- what is told, its place told of by its own object -/
def TlT (K : PySem.W.Frag) (H : Hp) (v : V) (t : Told) : Prop := ∃ a p rn, v = .ref a ∧ SqT K H a [.ref p, .int t.k, rn] ∧ H p = some (nT t.x) ∧ NumV K H rn t.n
abbrev TlsT (K : PySem.W.Frag) (H : Hp) : List V → List Told → Prop := Paired (TlT K H)
section
variable {K : PySem.W.Frag} {H H' : Hp} {x : V} {t : Told} {xs : List V} {ts : List Told} {p : Addr} {ys : List V} {o : HO}
theorem TlT.same (h : TlT K H x t) (e : Same H H') : TlT K H' x t := let ⟨a, b, rn, z, h1, h2, h3⟩ := h; ⟨a, b, rn, z, h1.same e, e _ _ h2, h3.same e⟩
theorem TlT.put (h : TlT K H x t) (hp : H p = some (.lst ys)) : TlT K (upd H p o) x t := let ⟨a, b, rn, z, h1, h2, h3⟩ := h; ⟨a, b, rn, z, h1.put hp, by rw [upd_ne (ne_of h2 hp (fun z => by cases z))]; exact h2, h3.put hp⟩
theorem TlsT.same (h : TlsT K H xs ts) (e : Same H H') : TlsT K H' xs ts := Paired.mapP h fun _ _ z => z.same e
theorem TlsT.put (h : TlsT K H xs ts) (hp : H p = some (.lst ys)) : TlsT K (upd H p o) xs ts := Paired.mapP h fun _ _ z => z.put hp
end
end L2

/-! own layer, part 24: steps from a table, and the curve that they make -/
namespace L2
end L2

/-! own layer, part 25: the whole of a tuple, cut out -/
namespace HT
open PySem PyProof.Rows
open PySem.SeqAt
open PySem.AutoSeq1 (wpAny_loadPart')
open PySem.MeetsSeq PySem.MeetsSeq2 PySem.MeetsSeq3
theorem getItem_tuple_whole {prog : Program} {w : World} {A : Around} {E : Value → Shared → Prop} {s : Shared} {t sl : Addr} {items : Array Value} {vl vu : Value} {lo hi : Option Int} {Q : Value → Shared → Prop} (ht : IsTup s.heap t items) (hs : s.heap.IsSliceOf sl vl vu .none) (pl : IsPart vl lo) (pu : IsPart vu hi)
    (hw : sIx items.size 0 lo = 0 ∧ sIx items.size items.size hi = items.size) (h : Q (.ref t) s) : wpAny (model prog w) A (getItem (.ref t) (.ref sl)) Q E s := by
  obtain ⟨os, hos, hcs, hds⟩ := id hs
  have hTs : s.TypeIs (.ref sl) "slice" := ⟨os, hos, hcs⟩
  unfold getItem
  try with_reducible refine wpAny_holding ?_
  first | refine wpAny_bind (wpAny_pure ?_) | skip
  refine wpAny_bind (wpAny_sequenceKey ht.typeIs (by decide) ?_)
  refine wpAny_bind (wpAny_callSpecial?_slot (name := Str.ofString "__getitem__") ht.typeIs PyProof.Rows.slot_tuple_getitem
    (wpAny_call_entry PyProof.Rows.slot_tuple_getitem ht.typeIs entry_tuple_getitem ?_ (args_tuple_getitem _ _)))
  show wpAny _ _ (Builtin.Tuple.tupleItemsOf (.ref t) >>= _) _ _ s
  refine wpAny_bind (tupleItemsOf_ ht ?_)
  refine wpAny_bind (wpAny_typeOf hTs ?_)
  rw [if_pos (by decide)]
  refine wpAny_bind (sliceApplied_gen hs pl pu ?_)
  have hyes : (((sIx items.size 0 lo : Nat) : Int) == 0 && (1 : Int) == 1 && (sIx items.size items.size hi - sIx items.size 0 lo) == items.size) = true := by
    rw [hw.1, hw.2]; simp
  show wpAny _ _ (if (((sIx items.size 0 lo : Nat) : Int) == 0 && (1 : Int) == 1 && (sIx items.size items.size hi - sIx items.size 0 lo) == items.size) = true then _ else _) _ _ s
  rw [if_pos hyes]
  refine wpAny_bind ?_
  refine wpAny_bind (wpAny_typeOf ht.typeIs ?_)
  refine wpAny_pure ?_
  rw [if_pos (by decide)]
  first
    | exact wpAny_bind (wpAny_rule (wpAny_pure ⟨_, rfl, wpAny_pure h⟩))
    | exact wpAny_pure ⟨_, rfl, wpAny_pure h⟩
    | trace_state
end HT
namespace L2
open PySem PySem.Spec PyProof.Rows
section
variable {X : Cx} {K : PySem.W.Frag}
/-- t[lo:hi] that is all of t: t itself -/
inductive rSlTW (K : PySem.W.Frag) (x : V) (lo : Option Int) (hi : Option Int) (H : Hp) (Q : VK) : Prop
  | mk (a : _) (xs : _) (h1 : x = .ref a) (h2 : SqT K H a xs) (h3 : (HT.sIx xs.length 0 lo = 0 ∧ HT.sIx xs.length xs.length hi = xs.length)) (h4 : Q (.ref a) H) : rSlTW K x lo hi H Q
theorem sl_tupW : SlR X (rSlTW X.K) := by
  intro pins s σ H x v vl vu lo hi sl Q I rx hs pl pu h
  obtain ⟨a, xs, rfl, hx, hw, q⟩ := h
  cases rx
  obtain ⟨its, r, ht, hz⟩ := I.tuple hx
  have hlen : its.toArray.size = xs.length := by rw [List.size_toArray]; exact r.length.symm
  refine ⟨"tuple", _, PyProof.Rows.slot_tuple_getitem.lookup, ht.typeIs, ?_⟩
  exact HT.getItem_tuple_whole ht hs pl pu (by rw [hlen]; exact hw) ⟨.ref a, H, I, rfl, q⟩
/-- a tuple's part, or the whole of it -/
def rSlTA (K : PySem.W.Frag) : V → Option Int → Option Int → Hp → VK → Prop := fun x lo hi H Q => rSlT K x lo hi H Q ∨ rSlTW K x lo hi H Q
theorem slTA (K : PySem.W.Frag) (e : X.K = K := by rfl) : SlR X (rSlTA K) := by subst e; exact SlR.or sl_tup sl_tupW
end
theorem cut_to (xs : List V) (v : Nat) : cutV xs none (some (v : Int)) = xs.take v := by
  unfold cutV
  have e1 : HT.sIx xs.length 0 none = 0 := rfl
  have e2 : HT.sIx xs.length xs.length (some (v : Int)) = min v xs.length := HT.sIx_nat _ _ v
  rw [e1, e2, List.drop_zero, Nat.sub_zero]
  by_cases h : v ≤ xs.length
  · rw [Nat.min_eq_left h]
  · rw [Nat.min_eq_right (by lia), List.take_of_length_le (Nat.le_refl _), List.take_of_length_le (by lia)]
end L2

/-! own layer, part 26: the sum of a list of ints; tuple + tuple, the first one empty too -/
namespace L2
open PySem PySem.Spec PyProof.Rows PySem.SeqAt
section
variable {X : Cx}
theorem _root_.HT.cat_tup0 {prog : Program} {w : World} {A : Around} {E : Value → Shared → Prop} {s : Shared} {t b : Addr} {ws : List Value} {Q : Value → Shared → Prop} (ht : IsTup s.heap t ([] : List Value).toArray) (hb : IsTup s.heap b ws.toArray)
    (h1 : Q (.ref b) s) : wpAny (model prog w) A (binaryOp .Add (.ref t) (.ref b)) Q E s := by
  obtain ⟨⟨cls, dd, data, sl⟩, ho, hc, n, hd⟩ := id ht
  obtain ⟨⟨cls2, dd2, data2, sl2⟩, ho2, hc2, n2, hd2⟩ := id hb
  simp only at hc hd hc2 hd2
  subst hc hd hc2 hd2
  exact concat_meets ⟨_, ho, rfl⟩ ⟨_, ho2, rfl⟩ noFill_tuple_add seq_tuple_add PySem.F.slot_tuple_add PySem.F.entry_tuple_add (PySem.F.args_tuple_add_2 _ _)
      (tuple_addW0 t b ([] : List Value).toArray ws.toArray n n2 dd dd2 sl sl2 (by simp)) ⟨ho, ho2, h1⟩
/-- t + u, whatever they hold -/
def rCatTA (K : PySem.W.Frag) : R2 := fun x y H Q => rCatT K x y H Q ∨ ∃ a b ys, x = .ref a ∧ y = .ref b ∧ SqT K H a [] ∧ SqT K H b ys ∧ Q (.ref b) H
theorem op_catTA : OpR X (binaryOp .Add) (rCatTA X.K) := by
  intro pins s σ H x y v u Q I rx ry h
  rcases h with h | ⟨a, b, ys, rfl, rfl, ha, hb, q⟩
  · exact op_catT pins s σ H x y v u Q I rx ry h
  · cases rx
    cases ry
    obtain ⟨its, r1, p1, _⟩ := I.tuple ha
    obtain ⟨its2, r2, p2, _⟩ := I.tuple hb
    cases r1
    exact HT.cat_tup0 p1 p2 ⟨.ref b, H, I, rfl, q⟩
theorem catTA (K : PySem.W.Frag) (e : X.K = K := by rfl) : OpR X (binaryOp .Add) (rCatTA K) := by subst e; exact op_catTA
end
theorem cut_from (xs : List V) (v : Nat) : cutV xs (some (v : Int)) none = xs.drop v := by
  unfold cutV
  have e1 : HT.sIx xs.length 0 (some (v : Int)) = min v xs.length := HT.sIx_nat _ _ v
  have e2 : HT.sIx xs.length xs.length none = xs.length := rfl
  rw [e1, e2]
  by_cases h : v ≤ xs.length
  · rw [Nat.min_eq_left h, List.take_of_length_le (by rw [List.length_drop]; exact Nat.le_refl _)]
  · rw [Nat.min_eq_right (by lia), Nat.sub_self, List.take_zero, List.drop_eq_nil_of_le (by lia)]
end L2

/-! own layer, part 27: zip of two lists, in a loop with a tuple of targets -/
namespace L2
open PySem PySem.Spec PyProof.Rows
section
variable {X : Cx} {pins : List (Addr × Obj)} {σ : List (Option V)} {H : Hp} {s : Shared} {h' : Heap}
end
section
variable {X : Cx}
end
end L2

/-! own layer, part 28: the table of a set, where its places are found -/
namespace L2
open PySem PySem.Spec PyProof.Rows
namespace St
open SetTable
def it (mask : Nat) : Nat → Nat → Nat
  | 0, i => i
  | n + 1, i => it mask n ((i * 5 + 1) % (mask + 1))
theorem cover7 : ∀ i : Fin 8, ∀ e : Fin 8, ∃ m : Fin 8, it 7 m.val i.val = e.val := by decide +kernel
theorem cover31 : ∀ i : Fin 32, ∀ e : Fin 32, ∃ m : Fin 32, it 31 m.val i.val = e.val := by decide +kernel
theorem cover {mask : Nat} (hm : mask = 7 ∨ mask = 31) {i e : Nat} (hi : i < mask + 1) (he : e < mask + 1) : ∃ m, m ≤ mask ∧ it mask m i = e := by
  rcases hm with rfl | rfl
  · obtain ⟨m, h⟩ := cover7 ⟨i, hi⟩ ⟨e, he⟩
    exact ⟨m.val, by lia, h⟩
  · obtain ⟨m, h⟩ := cover31 ⟨i, hi⟩ ⟨e, he⟩
    exact ⟨m.val, by lia, h⟩
/-- the places at which a run begins -/
def bs (mask : Nat) (b : Nat) : Nat → Nat × Nat
  | 0 => (b % (mask + 1), b)
  | n + 1 => leap mask (bs mask b n).1 (bs mask b n).2
theorem bs_pert (mask b : Nat) : ∀ n, (bs mask b n).2 = b / 32 ^ n
  | 0 => by show b = b / 1; rw [Nat.div_one]
  | n + 1 => by
    show (bs mask b n).2 / 32 = _
    rw [bs_pert mask b n, Nat.div_div_eq_div_mul, Nat.pow_succ]
theorem bs_lt (mask b : Nat) : ∀ n, (bs mask b n).1 < mask + 1
  | 0 => Nat.mod_lt _ (Nat.succ_pos _)
  | _ + 1 => Nat.mod_lt _ (Nat.succ_pos _)
theorem bits_lt (h : Int) : bits h < 2 ^ 64 := by
  unfold bits
  have h1 : (0 : Int) ≤ h % 2 ^ 64 := Int.emod_nonneg _ (by decide)
  have h2 : h % 2 ^ 64 < 2 ^ 64 := Int.emod_lt_of_pos _ (by decide)
  lia
theorem bs_late {mask b n : Nat} (hb : b < 2 ^ 64) (hn : 13 ≤ n) : (bs mask b n).2 = 0 := by
  rw [bs_pert]
  refine Nat.div_eq_of_lt (Nat.lt_of_lt_of_le hb ?_)
  exact Nat.le_trans (by decide : 2 ^ 64 ≤ 32 ^ 13) (Nat.pow_le_pow_right (by decide) hn)
theorem bs_cyc {mask b : Nat} (hb : b < 2 ^ 64) : ∀ m n, 13 ≤ n → (bs mask b (n + m)).1 = it mask m (bs mask b n).1
  | 0, n, _ => rfl
  | m + 1, n, hn => by
    have ih := bs_cyc (mask := mask) hb m (n + 1) (by lia)
    rw [show n + (m + 1) = n + 1 + m by lia, ih]
    show it mask m (leap mask (bs mask b n).1 (bs mask b n).2).1 = it mask m (((bs mask b n).1 * 5 + 1) % (mask + 1))
    rw [bs_late hb hn]
    rfl
theorem bs_hits {mask b e : Nat} (hm : mask = 7 ∨ mask = 31) (hb : b < 2 ^ 64) (he : e < mask + 1) : ∃ n, n ≤ 13 + mask ∧ (bs mask b n).1 = e := by
  obtain ⟨m, h1, h2⟩ := cover hm (bs_lt mask b 13) he
  exact ⟨13 + m, by lia, by rw [bs_cyc hb m 13 (Nat.le_refl _)]; exact h2⟩
def base (mask i pert : Nat) : Probe := { j := i, more := runEnd mask i - i, i, perturb := pert, dummy := none }
def advs (t : SetTable) : Nat → Probe → Probe
  | 0, p => p
  | n + 1, p => advs t n (t.advance p)
theorem advs_add (t : SetTable) : ∀ m n p, advs t (m + n) p = advs t n (advs t m p)
  | 0, n, p => by rw [Nat.zero_add]; rfl
  | m + 1, n, p => by rw [show m + 1 + n = (m + n) + 1 by lia]; exact advs_add t m n _
theorem run_le (mask i : Nat) : runEnd mask i - i ≤ 9 := by unfold runEnd; split <;> lia
theorem advs_run (t : SetTable) : ∀ (r j i pert : Nat), advs t (r + 1) { j := j, more := r, i := i, perturb := pert, dummy := none } = base t.mask (leap t.mask i pert).1 (leap t.mask i pert).2
  | 0, j, i, pert => rfl
  | r + 1, j, i, pert => by
    have ih := advs_run t r (j + 1) i pert
    show advs t (r + 1) (t.advance { j := j, more := r + 1, i := i, perturb := pert, dummy := none }) = _
    rw [← ih]
    rfl
theorem reach (t : SetTable) (h : Int) : ∀ n, ∃ k, k ≤ 10 * n ∧ advs t k (t.probeStart h) = base t.mask (bs t.mask (bits h) n).1 (bs t.mask (bits h) n).2
  | 0 => ⟨0, Nat.le_refl _, rfl⟩
  | n + 1 => by
    obtain ⟨k, hk, e⟩ := reach t h n
    refine ⟨k + (runEnd t.mask (bs t.mask (bits h) n).1 - (bs t.mask (bits h) n).1 + 1), ?_, ?_⟩
    · have := run_le t.mask (bs t.mask (bits h) n).1
      lia
    · rw [advs_add, e]
      exact advs_run t _ _ _ _
theorem slot_empty {t : SetTable} (hd : t.dummies = #[]) {e : Nat} (he : ∀ i : Nat, t.place[i]? ≠ some e) : t.slot e = .empty := by
  unfold slot
  have h1 : (t.place[below t.place e]? == some e) = false := by
    rw [beq_eq_false_iff_ne]; exact he _
  have h2 : has t.dummies e = false := by
    rw [hd]; unfold has; rfl
  simp only [h1, h2]
  rfl
theorem slot_cases {t : SetTable} (hd : t.dummies = #[]) (j : Nat) : t.slot j = .empty ∨ ∃ i, t.slot j = .live i ∧ t.place[i]? = some j := by
  by_cases h : t.place[below t.place j]? = some j
  · refine .inr ⟨below t.place j, ?_, h⟩
    unfold slot
    have h1 : (t.place[below t.place j]? == some j) = true := by rw [h]; exact beq_self_eq_true _
    simp only [h1]
    rfl
  · refine .inl ?_
    unfold slot
    have h1 : (t.place[below t.place j]? == some j) = false := by rw [beq_eq_false_iff_ne]; exact h
    have h2 : has t.dummies j = false := by rw [hd]; unfold has; rfl
    simp only [h1, h2]
    rfl
def Hit (t : SetTable) (k : Nat) (p : Probe) : Prop := t.slot (advs t k p).j = .empty
theorem adv_dummy (t : SetTable) {p : Probe} (h : p.dummy = none) : (t.advance p).dummy = none := by
  unfold advance
  split
  · exact h
  · exact h
theorem nd_le : ∀ {l m : List Nat}, l.Nodup → (∀ x, x ∈ l → x ∈ m) → l.length ≤ m.length
  | [], m, _, _ => Nat.zero_le _
  | a :: l, m, hn, hs => by
    rw [List.nodup_cons] at hn
    have ha := hs a List.mem_cons_self
    have ih := nd_le (l := l) (m := m.erase a) hn.2 fun x hx => (List.mem_erase_of_ne (fun e : x = a => hn.1 (e ▸ hx))).mpr (hs x (List.mem_cons_of_mem _ hx))
    rw [List.length_erase_of_mem ha] at ih
    have := List.length_pos_of_mem ha
    rw [List.length_cons]; lia
/-- from the start some empty slot is met soon -/
theorem start_hit {t : SetTable} (hm : t.mask = 7 ∨ t.mask = 31) (hd : t.dummies = #[]) (hs : t.place.size ≤ t.mask) (h : Int) : ∃ k, k < 10 * turns t.mask ∧ Hit t k (t.probeStart h) := by
  have he : ∃ e, e < t.mask + 1 ∧ ∀ i : Nat, t.place[i]? ≠ some e := by
    refine Classical.byContradiction fun hn => ?_
    have hall : ∀ e, e < t.mask + 1 → e ∈ t.place.toList := fun e he => by
      refine Classical.byContradiction fun hne => hn ⟨e, he, fun i hi => hne ?_⟩
      exact List.mem_of_getElem? (by rw [Array.getElem?_toList]; exact hi)
    have hsub : (List.range (t.mask + 1)).Subset t.place.toList := fun e he => hall e (List.mem_range.mp he)
    have hlen := nd_le (List.nodup_range (n := t.mask + 1)) hsub
    rw [List.length_range, Array.length_toList] at hlen
    lia
  obtain ⟨e, he1, he2⟩ := he
  obtain ⟨n, hn, hb⟩ := bs_hits (b := bits h) hm (bits_lt h) he1
  obtain ⟨k, hk, hr⟩ := reach t h n
  refine ⟨k, ?_, ?_⟩
  · unfold turns; lia
  · unfold Hit
    rw [hr]
    show t.slot (bs t.mask (bits h) n).1 = _
    rw [hb]
    exact slot_empty hd he2
end St
end L2

/-! own layer, part 29: a number put into a set -/
namespace L2
open PySem PySem.Spec PyProof.Rows
namespace St
open SetTable
section
variable {prog : Program} {w : World} {K : Type} [DecidableEq K] (knd : KeyKind prog w K)
/-- a tuple of ints at a, as a key -/
def IsN (h : Heap) (ks : List K) (a : Addr) : Prop := ∃ o items n, h.get? a = some o ∧ o.cls = .type "tuple" ∧ o.data = .seq items n ∧ ItemsAre knd ks items.toList ∧ ∀ v ∈ items.toList, ∃ k t, v = .int k t
variable {knd}
theorem IsN.key {h : Heap} {ks : List K} {a : Addr} (x : IsN knd h ks a) : IsTupleKey knd h ks a := let ⟨o, i, n, h1, h2, h3, h4, _⟩ := x; ⟨o, i, n, h1, h2, h3, h4⟩
theorem IsN.keep {h h' : Heap} {ks : List K} {a : Addr} (x : IsN knd h ks a) (k : ∀ o, h.get? a = some o → h'.get? a = some o) : IsN knd h' ks a := let ⟨o, i, n, h1, h2⟩ := x; ⟨o, i, n, k o h1, h2⟩
variable {A : Around} {E : Value → Shared → Prop} {s : Shared}
theorem wpAny_seqItemsQ {M : Model} {a : Addr} {o : Obj} {items n} {Q : Option (Array Value) → Shared → Prop} (ho : s.heap.get? a = some o) (hd : o.data = .seq items n) (h : Q (some items) s) : wpAny M A (seqItems? (.ref a)) Q E s := by
  unfold seqItems?
  refine wpAny_bind (wpAny_load ho ?_)
  rw [hd]
  exact wpAny_pure h
theorem hashByValue_n {ks : List K} {a : Addr} {Q : Bool → Shared → Prop} (hk : IsN knd s.heap ks a) (h : Q true s) : wpAny (model prog w) A (hashByValue 8 (.ref a)) Q E s := by
  have hT := hk.key.typeIs
  obtain ⟨o, items, n, ho, _, hd, hi, hall⟩ := hk
  unfold hashByValue
  refine wpAny_bind (wpAny_specialOf hT F.slot_tuple_hash.lookup ?_)
  show wpAny _ _ (seqItems? (.ref a) >>= _) _ _ s
  refine wpAny_bind (wpAny_seqItemsQ ho hd ?_)
  refine wpAny_bind ?_
  show wpAny _ _ (forIn items _ _) _ _ s
  rw [← Array.forIn_toList]
  refine wpAny_forIn_list _ (fun rest r s' => r.1 = none ∧ s' = s ∧ ∀ v ∈ rest, ∃ k t, v = Value.int k t) _ ?_ ?_ _ _ ⟨rfl, rfl, hall⟩
  · rintro v rest r s' ⟨hr, rfl, hall⟩
    obtain ⟨k, t, rfl⟩ := hall v List.mem_cons_self
    refine wpAny_bind (m := hashByValue 7 (.int k t)) (wpAny_pure ?_)
    simp only [Bool.not_true, Bool.false_eq_true, if_false]
    exact wpAny_pure ⟨rfl, rfl, fun u hu' => hall u (List.mem_cons_of_mem _ hu')⟩
  · rintro ⟨r1, r2⟩ s' ⟨hr, rfl, _⟩
    simp only at hr
    subst hr
    exact wpAny_pure h
theorem ofClass_n {ks : List K} {a : Addr} {Q : Bool → Shared → Prop} (hk : IsN knd s.heap ks a) (h : Q false s) : wpAny (model prog w) A (ofAClassStatement 8 (.ref a)) Q E s := by
  have hT := hk.key.typeIs
  obtain ⟨o, items, n, ho, _, hd, hi, hall⟩ := hk
  unfold ofAClassStatement
  refine wpAny_bind (wpAny_typeOf hT ?_)
  refine wpAny_bind (m := pure true) (wpAny_pure ?_)
  simp only [Bool.not_true, Bool.false_eq_true, if_false]
  refine wpAny_bind (wpAny_seqItemsQ ho hd ?_)
  refine wpAny_bind ?_
  show wpAny _ _ (forIn items _ _) _ _ s
  rw [← Array.forIn_toList]
  refine wpAny_forIn_list _ (fun rest r s' => r.1 = none ∧ s' = s ∧ ∀ v ∈ rest, ∃ k t, v = Value.int k t) _ ?_ ?_ _ _ ⟨rfl, rfl, hall⟩
  · rintro v rest r s' ⟨hr, rfl, hall⟩
    obtain ⟨k, t, rfl⟩ := hall v List.mem_cons_self
    refine wpAny_bind (m := ofAClassStatement 7 (.int k t)) (wpAny_pure ?_)
    simp only [Bool.false_eq_true, if_false]
    exact wpAny_pure ⟨rfl, rfl, fun u hu' => hall u (List.mem_cons_of_mem _ hu')⟩
  · rintro ⟨r1, r2⟩ s' ⟨hr, rfl, _⟩
    simp only at hr
    subst hr
    exact wpAny_pure h
/-- elements of a set that are numbers, none of them the key ks -/
def Ns (knd : KeyKind prog w K) (h : Heap) (l : List Value) (ks : List K) : Prop := ∀ v ∈ l, ∃ b k', v = .ref b ∧ IsN knd h k' b ∧ k' ≠ ks
end
end St
end L2

/-! own layer, part 30: a set's table laid anew -/
namespace L2
open PySem PySem.Spec PyProof.Rows
namespace St
open SetTable
theorem free_ok {owner : Array (Option Nat)} {b e : Nat} (he : owner.getD e (some 0) = none) : ∀ (fuel m n : Nat), m < fuel → (bs 31 b (n + m)).1 = e →
    ∃ j, layClean.free 31 owner fuel (bs 31 b n).1 (bs 31 b n).2 = some j ∧ owner.getD j (some 0) = none
  | fuel + 1, m, n, hm, hb => by
    unfold layClean.free
    split
    · next k hk =>
      have := List.find?_some hk
      exact ⟨_, rfl, Option.isNone_iff_eq_none.mp this⟩
    · next hk =>
      cases m with
      | zero =>
        exfalso
        rw [List.find?_eq_none] at hk
        have h0 : (0 : Nat) ∈ List.range (runEnd 31 (bs 31 b n).1 + 1 - (bs 31 b n).1) := List.mem_range.mpr (by unfold runEnd; split <;> lia)
        have h1 := hk 0 h0
        rw [Nat.add_zero] at hb h1
        rw [hb, he] at h1
        exact h1 rfl
      | succ m =>
        obtain ⟨j, h1, h2⟩ := free_ok he fuel m (n + 1) (by lia) (by rw [show n + 1 + m = n + (m + 1) by lia]; exact hb)
        exact ⟨j, h1, h2⟩
def lv (owner : Array (Option Nat)) (j : Nat) : Option (Nat × Nat) := (owner.getD j none).map (j, ·)
theorem lv_set {owner : Array (Option Nat)} {j k : Nat} (hj : owner.getD j (some 0) = none) (hs : owner.size = 32) : (((List.range 32).filterMap (lv (owner.setIfInBounds j (some k)))).map (·.2)).Perm (k :: ((List.range 32).filterMap (lv owner)).map (·.2)) ∧ j < 32 := by
  have hjl : j < 32 := by
    refine Nat.lt_of_not_le fun hle => ?_
    rw [Array.getD_eq_getD_getElem?, Array.getElem?_eq_none (by lia)] at hj
    cases hj
  refine ⟨?_, hjl⟩
  have hsplit : List.range 32 = List.range j ++ j :: (List.range 32).drop (j + 1) := by
    have h1 : (List.range 32)[j]? = some j := List.getElem?_range hjl
    obtain ⟨hlt, hg⟩ := List.getElem?_eq_some_iff.mp h1
    have h2 := (List.take_append_drop j (List.range 32)).symm
    rw [List.drop_eq_getElem_cons hlt, hg, List.take_range, Nat.min_eq_left (by lia)] at h2
    exact h2
  have hne1 : ∀ a ∈ List.range j, lv (owner.setIfInBounds j (some k)) a = lv owner a := fun a ha => by
    have : a ≠ j := by have := List.mem_range.mp ha; lia
    unfold lv
    rw [Array.getD_eq_getD_getElem?, Array.getD_eq_getD_getElem?, Array.getElem?_setIfInBounds_ne (Ne.symm this)]
  have hne2 : ∀ a ∈ (List.range 32).drop (j + 1), lv (owner.setIfInBounds j (some k)) a = lv owner a := fun a ha => by
    have : a ≠ j := by
      obtain ⟨i, hi⟩ := List.getElem?_of_mem ha
      rw [List.getElem?_drop] at hi
      have hi2 := (List.getElem?_eq_some_iff.mp hi)
      obtain ⟨hl, hi3⟩ := hi2
      rw [List.getElem_range] at hi3
      lia
    unfold lv
    rw [Array.getD_eq_getD_getElem?, Array.getD_eq_getD_getElem?, Array.getElem?_setIfInBounds_ne (Ne.symm this)]
  have hnew : lv (owner.setIfInBounds j (some k)) j = some (j, k) := by
    unfold lv
    rw [Array.getD_eq_getD_getElem?, Array.getElem?_setIfInBounds_self_of_lt (by lia)]; rfl
  have hold : lv owner j = none := by
    unfold lv
    rw [Array.getD_eq_getD_getElem?] at hj ⊢
    have hlt : j < owner.size := by lia
    rw [Array.getElem?_eq_getElem hlt] at hj ⊢
    show (owner[j]).map _ = none
    have hj' : owner[j] = none := hj
    rw [hj']; rfl
  have hcong : ∀ {l : List Nat}, (∀ a ∈ l, lv (owner.setIfInBounds j (some k)) a = lv owner a) → l.filterMap (lv (owner.setIfInBounds j (some k))) = l.filterMap (lv owner) := fun {l} h => by
    induction l with
    | nil => rfl
    | cons a l ih =>
      rw [List.filterMap_cons, List.filterMap_cons, h a List.mem_cons_self, ih fun b hb => h b (List.mem_cons_of_mem _ hb)]
  rw [hsplit, List.filterMap_append, List.filterMap_append, List.filterMap_cons_some hnew, List.filterMap_cons_none hold, hcong hne1, hcong hne2, List.map_append, List.map_append, List.map_cons]
  exact List.perm_middle
/-- owner holds 0 .. k - 1, each once -/
def Own (owner : Array (Option Nat)) (k : Nat) : Prop := owner.size = 32 ∧ (((List.range 32).filterMap (lv owner)).map (·.2)).Perm (List.range k)
theorem own_free {owner : Array (Option Nat)} {k : Nat} (ho : Own owner k) (hk : k < 32) : ∃ e, e < 32 ∧ owner.getD e (some 0) = none := by
  refine Classical.byContradiction fun hn => ?_
  have hall : ∀ e, e < 32 → owner.getD e (some 0) ≠ none := fun e he z => hn ⟨e, he, z⟩
  have hlen := ho.2.length_eq
  rw [List.length_map, List.length_range] at hlen
  have hall2 : ∀ a ∈ List.range 32, (lv owner a).isSome = true := fun a ha => by
    have ha' := List.mem_range.mp ha
    have h1 := hall a ha'
    unfold lv
    rw [Array.getD_eq_getD_getElem?] at h1 ⊢
    have hlt : a < owner.size := by rw [ho.1]; exact ha'
    rw [Array.getElem?_eq_getElem hlt] at h1 ⊢
    cases hc : owner[a] with
    | none => rw [hc] at h1; exact absurd rfl h1
    | some v => show ((some v).map (fun x => (a, x))).isSome = true; rfl
  have hfl : ∀ {l : List Nat}, (∀ a ∈ l, (lv owner a).isSome = true) → (l.filterMap (lv owner)).length = l.length := fun {l} h => by
    induction l with
    | nil => rfl
    | cons a l ih =>
      obtain ⟨v, hv⟩ := Option.isSome_iff_exists.mp (h a List.mem_cons_self)
      rw [List.filterMap_cons_some hv, List.length_cons, List.length_cons, ih fun b hb => h b (List.mem_cons_of_mem _ hb)]
  rw [hfl hall2, List.length_range] at hlen
  lia
def stp (acc : Option (Array (Option Nat) × Nat)) (h : Int) : Option (Array (Option Nat) × Nat) := do
  let (owner, k) ← acc
  let j ← layClean.free 31 owner (turns 31) (bits h % (31 + 1)) (bits h)
  pure (owner.setIfInBounds j (some k), k + 1)
theorem stp_ok {owner : Array (Option Nat)} {k : Nat} (ho : Own owner k) (hk : k < 32) (h : Int) : ∃ owner', stp (some (owner, k)) h = some (owner', k + 1) ∧ Own owner' (k + 1) := by
  obtain ⟨e, he, hn⟩ := own_free ho hk
  obtain ⟨n, hn1, hn2⟩ := bs_hits (mask := 31) (b := bits h) (.inr rfl) (bits_lt h) (show e < 31 + 1 by lia)
  obtain ⟨j, hj1, hj2⟩ := free_ok (owner := owner) (b := bits h) hn (turns 31) n 0 (by unfold turns; lia) (by rw [Nat.zero_add]; exact hn2)
  have hp := lv_set (k := k) hj2 ho.1
  refine ⟨owner.setIfInBounds j (some k), ?_, ?_, ?_⟩
  · have hj1' : layClean.free 31 owner (turns 31) (bits h % (31 + 1)) (bits h) = some j := hj1
    show (do let j ← layClean.free 31 owner (turns 31) (bits h % (31 + 1)) (bits h); pure (owner.setIfInBounds j (some k), k + 1)) = _
    rw [hj1']; rfl
  · rw [Array.size_setIfInBounds]; exact ho.1
  · refine hp.1.trans ?_
    rw [show List.range (k + 1) = List.range k ++ [k] from List.range_succ]
    exact (List.Perm.cons k ho.2).trans (List.perm_append_comm (l₁ := [k]))
theorem own_none : Own (Array.replicate 32 none) 0 := by
  refine ⟨Array.size_replicate, ?_⟩
  have : (List.range 32).filterMap (lv (Array.replicate 32 none)) = [] := by decide +kernel
  rw [this]; exact List.Perm.refl _
end St
end L2

/-! own layer, part 31: a number put into a set of unlike numbers; set of a list of them; its length -/
namespace L2
open PySem PySem.Spec PyProof.Rows
namespace St
open SetTable
section
variable {prog : Program} {w : World} {K : Type} [DecidableEq K] (knd : KeyKind prog w K) (G : Addr → Prop)
variable {knd} {G}
variable {A : Around} {E : Value → Shared → Prop} {s : Shared}
theorem insert_size {α : Type} (xs : Array α) (p : Nat) (x : α) : (insertAt xs p x).size = xs.size + 1 := by
  have h := (SetTable.insertAt_perm xs p x).length_eq
  rw [Array.length_toList, Array.length_toList, Array.size_push] at h
  exact h
end
end St
end L2

/-! own layer, part 32: set of a list of unlike numbers, its length -/
namespace L2
open PySem PySem.Spec PyProof.Rows
namespace St
section
variable {prog : Program} {w : World} {K : Type} [DecidableEq K] {knd : KeyKind prog w K} {G : Addr → Prop} {A : Around} {R : Result → Shared → Prop} {I : Addr} {fp wr : List Addr} {GG : Array GenState → Array GenState → Prop} {n : Nat} {P : Nat → Value → Prop} {St : Nat → Shared → Prop}
/-- one turn of the loop that fills a set -/
theorem turn_of {S : Addr} {s : Shared} (hz : wpAny (model prog w) A.in1 (Builtin.«set.update.loop» ⟨[.ref S, .ref I], []⟩)
      (fun fin s' => match fin with | .done f => R (.ok f) s' | .again c' => c'.quiet = true ∧ codeAny (model prog w) A c' R s') (fun e s' => R (.error e) s') s) :
    codeAny (model prog w) A (.builtin "set.update.loop" ⟨[.ref S, .ref I], []⟩) R s :=
  codeAny_builtin F.entry_set_update_loop ((Around.under_plainId F.plain_set_update_loop (A := A) ⟨[.ref S, .ref I], []⟩).symm ▸ hz)
end
section
variable {prog : Program} {w : World} {K : Type} [DecidableEq K] {knd : KeyKind prog w K} {A : Around} {E : Value → Shared → Prop} {s : Shared}
/-- an empty set, an iterator of a list, as they are made -/
abbrev nS (led : Bool) : Obj := { cls := .type "set", dict := none, data := .set #[] 0 (.fresh 0 0 led) }
abbrev nI (l : Addr) : Obj := { cls := .type "list_iterator", data := .fields #[.ref l, .int 0 0] }
end
end St
end L2

/-! own layer, part 33: set of a list of unlike numbers, and its length, as rules -/
namespace L2
open PySem PySem.Spec PyProof.Rows
theorem bt_set : bootBuiltins "set" = some (.type "set") := by decide +kernel
/-- a set of n things, by its own object -/
def SetO (p : Addr) (n : Nat) : HO := .ext fun h => ∃ o es ep t, h.get? p = some o ∧ o.ExactSet ∧ o.data = .set es ep t ∧ SetTable.fits t es.size = true ∧ es.size = n
theorem isN_of {P : Program} {w : World} {H : Hp} {h : Heap} {a : Addr} {q : Rat} (ok : HOk P w H h) (e : H a = some (nT q)) : St.IsN (mixKind P w) h (kQ q) a := by
  obtain ⟨_, its, rv, o, ho, hc, n, hd⟩ := ok a _ e
  refine ⟨o, its.toArray, n, ho, hc, hd, items_are (ks := kQ q) rv, fun v hv => ?_⟩
  have hv' : v ∈ its := by simpa using hv
  cases rv with
  | cons r1 rr =>
    cases rr with
    | cons r2 rr =>
      cases rr
      obtain ⟨t1, rfl⟩ := r1
      obtain ⟨t2, rfl⟩ := r2
      rcases List.mem_cons.mp hv' with z | z
      · exact ⟨_, _, z⟩
      · exact ⟨_, _, List.mem_singleton.mp z⟩
section
variable {X : Cx}
theorem call_lenS : CallR X (.builtin "len") (fun xs H Q => ∃ (p : Addr) (n : Nat), xs = [.ref p] ∧ H p = some (SetO p n) ∧ n ≤ 1000 ∧ Q (.int (n : Int)) H) := by
  intro pins s σ H xs us Q I r h
  obtain ⟨p, n, rfl, hp, hn, q⟩ := h
  obtain ⟨u, rfl, rfl⟩ := vals1 r
  obtain ⟨⟨o, es, ep, t, h1, h2, h3, h4, h5⟩, _⟩ := I.hok p _ hp
  subst h5
  exact call_len_set h1 h2 h3 h4 (by lia) ⟨.int _, H, I.tok _, ⟨_, rfl⟩, q⟩
end
end L2

/-! own layer, part 34: isinstance of a list or a tuple, and several types -/
namespace L2
open PySem PySem.Spec PyProof.Rows
section
open PySem.W
variable {X : Cx} (K : PySem.W.Frag)
theorem kitA_l : kitAny K (.type "list") [.type "list", .type "tuple"] = some true := by kernel_rfl
theorem kitA_t : kitAny K (.type "tuple") [.type "list", .type "tuple"] = some true := by kernel_rfl
end
end L2

/-! own layer, part 35: a list comprehension whose target lies in a cell (another comprehension within closes over it) -/
namespace L2
open PySem PySem.Spec PyProof.Rows

structure CompOkC (X : Cx) (N : List Str) (nt : Nat) (js : List Nat) (scope : Scope) (x : Str) : Prop where
  kind : scope.kind = .function
  split : ∃ pre post, scope.names = pre ++ (x, .cell) :: post ∧ (∀ y ∈ pre, y.2 ≠ .cell) ∧ ∀ y ∈ post, y.2 ≠ .cell
  only : ∀ y ∈ scope.names, y.2 = .cell → y.1 = x
  lx : scope.names.lookup x = some .cell
  names : ∀ y ∈ scope.names, y.2 = .local → scope.names.lookup y.1 = some .local
  free : ∀ y ∈ scope.names, y.2 = .free → X.env.kindOf y.1 = some .cell ∨ X.env.kindOf y.1 = some .free
  len : N.length = nt + js.length
  outer : ∀ j i, js[j]? = some i → ∃ x, N[nt + j]? = some x ∧ X.N[i]? = some x ∧ scope.names.lookup x = some .free

section
variable {X : Cx} {N : List Str} {nt : Nat} {js : List Nat} {scope : Scope} {cl : List (Str × Addr)} {x : Str} {c : Addr}
end

section
variable {X : Cx} {N : List Str} {nt : Nat} {js : List Nat} {scope : Scope} {elt iter tg : Expr} {ifs : List Expr} {pos : Pos} {g : TG} {tc : TT} {te : TE} {wi : TI} {xn : Str}
end

end L2

/-! own layer, part 36: what follows a statement is written once -/
namespace L2
open PySem PySem.Spec PyProof.Rows
@[reducible] def Cl (u : PySem.W.Frag → TS) (K : PySem.W.Frag) : TS := u K
theorem pss_consC {X : Cx} {st : Stmt} {rest : List Stmt} {t v : TS} {K : PySem.W.Frag} {u : PySem.W.Frag → TS} (h1 : PS X st t) (h2 : PSs X rest v) (e : v = u K) : PSs X (st :: rest) (tSeq t (Cl u K)) := by
  subst e; exact pss_cons h1 h2
section
variable {X : Cx} {o e : Expr} {es : List Expr} {to : TE} {t : TA} {name : Str} {apos cpos : Pos} {T id : String} {r : V → List V → Hp → VK → Prop}
theorem pe_bmK (K : PySem.W.Frag) (pa : PlainAttrs T) (slot : Slot T name id) (hty : typeOf (.builtin id) = pure (.type "method_descriptor")) (hm : MtR X id r) (ho : PE X o to) (ha : PA X (e :: es) t)
    (hbase : attributeBase o name X.env (eval o X.env) = eval o X.env := by rfl)
    (hfew : ((backTo cpos (starEach (e :: es) X.env)).all (fun x => !x.1) && (backToKw cpos (keywordEach [] X.env)).all (fun x => x.1.isSome)
      && decide ((e :: es).length + ([] : List Keyword).length + (if ([] : List Keyword).isEmpty then 0 else 1) < 30)) = true := by rfl)
    (hline : (apos.endLine == cpos.line) = true := by rfl) (hs : starEach (e :: es) X.env = (false, eval e X.env) :: starEach es X.env := by rfl) (hplain : (backTo cpos (starEach es X.env)).any (·.1) = false := by rfl) (eK : X.K = K := by rfl) :
    PE X (.Call (.Attribute o name apos) (e :: es) [] cpos) (tBM K T r to t) := pe_bm pa slot hty hm ho ha hbase hfew hline hs hplain eK
end
theorem iteTc {c : Bool} {A B : Prop} (e : c = true) (h : A) : if c = true then A else B := by
  rw [if_pos e]; exact h
theorem iteFc {c : Bool} {A B : Prop} (e : c = false) (h : B) : if c = true then A else B := by
  rw [if_neg (by rw [e]; decide)]; exact h
theorem len_succ {α : Type} {l : List α} {n : Nat} (h : l.length = n + 1) : ∃ a r, l = a :: r ∧ r.length = n := by
  cases l with
  | nil => cases h
  | cons a r => exact ⟨a, r, rfl, Nat.succ.inj h⟩
theorem Fun.binds1 {K : PySem.W.Frag} {x qual : Str} {st : Stmt} {f : Addr} {fd : FuncData} (p1 : Str) (F : Fun K x qual st f fd)
    (h : ∀ (kV doc pm : Value) (an : Option Addr) (cdv ct a1 : Value), bindArgs (PySem.W.fnOf x qual (defArgs st) (defBody st) (defScope st) .none kV doc pm an cdv ct) ⟨[a1], []⟩ = pure [(p1, a1)]) : Binds K fd [p1] [] :=
  F.binds fun kV doc pm an cdv ct us l0 => by
    obtain ⟨a1, r1, rfl, l1⟩ := len_succ l0
    cases List.length_eq_zero_iff.mp l1
    exact h kV doc pm an cdv ct a1
theorem Fun.binds2 {K : PySem.W.Frag} {x qual : Str} {st : Stmt} {f : Addr} {fd : FuncData} (p1 p2 : Str) (F : Fun K x qual st f fd)
    (h : ∀ (kV doc pm : Value) (an : Option Addr) (cdv ct a1 a2 : Value), bindArgs (PySem.W.fnOf x qual (defArgs st) (defBody st) (defScope st) .none kV doc pm an cdv ct) ⟨[a1, a2], []⟩ = pure [(p1, a1), (p2, a2)]) : Binds K fd [p1, p2] [] :=
  F.binds fun kV doc pm an cdv ct us l0 => by
    obtain ⟨a1, r1, rfl, l1⟩ := len_succ l0
    obtain ⟨a2, r2, rfl, l2⟩ := len_succ l1
    cases List.length_eq_zero_iff.mp l2
    exact h kV doc pm an cdv ct a1 a2
@[reducible] def L1 {α1 : Type} {δ : Type} (x1 : α1) (u : α1 → δ) : δ := u x1
@[reducible] def L2 {α1 α2 : Type} {δ : Type} (x1 : α1) (x2 : α2) (u : α1 → α2 → δ) : δ := u x1 x2
@[reducible] def L3 {α1 α2 α3 : Type} {δ : Type} (x1 : α1) (x2 : α2) (x3 : α3) (u : α1 → α2 → α3 → δ) : δ := u x1 x2 x3
@[reducible] def L4 {α1 α2 α3 α4 : Type} {δ : Type} (x1 : α1) (x2 : α2) (x3 : α3) (x4 : α4) (u : α1 → α2 → α3 → α4 → δ) : δ := u x1 x2 x3 x4
@[reducible] def L5 {α1 α2 α3 α4 α5 : Type} {δ : Type} (x1 : α1) (x2 : α2) (x3 : α3) (x4 : α4) (x5 : α5) (u : α1 → α2 → α3 → α4 → α5 → δ) : δ := u x1 x2 x3 x4 x5
@[reducible] def L6 {α1 α2 α3 α4 α5 α6 : Type} {δ : Type} (x1 : α1) (x2 : α2) (x3 : α3) (x4 : α4) (x5 : α5) (x6 : α6) (u : α1 → α2 → α3 → α4 → α5 → α6 → δ) : δ := u x1 x2 x3 x4 x5 x6
@[reducible] def L7 {α1 α2 α3 α4 α5 α6 α7 : Type} {δ : Type} (x1 : α1) (x2 : α2) (x3 : α3) (x4 : α4) (x5 : α5) (x6 : α6) (x7 : α7) (u : α1 → α2 → α3 → α4 → α5 → α6 → α7 → δ) : δ := u x1 x2 x3 x4 x5 x6 x7
@[reducible] def L8 {α1 α2 α3 α4 α5 α6 α7 α8 : Type} {δ : Type} (x1 : α1) (x2 : α2) (x3 : α3) (x4 : α4) (x5 : α5) (x6 : α6) (x7 : α7) (x8 : α8) (u : α1 → α2 → α3 → α4 → α5 → α6 → α7 → α8 → δ) : δ := u x1 x2 x3 x4 x5 x6 x7 x8
@[reducible] def L9 {α1 α2 α3 α4 α5 α6 α7 α8 α9 : Type} {δ : Type} (x1 : α1) (x2 : α2) (x3 : α3) (x4 : α4) (x5 : α5) (x6 : α6) (x7 : α7) (x8 : α8) (x9 : α9) (u : α1 → α2 → α3 → α4 → α5 → α6 → α7 → α8 → α9 → δ) : δ := u x1 x2 x3 x4 x5 x6 x7 x8 x9
@[reducible] def L10 {α1 α2 α3 α4 α5 α6 α7 α8 α9 α10 : Type} {δ : Type} (x1 : α1) (x2 : α2) (x3 : α3) (x4 : α4) (x5 : α5) (x6 : α6) (x7 : α7) (x8 : α8) (x9 : α9) (x10 : α10) (u : α1 → α2 → α3 → α4 → α5 → α6 → α7 → α8 → α9 → α10 → δ) : δ := u x1 x2 x3 x4 x5 x6 x7 x8 x9 x10
@[reducible] def L11 {α1 α2 α3 α4 α5 α6 α7 α8 α9 α10 α11 : Type} {δ : Type} (x1 : α1) (x2 : α2) (x3 : α3) (x4 : α4) (x5 : α5) (x6 : α6) (x7 : α7) (x8 : α8) (x9 : α9) (x10 : α10) (x11 : α11) (u : α1 → α2 → α3 → α4 → α5 → α6 → α7 → α8 → α9 → α10 → α11 → δ) : δ := u x1 x2 x3 x4 x5 x6 x7 x8 x9 x10 x11
@[reducible] def L12 {α1 α2 α3 α4 α5 α6 α7 α8 α9 α10 α11 α12 : Type} {δ : Type} (x1 : α1) (x2 : α2) (x3 : α3) (x4 : α4) (x5 : α5) (x6 : α6) (x7 : α7) (x8 : α8) (x9 : α9) (x10 : α10) (x11 : α11) (x12 : α12) (u : α1 → α2 → α3 → α4 → α5 → α6 → α7 → α8 → α9 → α10 → α11 → α12 → δ) : δ := u x1 x2 x3 x4 x5 x6 x7 x8 x9 x10 x11 x12
@[reducible] def L13 {α1 α2 α3 α4 α5 α6 α7 α8 α9 α10 α11 α12 α13 : Type} {δ : Type} (x1 : α1) (x2 : α2) (x3 : α3) (x4 : α4) (x5 : α5) (x6 : α6) (x7 : α7) (x8 : α8) (x9 : α9) (x10 : α10) (x11 : α11) (x12 : α12) (x13 : α13) (u : α1 → α2 → α3 → α4 → α5 → α6 → α7 → α8 → α9 → α10 → α11 → α12 → α13 → δ) : δ := u x1 x2 x3 x4 x5 x6 x7 x8 x9 x10 x11 x12 x13
@[reducible] def L14 {α1 α2 α3 α4 α5 α6 α7 α8 α9 α10 α11 α12 α13 α14 : Type} {δ : Type} (x1 : α1) (x2 : α2) (x3 : α3) (x4 : α4) (x5 : α5) (x6 : α6) (x7 : α7) (x8 : α8) (x9 : α9) (x10 : α10) (x11 : α11) (x12 : α12) (x13 : α13) (x14 : α14) (u : α1 → α2 → α3 → α4 → α5 → α6 → α7 → α8 → α9 → α10 → α11 → α12 → α13 → α14 → δ) : δ := u x1 x2 x3 x4 x5 x6 x7 x8 x9 x10 x11 x12 x13 x14
@[reducible] def L15 {α1 α2 α3 α4 α5 α6 α7 α8 α9 α10 α11 α12 α13 α14 α15 : Type} {δ : Type} (x1 : α1) (x2 : α2) (x3 : α3) (x4 : α4) (x5 : α5) (x6 : α6) (x7 : α7) (x8 : α8) (x9 : α9) (x10 : α10) (x11 : α11) (x12 : α12) (x13 : α13) (x14 : α14) (x15 : α15) (u : α1 → α2 → α3 → α4 → α5 → α6 → α7 → α8 → α9 → α10 → α11 → α12 → α13 → α14 → α15 → δ) : δ := u x1 x2 x3 x4 x5 x6 x7 x8 x9 x10 x11 x12 x13 x14 x15
@[reducible] def L16 {α1 α2 α3 α4 α5 α6 α7 α8 α9 α10 α11 α12 α13 α14 α15 α16 : Type} {δ : Type} (x1 : α1) (x2 : α2) (x3 : α3) (x4 : α4) (x5 : α5) (x6 : α6) (x7 : α7) (x8 : α8) (x9 : α9) (x10 : α10) (x11 : α11) (x12 : α12) (x13 : α13) (x14 : α14) (x15 : α15) (x16 : α16) (u : α1 → α2 → α3 → α4 → α5 → α6 → α7 → α8 → α9 → α10 → α11 → α12 → α13 → α14 → α15 → α16 → δ) : δ := u x1 x2 x3 x4 x5 x6 x7 x8 x9 x10 x11 x12 x13 x14 x15 x16
@[reducible] def L17 {α1 α2 α3 α4 α5 α6 α7 α8 α9 α10 α11 α12 α13 α14 α15 α16 α17 : Type} {δ : Type} (x1 : α1) (x2 : α2) (x3 : α3) (x4 : α4) (x5 : α5) (x6 : α6) (x7 : α7) (x8 : α8) (x9 : α9) (x10 : α10) (x11 : α11) (x12 : α12) (x13 : α13) (x14 : α14) (x15 : α15) (x16 : α16) (x17 : α17) (u : α1 → α2 → α3 → α4 → α5 → α6 → α7 → α8 → α9 → α10 → α11 → α12 → α13 → α14 → α15 → α16 → α17 → δ) : δ := u x1 x2 x3 x4 x5 x6 x7 x8 x9 x10 x11 x12 x13 x14 x15 x16 x17
@[reducible] def L18 {α1 α2 α3 α4 α5 α6 α7 α8 α9 α10 α11 α12 α13 α14 α15 α16 α17 α18 : Type} {δ : Type} (x1 : α1) (x2 : α2) (x3 : α3) (x4 : α4) (x5 : α5) (x6 : α6) (x7 : α7) (x8 : α8) (x9 : α9) (x10 : α10) (x11 : α11) (x12 : α12) (x13 : α13) (x14 : α14) (x15 : α15) (x16 : α16) (x17 : α17) (x18 : α18) (u : α1 → α2 → α3 → α4 → α5 → α6 → α7 → α8 → α9 → α10 → α11 → α12 → α13 → α14 → α15 → α16 → α17 → α18 → δ) : δ := u x1 x2 x3 x4 x5 x6 x7 x8 x9 x10 x11 x12 x13 x14 x15 x16 x17 x18
@[reducible] def L19 {α1 α2 α3 α4 α5 α6 α7 α8 α9 α10 α11 α12 α13 α14 α15 α16 α17 α18 α19 : Type} {δ : Type} (x1 : α1) (x2 : α2) (x3 : α3) (x4 : α4) (x5 : α5) (x6 : α6) (x7 : α7) (x8 : α8) (x9 : α9) (x10 : α10) (x11 : α11) (x12 : α12) (x13 : α13) (x14 : α14) (x15 : α15) (x16 : α16) (x17 : α17) (x18 : α18) (x19 : α19) (u : α1 → α2 → α3 → α4 → α5 → α6 → α7 → α8 → α9 → α10 → α11 → α12 → α13 → α14 → α15 → α16 → α17 → α18 → α19 → δ) : δ := u x1 x2 x3 x4 x5 x6 x7 x8 x9 x10 x11 x12 x13 x14 x15 x16 x17 x18 x19
@[reducible] def L20 {α1 α2 α3 α4 α5 α6 α7 α8 α9 α10 α11 α12 α13 α14 α15 α16 α17 α18 α19 α20 : Type} {δ : Type} (x1 : α1) (x2 : α2) (x3 : α3) (x4 : α4) (x5 : α5) (x6 : α6) (x7 : α7) (x8 : α8) (x9 : α9) (x10 : α10) (x11 : α11) (x12 : α12) (x13 : α13) (x14 : α14) (x15 : α15) (x16 : α16) (x17 : α17) (x18 : α18) (x19 : α19) (x20 : α20) (u : α1 → α2 → α3 → α4 → α5 → α6 → α7 → α8 → α9 → α10 → α11 → α12 → α13 → α14 → α15 → α16 → α17 → α18 → α19 → α20 → δ) : δ := u x1 x2 x3 x4 x5 x6 x7 x8 x9 x10 x11 x12 x13 x14 x15 x16 x17 x18 x19 x20
@[reducible] def L21 {α1 α2 α3 α4 α5 α6 α7 α8 α9 α10 α11 α12 α13 α14 α15 α16 α17 α18 α19 α20 α21 : Type} {δ : Type} (x1 : α1) (x2 : α2) (x3 : α3) (x4 : α4) (x5 : α5) (x6 : α6) (x7 : α7) (x8 : α8) (x9 : α9) (x10 : α10) (x11 : α11) (x12 : α12) (x13 : α13) (x14 : α14) (x15 : α15) (x16 : α16) (x17 : α17) (x18 : α18) (x19 : α19) (x20 : α20) (x21 : α21) (u : α1 → α2 → α3 → α4 → α5 → α6 → α7 → α8 → α9 → α10 → α11 → α12 → α13 → α14 → α15 → α16 → α17 → α18 → α19 → α20 → α21 → δ) : δ := u x1 x2 x3 x4 x5 x6 x7 x8 x9 x10 x11 x12 x13 x14 x15 x16 x17 x18 x19 x20 x21
@[reducible] def L22 {α1 α2 α3 α4 α5 α6 α7 α8 α9 α10 α11 α12 α13 α14 α15 α16 α17 α18 α19 α20 α21 α22 : Type} {δ : Type} (x1 : α1) (x2 : α2) (x3 : α3) (x4 : α4) (x5 : α5) (x6 : α6) (x7 : α7) (x8 : α8) (x9 : α9) (x10 : α10) (x11 : α11) (x12 : α12) (x13 : α13) (x14 : α14) (x15 : α15) (x16 : α16) (x17 : α17) (x18 : α18) (x19 : α19) (x20 : α20) (x21 : α21) (x22 : α22) (u : α1 → α2 → α3 → α4 → α5 → α6 → α7 → α8 → α9 → α10 → α11 → α12 → α13 → α14 → α15 → α16 → α17 → α18 → α19 → α20 → α21 → α22 → δ) : δ := u x1 x2 x3 x4 x5 x6 x7 x8 x9 x10 x11 x12 x13 x14 x15 x16 x17 x18 x19 x20 x21 x22
@[reducible] def L23 {α1 α2 α3 α4 α5 α6 α7 α8 α9 α10 α11 α12 α13 α14 α15 α16 α17 α18 α19 α20 α21 α22 α23 : Type} {δ : Type} (x1 : α1) (x2 : α2) (x3 : α3) (x4 : α4) (x5 : α5) (x6 : α6) (x7 : α7) (x8 : α8) (x9 : α9) (x10 : α10) (x11 : α11) (x12 : α12) (x13 : α13) (x14 : α14) (x15 : α15) (x16 : α16) (x17 : α17) (x18 : α18) (x19 : α19) (x20 : α20) (x21 : α21) (x22 : α22) (x23 : α23) (u : α1 → α2 → α3 → α4 → α5 → α6 → α7 → α8 → α9 → α10 → α11 → α12 → α13 → α14 → α15 → α16 → α17 → α18 → α19 → α20 → α21 → α22 → α23 → δ) : δ := u x1 x2 x3 x4 x5 x6 x7 x8 x9 x10 x11 x12 x13 x14 x15 x16 x17 x18 x19 x20 x21 x22 x23
@[reducible] def L24 {α1 α2 α3 α4 α5 α6 α7 α8 α9 α10 α11 α12 α13 α14 α15 α16 α17 α18 α19 α20 α21 α22 α23 α24 : Type} {δ : Type} (x1 : α1) (x2 : α2) (x3 : α3) (x4 : α4) (x5 : α5) (x6 : α6) (x7 : α7) (x8 : α8) (x9 : α9) (x10 : α10) (x11 : α11) (x12 : α12) (x13 : α13) (x14 : α14) (x15 : α15) (x16 : α16) (x17 : α17) (x18 : α18) (x19 : α19) (x20 : α20) (x21 : α21) (x22 : α22) (x23 : α23) (x24 : α24) (u : α1 → α2 → α3 → α4 → α5 → α6 → α7 → α8 → α9 → α10 → α11 → α12 → α13 → α14 → α15 → α16 → α17 → α18 → α19 → α20 → α21 → α22 → α23 → α24 → δ) : δ := u x1 x2 x3 x4 x5 x6 x7 x8 x9 x10 x11 x12 x13 x14 x15 x16 x17 x18 x19 x20 x21 x22 x23 x24
theorem ps_ifC {X : Cx} {c : Expr} {a b : List Stmt} {pos : Pos} {tc : TT} {v1 v2 : TS} {K : PySem.W.Frag} {u1 u2 : PySem.W.Frag → TS} (hc : PT X c tc) (ha : PSs X a v1) (hb : PSs X b v2) (e1 : v1 = u1 K) (e2 : v2 = u2 K) : PS X (.If c a b pos) (tIfS tc (Cl u1 K) (Cl u2 K)) := by
  subst e1; subst e2; exact ps_if hc ha hb
theorem ps_forC {X : Cx} {tg iter : Expr} {body : List Stmt} {wi : TI} {g : TG} {v : TS} {pos : Pos} {K : PySem.W.Frag} {u : PySem.W.Frag → TS} (hp : PassesOwn (model X.prog X.w) X.A X.env X.xe) (hc : X.calm = true) (hi : PI X tg iter wi) (hg : PG X tg g) (hb : PSs X body v) (e : v = u K)
    (hs : ∀ x, foldedSetIterable iter X.env x = pure x := by intro _; rfl) : PS X (.For tg iter body [] pos) (tFor wi g (Cl u K)) := by
  subst e; exact ps_for hp hc hi hg hb hs
/-! ### what lia would say, said once -/
theorem nat_diff {a b c d : Nat} (h1 : a = c) (h2 : b = d) : ((a : Int) - (b : Int)).toNat = c - d := by rw [h1, h2]; exact Int.toNat_sub c d
theorem nat_pred {a b : Nat} (h : a = b) : ((a : Int) - 1).toNat = b - 1 := nat_diff (b := 1) h rfl
theorem nat_204 {a k m t b : Nat} (ha : a ≤ 200) (hk : k < m - 1) (hm : m = 2 ∨ m = 3) (e : a = t) : t + min k b ≤ 204 := by
  rw [← e]
  have h4 : k ≤ 4 := by
    rcases hm with rfl | rfl
    · exact Nat.le_trans (Nat.le_of_lt hk) (by decide)
    · exact Nat.le_trans (Nat.le_of_lt hk) (by decide)
  exact Nat.add_le_add ha (Nat.le_trans (Nat.min_le_left _ _) h4)
end L2

/-! own layer, part 50: an exception whose context is None: its flight, its landing; the ends of lists and tuples while it is handled -/
namespace L2
open PySem PySem.Spec PyProof.Rows
/-- an exception of class c flies over B, its context is None, its first entry's mark is m -/
def Fly2 (B : Heap) (l : List Env) (e : Addr) (c a0 m : Value) (h : Heap) : Prop :=
  B.StaysIn h ∧ B.get? e = none ∧ h.FunFrames B l ∧ ∃ (o : Obj) (v : Array Value) (T : Addr) (oT : Obj) (ts : Array Value), h.get? e = some o ∧ o.cls = c ∧ o.data = .fields v ∧ v[0]? = some a0 ∧ v[2]? = some .none ∧
    v[1]? = some (.ref T) ∧ B.get? T = none ∧ T ≠ e ∧ h.get? T = some oT ∧ oT.data = .fields ts ∧ ts[3]? = some m
theorem Fly2.fly {B h : Heap} {l : List Env} {e : Addr} {c a0 : Value} (x : Fly2 B l e c a0 .none h) : Heap.FlyingW B l e c a0 h := by
  obtain ⟨b1, b2, b3, o, v, T, oT, ts, q1, q2, q3, q4, _, q6⟩ := x
  exact ⟨b1, b2, b3, o, v, T, oT, ts, q1, ⟨q2, q4⟩, q3, q6⟩
/-- what is known of a caught one -/
def Ctx0 (o : Obj) : Prop := ∃ v, o.data = .fields v ∧ v[2]? = some .none
section
variable {M : Model} {A : Around} {E : Value → Shared → Prop} {s : Shared} {B : Heap} {env : Env} {outer : List Env} {L e : Addr}
/-- the entry is made -/
theorem note2_core {o : Obj} {v : Array Value} {hd0 a0 : Value} {had : Bool} {Q : Unit → Shared → Prop} (hA : A.frames = some (env :: outer)) (hF : s.heap.FunFrames B (env :: outer)) (hL : env.frame = some L)
    (he : s.heap.get? e = some o) (hB : B.StaysIn s.heap) (hn : B.get? e = none) (hv : o.data = .fields v) (z1 : 1 < v.size) (z0 : v[0]? = some a0) (z2 : v[2]? = some .none)
    (k : ∀ h', Fly2 B (env :: outer) e o.cls a0 (rawInt L) h' → s.heap.UpToSlots h' → Q () { s with heap := h' }) :
    wpAny M A (do let fr ← frameOf env; let ps ← entryPlaceOf L had; let en ← EntryCells.newEntry hd0 fr .none (rawInt L) .none ps; setField (.ref e) 1 en) Q E s := by
  have out : e ∉ (env :: outer).filterMap (·.frame) := fun z => by
    obtain ⟨_, o', e', nf⟩ := hF.mem z
    rw [he] at e'
    cases e'
    exact nf v hv
  refine wpAny_bind (wpAny_frameOf_fun hA hF hL fun g sg => wpAny_bind (wpAny_entryPlaceOf fun ps hp => ?_))
  unfold EntryCells.newEntry newFields
  refine wpAny_bind (wpAny_newObj_type ?_ (hp.sizeOk5 _ _ _ _ _))
  generalize hob : ({ cls := .type "traceback", dict := none, data := .fields ([hd0, .ref L, .none, rawInt L, .none] ++ (if ps.isEmpty then List.replicate 6 Value.none else ps)).toArray } : Obj) = ob
  have hg : g.get? e = some o := (sg.2.1 e out).trans he
  have gB : B.StaysIn g := fun b u q => (sg.2.1 b fun z => by rw [(hF.mem z).1] at q; cases q).trans (hB b u q)
  have nT : g.objs.size ≠ e := Nat.ne_of_gt (Heap.lt_size hg)
  have hp1 : (g.push ob).get? e = some o := Heap.get?_push_of_some _ hg
  refine wpAny_setField hp1 hv z1 (k _ ?_ ?_)
  · have d1 := Obj.data_mapFields hv (·.setIfInBounds 1 (Value.ref g.objs.size))
    have old : ∀ b u, b ≠ e → g.get? b = some u → ((g.push ob).update e (Obj.mapFields (·.setIfInBounds 1 (Value.ref g.objs.size)))).get? b = some u := fun b u n q => by
      rw [Heap.get?_update_other _ _ (Ne.symm n)]
      exact Heap.get?_push_of_some _ q
    have fresh : ob.isFreed = false := by rw [← hob]; rfl
    refine ⟨fun b u q => old b u (fun z => by rw [z, hn] at q; cases q) (gB b u q), hn, hF.of_keeps fun b u q nf => ?_, _, _, g.objs.size, ob, _, Heap.get?_update_self _ hp1 (Obj.isFreed_of_fields d1), Obj.cls_mapFields _ _, d1, ?_, ?_, ?_, gB.fresh, nT, ?_, by rw [← hob], ?_⟩
    · obtain ⟨sl, q'⟩ := sg.2.2 b u q
      exact ⟨_, old b _ (fun z => by rw [z, he] at q; cases q; exact nf v hv) q', rfl⟩
    · rw [Array.getElem?_setIfInBounds_ne (by decide)]; exact z0
    · rw [Array.getElem?_setIfInBounds_ne (by decide)]; exact z2
    · simp [z1]
    · rw [Heap.get?_update_other _ _ (Ne.symm nT)]
      exact Heap.get?_push_size g fresh
    · rcases hp with rfl | ⟨_, _, _, _, _, _, _, rfl⟩ <;> simp
  · intro b u q nf
    obtain ⟨sl, q'⟩ := sg.2.2 b u q
    refine ⟨sl, ?_⟩
    rw [Heap.get?_update_other _ _ (fun z => by rw [← z, he] at q; cases q; exact nf v hv)]
    exact Heap.get?_push_of_some _ q'
/-- the mark goes -/
theorem land2 {l : List Env} {c a0 m : Value} {Q : Unit → Shared → Prop} (x : Fly2 B l e c a0 m s.heap) (k : ∀ h', Fly2 B l e c a0 .none h' → s.heap.UpToSlots h' → Q () { s with heap := h' }) : wpAny M A (setFlight (.ref e) none) Q E s := by
  obtain ⟨b1, b2, b3, o, v, T, oT, ts, q1, q2, q3, q4, q5, q6, q7, q8, q9, q10, q11⟩ := x
  have z3 : 3 < ts.size := (Array.getElem?_eq_some_iff.mp q11).1
  unfold setFlight
  refine wpAny_bind (wpAny_field q1 q3 q6 ?_)
  rw [if_pos (by simp)]
  refine wpAny_setField q9 q10 z3 ?_
  have no : ∀ b u, s.heap.get? b = some u → (∀ w, u.data ≠ .fields w) → b ≠ T := fun b u q nf z => by
    rw [z, q9] at q
    cases q
    exact nf ts q10
  have ot : ∀ b u, b ≠ T → s.heap.get? b = some u → (s.heap.update T (Obj.mapFields (·.setIfInBounds 3 ((none : Option Addr).elim Value.none fun f => rawInt f)))).get? b = some u := fun b u n q => (Heap.get?_update_other _ _ (Ne.symm n)).trans q
  have d1 := Obj.data_mapFields q10 (·.setIfInBounds 3 ((none : Option Addr).elim Value.none fun f => rawInt f))
  exact k _ ⟨fun b u q => ot b u (fun z => by rw [z, q7] at q; cases q) (b1 b u q), b2, b3.of_keeps fun b u q nf => ⟨u, ot b u (no b u q nf) q, rfl⟩, o, v, T, _, _, ot e o (Ne.symm q8) q1, q2, q3, q4, q5, q6, q7, q8, Heap.get?_update_self _ q9 (Obj.isFreed_of_fields d1), d1, by simp [z3]⟩
    fun b u q nf => ⟨u.slots, ot b u (no b u q nf) q⟩
theorem Fly2.up {c a0 m : Value} {h : Heap} (x : Fly2 B (env :: outer) e c a0 m h) : Fly2 B outer e c a0 m h := by
  obtain ⟨b1, b2, ⟨_, _, b3⟩, r⟩ := x
  exact ⟨b1, b2, b3, r⟩
/-- out of the frame in which it was made -/
theorem made2 {h : Heap} {c : Value} {vs : List Value} {Q : Unit → Shared → Prop} (hA : A.frames = some (env :: outer)) (hL : env.frame = some L) (hB : B.StaysIn h) (hF : h.FunFrames B (env :: outer)) (hx : Heap.MadeExcOf h s.heap e c vs)
    (k : ∀ h' a0, Fly2 B outer e c a0 .none h' → s.heap.UpToSlots h' → Q () { s with heap := h' }) : wpAny M A (leaving env (.ref e)) Q E s := by
  obtain ⟨t, he, _, _⟩ := hx.there
  have fresh : B.get? e = none := by
    cases q : B.get? e with
    | none => rfl
    | some u => have := hB e u q; rw [hx.new] at this; cases this
  unfold leaving noteFrame
  simp only [hL]
  refine wpAny_bind (wpAny_bind (wpAny_field he rfl (x := .none) rfl ?_))
  rw [if_neg (by decide)]
  exact note2_core hA (hF.of_keeps fun b u q _ => ⟨u, hx.keeps b u q, rfl⟩) hL he (fun b u q => hx.keeps b u (hB b u q)) fresh rfl (show 1 < 6 by decide) rfl rfl
    fun h1 f1 u1 => land2 (s := { s with heap := h1 }) f1 fun h2 f2 u2 => k h2 _ f2.up (u1.trans u2)
end

/-! ### a new exception while another one is handled -/
section
variable {prog : Program} {w : World} {A : Around} {E : Value → Shared → Prop} {s : Shared} {ea : Addr} {oe : Obj}
end
end L2

/-! own layer, part 51: a list comprehension, a call, within an except suite -/
namespace L2
open PySem PySem.Spec PyProof.Rows
/-- the exception at ea is handled; it lies there since the entry -/
structure Hx (X : Cx) (ea : Addr) (oe : Obj) : Prop where
  hd : X.A.handled = some (.ref ea)
  ct : Ctx0 oe
  ob : X.s₀.heap.get? ea = some oe
  fr : X.H₀ ea = none
  nf : ea ∉ X.fs
  nx : ea ∉ X.ex
section
variable {X : Cx} {pins : List (Addr × Obj)} {σ : St} {H : Hp} {s : Shared} {ea : Addr} {oe : Obj}
end
section
variable {X : Cx} {N : List Str} {nt : Nat} {js : List Nat} {scope : Scope} {elt iter tg : Expr} {ifs : List Expr} {pos : Pos} {g : TG} {tc : TT} {te tl : TE} {ea : Addr} {oe : Obj}
end
end L2

/-! own layer, part 52: try with `x = g(e)` in its except suite, where g looks at the caught exception -/
namespace L2
open PySem PySem.Spec PyProof.Rows
/-- as CX1, and the exception's context is None -/
def CX2 (P : Program) (w : World) : CXT := fun outer H s E e s' => ∃ (ea : Addr) (cls a0 : Value) (B : Heap) (H' : Hp), e = .ref ea ∧ s'.os = s.os ∧ AllBare s'.gens ∧ Un (frs outer) [] H H' s.heap s'.heap ∧ HOk P w H' s'.heap ∧
  Fly2 B outer ea cls a0 .none s'.heap ∧ (∀ b o, s.heap.get? b = some o → b ∉ frs outer → ∃ o', B.get? b = some o') ∧ (∀ b u, H' b = some u → ∃ o', B.get? b = some o') ∧ E cls none H'
section
variable {P : Program} {w : World} {K : PySem.W.Frag} {mg : Str → Option Value} {base : Heap} {N : List Str} {qual : Str} {scope : Scope} {f : Addr} {cd : Value} {A : Around} {outer : List Env} {s : Shared} {H : Hp} {E : XK}
theorem makes2 : Makes (cxOf (CX2 P w) P w K mg base N qual scope f cd A outer s H E) E := by
  intro pins σ H1 s1 h2 ea cls vs I hx hE
  have k1 : ∀ b o, s1.heap.get? b = some o → b ∉ frs (cxOf (CX2 P w) P w K mg base N qual scope f cd A outer s H E).stack → ∃ o', (PySem.W.hideAll s1.heap (frs (cxOf (CX2 P w) P w K mg base N qual scope f cd A outer s H E).stack)).get? b = some o' := fun b o e n => ⟨o, PySem.W.hideAll_get _ e n⟩
  have k2 : ∀ b u, H1 b = some u → ∃ o', (PySem.W.hideAll s1.heap (frs (cxOf (CX2 P w) P w K mg base N qual scope f cd A outer s H E).stack)).get? b = some o' := fun b u e => by
    obtain ⟨o, q⟩ := (I.hok b u e).got
    exact k1 b o q fun z => by rw [I.stkFree b z] at e; cases e
  refine made2 (B := PySem.W.hideAll s1.heap (frs (cxOf (CX2 P w) P w K mg base N qual scope f cd A outer s H E).stack)) (h := s1.heap) (outer := outer) I.ok.frames rfl (fun b o q => PySem.W.of_hideAll _ q) (PySem.W.funFrames_hide I.stack (hid_frs s1.heap _)) hx fun h' t fly us => ?_
  have us1 : s1.heap.UpToSlots h' := (Heap.UpToSlots.of_keeps hx.keeps).trans us
  have J := I.flown (s' := s1) (toks := s1.toks) Un.refl I.hok rfl I.bare (fun b o q => PySem.W.of_hideAll _ q) k1 k2 fly.1 (Inv.slots I.stack us1)
  refine ⟨ea, cls, _, _, H1, rfl, I.os, I.bare, J.base, J.hok, fly, fun b o e n => ?_, k2, hE⟩
  obtain ⟨o1, q⟩ := I.base.there b o e (fun z => nomatch z)
  refine k1 b o1 q fun z => ?_
  rcases List.mem_cons.mp (I.stkSub b z) with e1 | z
  · exact Nat.ne_of_lt (Nat.lt_of_lt_of_le (Heap.lt_size e) I.ok.above) e1
  · exact n z
theorem Fun.okY {x : Str} {st : Stmt} {fd : FuncData} {ps : List Str} {k : Nat} {sp : Sp} (F : Fun K x qual st f fd) (S : FnScope N ps (defScope st)) (len : ∀ vs H Q E, sp vs H Q E → vs.length = ps.length)
    (hbody : ∀ (cdv : Value) (A : Around) (outer : List Env) (s : Shared) (H : Hp) (vs : List V) (Q : VK) (E : XK), Room k (A.deeper (envOfC qual (defScope st) s.heap.objs.size f cdv)) → sp vs H Q E →
      ∃ t, PSs (cxOf (CX2 P w) P w K mg base N qual (defScope st) f cdv A outer s H E) (defBody st) t ∧ t { nx := fun _ H' => Q .non H', rt := Q } (start N vs) H) : FnOk P w K mg base (CX2 P w) (k + 1) f fd ps sp := by
  obtain ⟨oc, od, kV, doc, pm, an, cdv, ct, osl, rfl, lk, hcd⟩ := F.ex
  exact fn_of lk hcd S len fun A outer s H vs Q E hr hsp => hbody cdv A outer s H vs Q E hr hsp
end
structure FdY (P : Program) (w : World) (K : PySem.W.Frag) (mg : Str → Option Value) (base : Heap) (n : Nat) (x : Str) (ps : List Str) (sp : Sp) : Prop where
  ex : ∃ (f : Addr) (fd : FuncData), FnOk P w K mg base (CX2 P w) n f fd ps sp ∧ Binds K fd ps [] ∧ PySem.W.keepIn K (.ref f) = true ∧ mg x = some (.ref f)
/-! ### what stands within a try -/
section
variable {X : Cx} {n k : Nat} {x : Str} {ps : List Str} {sp : Sp} {e : Expr} {es : List Expr} {t : TA} {p pos : Pos}
end
/-! ### a def that is called with the caught exception, in the except suite -/
abbrev SpH := Value → Addr → Hp → VK → Prop
structure FnH (P : Program) (w : World) (K : PySem.W.Frag) (mg : Str → Option Value) (base : Heap) (k : Nat) (f : Addr) (fd : FuncData) (x : Str) (sp : SpH) : Prop where
  run : ∀ (A : Around) (outer : List Env) (s : Shared) (H : Hp) (ea : Addr) (oe : Obj) (Q : VK), Room k A → Env0 P w K mg base (A.mark (some (.ref ea))) outer s H → BindsTo s fd ⟨[.ref ea], []⟩ [(x, .ref ea)] → s.heap.get? ea = some oe → Ctx0 oe → H ea = none → ea ∉ frs outer → sp oe.cls ea H Q →
    codeAny (model P w) (A.mark (some (.ref ea))) (.call (.ref f) ⟨[.ref ea], []⟩) (CR CX0 outer P w H s Q E0) s
section
variable {P : Program} {w : World} {K : PySem.W.Frag} {mg : Str → Option Value} {base : Heap}
end
structure FdH (P : Program) (w : World) (K : PySem.W.Frag) (mg : Str → Option Value) (base : Heap) (n : Nat) (x y : Str) (sp : SpH) : Prop where
  ex : ∃ (f : Addr) (fd : FuncData), FnH P w K mg base n f fd y sp ∧ Binds K fd [y] [] ∧ PySem.W.keepIn K (.ref f) = true ∧ mg x = some (.ref f)
/-! ### the try -/
/-- within the suite: the exception is pinned -/
abbrev Cx.kept (X : Cx) (ea : Addr) (oe : Obj) : Cx := { X.marked ea with pn := (ea, oe) :: X.pn }
section
variable {X : Cx} {pins : List (Addr × Obj)} {σ : St} {H : Hp} {s : Shared} {ea : Addr} {oe : Obj}
end
/-! ### isinstance of the caught exception -/
section
open PySem.W
variable {X : Cx} (K : PySem.W.Frag)
end
end L2

/-! own layer, part 53: what a refusal's word is -/
namespace L2
open PySem PySem.Spec PyProof.Rows PySem.W
/-- the class at D is a ValueError, and of the classes cs it is the one at n alone -/
structure RefK (K : Frag) (D : Addr) (cs : List Addr) (n : Nat) : Prop where
  ty : XTy K D
  ve : kitOne K (.ref D) (.type "ValueError") = some true
  of : ∀ i c, cs[i]? = some c → kitOne K (.ref D) (.ref c) = some (i == n)
end L2

/-! own layer, part 54: a list as the value of `a, b, .. = xs` -/
namespace L2
open PySem PySem.Spec PyProof.Rows
section
variable {prog : Program} {w : World} {A : Around} {E : Value → Shared → Prop}
end
end L2

/-! own layer, part 55: the table of a set, where its things are found again -/
namespace L2
open PySem PySem.Spec PyProof.Rows
namespace St
open SetTable
/-- rising -/
abbrev Ris (xs : Array Nat) : Prop := xs.toList.Pairwise (· < ·)
theorem Ris.lt {xs : Array Nat} (h : Ris xs) {i k x y : Nat} (hi : xs[i]? = some x) (hk : xs[k]? = some y) (hl : i < k) : x < y := by
  rw [← Array.getElem?_toList] at hi hk
  obtain ⟨h1, e1⟩ := List.getElem?_eq_some_iff.mp hi
  obtain ⟨h2, e2⟩ := List.getElem?_eq_some_iff.mp hk
  rw [← e1, ← e2]
  exact List.pairwise_iff_getElem.mp h i k h1 h2 hl
/-- what below tells: all ahead are less, none from there on -/
theorem below_go {xs : Array Nat} (hr : Ris xs) (j : Nat) : ∀ (fuel lo hi : Nat), hi ≤ xs.size → lo ≤ hi → hi - lo ≤ fuel → (∀ i x, i < lo → xs[i]? = some x → x < j) → (∀ i x, hi ≤ i → xs[i]? = some x → j ≤ x) →
    ∃ p, below.go xs j fuel lo hi = p ∧ p ≤ xs.size ∧ (∀ i x, i < p → xs[i]? = some x → x < j) ∧ ∀ i x, p ≤ i → xs[i]? = some x → j ≤ x := by
  intro fuel
  induction fuel with
  | zero =>
    intro lo hi h1 h2 h3 hA hB
    exact ⟨lo, rfl, by lia, hA, fun i x hi' => hB i x (by lia)⟩
  | succ fuel ih =>
    intro lo hi h1 h2 h3 hA hB
    unfold below.go
    by_cases hl : lo < hi
    · rw [if_pos hl]
      have hm : (lo + hi) / 2 < xs.size := by lia
      have g : xs[(lo + hi) / 2]? = some xs[(lo + hi) / 2] := Array.getElem?_eq_getElem hm
      have gd : xs.getD ((lo + hi) / 2) j = xs[(lo + hi) / 2] := by rw [Array.getD_eq_getD_getElem?, g]; rfl
      dsimp only
      rw [gd]
      by_cases hc : xs[(lo + hi) / 2] < j
      · rw [if_pos hc]
        refine ih ((lo + hi) / 2 + 1) hi h1 (by lia) (by lia) (fun i x hi' hx => ?_) hB
        rcases Nat.lt_or_ge i ((lo + hi) / 2) with z | z
        · exact Nat.lt_trans (hr.lt hx g z) hc
        · have e : i = (lo + hi) / 2 := by lia
          subst e
          rw [g] at hx
          cases hx
          exact hc
      · rw [if_neg hc]
        refine ih lo ((lo + hi) / 2) (by lia) (by lia) (by lia) hA (fun i x hi' hx => ?_)
        rcases Nat.lt_or_ge ((lo + hi) / 2) i with z | z
        · exact Nat.le_trans (Nat.not_lt.mp hc) (Nat.le_of_lt (hr.lt g hx z))
        · have e : i = (lo + hi) / 2 := by lia
          subst e
          rw [g] at hx
          cases hx
          exact Nat.not_lt.mp hc
    · rw [if_neg hl]
      exact ⟨lo, rfl, by lia, hA, fun i x hi' => hB i x (by lia)⟩
theorem below_ok {xs : Array Nat} (hr : Ris xs) (j : Nat) : below xs j ≤ xs.size ∧ (∀ i x, i < below xs j → xs[i]? = some x → x < j) ∧ ∀ i x, below xs j ≤ i → xs[i]? = some x → j ≤ x := by
  obtain ⟨p, e, h⟩ := below_go hr j xs.size 0 xs.size (Nat.le_refl _) (Nat.zero_le _) (by lia) (fun i x h => absurd h (Nat.not_lt_zero _)) (fun i x h hx => by
    have := (Array.getElem?_eq_some_iff.mp hx).1
    lia)
  unfold below
  rw [e]
  exact h
/-- a place that is taken is seen so -/
theorem slot_live {t : SetTable} (hr : Ris t.place) {i j : Nat} (h : t.place[i]? = some j) : t.slot j = .live i := by
  obtain ⟨_, b2, b3⟩ := below_ok hr j
  have e : below t.place j = i := by
    rcases Nat.lt_trichotomy (below t.place j) i with z | z | z
    · have hs : i < t.place.size := (Array.getElem?_eq_some_iff.mp h).1
      have g : t.place[below t.place j]? = some t.place[below t.place j] := Array.getElem?_eq_getElem (by lia)
      have h1 := b3 _ _ (Nat.le_refl _) g
      have h2 := hr.lt g h z
      lia
    · exact z
    · exact absurd (b2 i j z h) (Nat.lt_irrefl _)
  unfold slot
  rw [e]
  dsimp only
  rw [h]
  simp
theorem insert_list {α : Type} (xs : Array α) (p : Nat) (x : α) : (insertAt xs p x).toList = xs.toList.take p ++ x :: xs.toList.drop p := by
  unfold insertAt
  simp [Array.toList_append, Array.toList_push, Array.toList_extract, List.extract_eq_drop_take]
  exact List.take_of_length_le (by rw [List.length_drop, Array.length_toList]; exact Nat.le_refl _)
theorem insert_at {α : Type} {xs : Array α} {p : Nat} {x : α} (hp : p ≤ xs.size) {i : Nat} : (insertAt xs p x)[i]? = if i < p then xs[i]? else if i = p then some x else xs[i - 1]? := by
  rw [← Array.getElem?_toList, insert_list]
  have hl : (xs.toList.take p).length = p := by rw [List.length_take, Array.length_toList]; lia
  by_cases h1 : i < p
  · rw [if_pos h1, List.getElem?_append_left (by rw [hl]; exact h1), List.getElem?_take_of_lt h1, Array.getElem?_toList]
  · rw [if_neg h1, List.getElem?_append_right (by rw [hl]; lia), hl]
    by_cases h2 : i = p
    · subst h2
      rw [if_pos rfl, Nat.sub_self]
      rfl
    · rw [if_neg h2]
      obtain ⟨k, hk⟩ : ∃ k, i - p = k + 1 := ⟨i - p - 1, by lia⟩
      rw [hk, List.getElem?_cons_succ, List.getElem?_drop, Array.getElem?_toList]
      congr 1
      lia
theorem Ris.put {xs : Array Nat} (hr : Ris xs) {j : Nat} (hn : ∀ i : Nat, xs[i]? ≠ some j) : Ris (insertAt xs (below xs j) j) := by
  obtain ⟨b1, b2, b3⟩ := below_ok hr j
  show List.Pairwise _ _
  rw [insert_list, List.pairwise_append]
  refine ⟨hr.sublist (List.take_sublist _ _), ?_, ?_⟩
  · rw [List.pairwise_cons]
    refine ⟨fun y hy => ?_, hr.sublist (List.drop_sublist _ _)⟩
    obtain ⟨i, hi⟩ := List.getElem?_of_mem hy
    rw [List.getElem?_drop, Array.getElem?_toList] at hi
    have h1 := b3 _ y (Nat.le_add_right _ _) hi
    have h2 : y ≠ j := fun z => hn _ (z ▸ hi)
    lia
  · intro a ha b hb
    obtain ⟨i, hi⟩ := List.getElem?_of_mem ha
    have hil : i < below xs j := by
      have := (List.getElem?_eq_some_iff.mp hi).1
      rw [List.length_take] at this
      lia
    rw [List.getElem?_take_of_lt hil, Array.getElem?_toList] at hi
    have h1 := b2 i a hil hi
    rcases List.mem_cons.mp hb with z | z
    · rw [z]; exact h1
    · obtain ⟨k, hk⟩ := List.getElem?_of_mem z
      rw [List.getElem?_drop, Array.getElem?_toList] at hk
      have := b3 _ b (Nat.le_add_right _ _) hk
      lia
/-! ### ways -/
theorem adv_mask {t u : SetTable} (h : t.mask = u.mask) (p : Probe) : t.advance p = u.advance p := by unfold advance; rw [h]
theorem advs_mask {t u : SetTable} (h : t.mask = u.mask) : ∀ n p, advs t n p = advs u n p
  | 0, _ => rfl
  | n + 1, p => by show advs t n (t.advance p) = advs u n (u.advance p); rw [adv_mask h, advs_mask h n]
theorem start_mask {t u : SetTable} (h : t.mask = u.mask) (x : Int) : t.probeStart x = u.probeStart x := by unfold probeStart; rw [h]
/-- the place j is met from p on behind taken ones alone -/
def Way (t : SetTable) (occ : Nat → Prop) (p : Probe) (j : Nat) : Prop := ∃ m, (advs t m p).j = j ∧ ∀ i, i < m → occ (advs t i p).j
theorem Way.mono {t : SetTable} {o1 o2 : Nat → Prop} {p : Probe} {j : Nat} (h : Way t o1 p j) (k : ∀ s, o1 s → o2 s) : Way t o2 p j := let ⟨m, e, a⟩ := h; ⟨m, e, fun i hi => k _ (a i hi)⟩
theorem Way.mask {t u : SetTable} {o : Nat → Prop} {p : Probe} {j : Nat} (h : Way t o p j) (e : t.mask = u.mask) : Way u o p j := by
  obtain ⟨m, e1, a⟩ := h
  exact ⟨m, by rw [← advs_mask e]; exact e1, fun i hi => by rw [← advs_mask e]; exact a i hi⟩
theorem advs_in (t : SetTable) : ∀ (c j r i pert : Nat), c ≤ r → advs t c { j := j, more := r, i := i, perturb := pert, dummy := none } = { j := j + c, more := r - c, i := i, perturb := pert, dummy := none }
  | 0, j, r, i, pert, _ => rfl
  | c + 1, j, r, i, pert, h => by
    show advs t c (t.advance _) = _
    have e : t.advance { j := j, more := r, i := i, perturb := pert, dummy := none } = { j := j + 1, more := r - 1, i := i, perturb := pert, dummy := none } := by
      unfold advance
      rw [if_pos (by show 0 < r; lia)]
    rw [e, advs_in t c (j + 1) (r - 1) i pert (by lia)]
    congr 1 <;> lia
theorem way_run {t : SetTable} {occ : Nat → Prop} {i pert c : Nat} (hc : c ≤ runEnd t.mask i - i) (h : ∀ d, d < c → occ (i + d)) : Way t occ (base t.mask i pert) (i + c) :=
  ⟨c, by unfold base; rw [advs_in t c i _ i pert hc], fun d hd => by unfold base; rw [advs_in t d i _ i pert (by lia)]; exact h d hd⟩
theorem way_on {t : SetTable} {occ : Nat → Prop} {i pert j : Nat} (h : ∀ d, d ≤ runEnd t.mask i - i → occ (i + d)) (k : Way t occ (base t.mask (leap t.mask i pert).1 (leap t.mask i pert).2) j) : Way t occ (base t.mask i pert) j := by
  obtain ⟨m, e, a⟩ := k
  have er : advs t (runEnd t.mask i - i + 1) (base t.mask i pert) = base t.mask (leap t.mask i pert).1 (leap t.mask i pert).2 := advs_run t _ _ _ _
  refine ⟨runEnd t.mask i - i + 1 + m, by rw [advs_add, er]; exact e, fun d hd => ?_⟩
  rcases Nat.lt_or_ge d (runEnd t.mask i - i + 1) with z | z
  · have := h d (by lia)
    unfold base
    rw [advs_in t d i _ i pert (by lia)]
    exact this
  · obtain ⟨c, rfl⟩ : ∃ c, d = runEnd t.mask i - i + 1 + c := ⟨d - (runEnd t.mask i - i + 1), by lia⟩
    rw [advs_add, er]
    exact a c (by lia)
theorem run_31 {i : Nat} (h : i < 32) : i ≤ runEnd 31 i ∧ runEnd 31 i < 32 := by unfold runEnd; split <;> lia
/-- taken in a table of 32 places -/
def Tk (owner : Array (Option Nat)) (s : Nat) : Prop := s < 32 ∧ owner.getD s (some 0) ≠ none
theorem free_way {t : SetTable} (hm : t.mask = 31) {owner : Array (Option Nat)} : ∀ (fuel i pert j : Nat), i < 32 → layClean.free 31 owner fuel i pert = some j → Way t (Tk owner) (base t.mask i pert) j := by
  intro fuel
  induction fuel with
  | zero => intro i pert j _ h; cases h
  | succ fuel ih =>
    intro i pert j hi h
    have hrun := run_31 hi
    unfold layClean.free at h
    split at h
    · next k hk =>
      cases h
      have hmem := List.mem_of_find?_eq_some hk
      have hkl := List.mem_range.mp hmem
      refine way_run (by rw [hm]; lia) fun d hd => ⟨by lia, ?_⟩
      have := List.find?_eq_some_iff_getElem.mp hk
      obtain ⟨_, n, hn, e, hbef⟩ := this
      rw [List.getElem_range] at e
      subst e
      have := hbef d hd
      rw [List.getElem_range] at this
      intro z
      rw [z] at this
      cases this
    · next hk =>
      refine way_on (fun d hd => ?_) ?_
      · rw [List.find?_eq_none] at hk
        rw [hm] at hd
        have := hk d (List.mem_range.mpr (by lia))
        refine ⟨by lia, fun z => ?_⟩
        rw [z] at this
        exact this rfl
      · have h' : layClean.free 31 owner fuel (leap 31 i pert).1 (leap 31 i pert).2 = some j := h
        have := ih _ _ _ (Nat.mod_lt _ (by decide)) h'
        rw [hm] at this ⊢
        exact this
/-- each one lies where it is found again -/
def WO (t : SetTable) (hs : List Int) (owner : Array (Option Nat)) : Prop := ∀ j i, owner.getD j none = some i → ∃ h, hs[i]? = some h ∧ Way t (Tk owner) (base t.mask (bits h % 32) (bits h)) j
theorem tk_set {owner : Array (Option Nat)} {j k s : Nat} (h : Tk owner s) : Tk (owner.setIfInBounds j (some k)) s := by
  refine ⟨h.1, fun z => ?_⟩
  rw [Array.getD_eq_getD_getElem?, Array.getElem?_setIfInBounds] at z
  split at z
  · split at z <;> cases z
  · rw [← Array.getD_eq_getD_getElem?] at z
    exact h.2 z
theorem stp_way {t : SetTable} (hm : t.mask = 31) {hs : List Int} {owner owner' : Array (Option Nat)} {k k' : Nat} {h : Int} (w : WO t hs owner) (hk : hs[k]? = some h) (e : stp (some (owner, k)) h = some (owner', k')) : WO t hs owner' := by
  have e' : (do let j ← layClean.free 31 owner (turns 31) (bits h % (31 + 1)) (bits h); pure (owner.setIfInBounds j (some k), k + 1)) = some (owner', k') := e
  cases ef : layClean.free 31 owner (turns 31) (bits h % (31 + 1)) (bits h) with
  | none => rw [ef] at e'; cases e'
  | some j =>
    rw [ef] at e'
    have e2 : some (owner.setIfInBounds j (some k), k + 1) = some (owner', k') := e'
    cases e2
    intro s i hsi
    rw [Array.getD_eq_getD_getElem?, Array.getElem?_setIfInBounds] at hsi
    by_cases hjs : j = s
    · rw [if_pos hjs] at hsi
      split at hsi
      · have ei : some k = some i := hsi
        cases ei
        refine ⟨h, hk, ?_⟩
        subst hjs
        exact (free_way hm _ _ _ _ (Nat.mod_lt _ (by decide)) ef).mono fun _ => tk_set
      · cases hsi
    · rw [if_neg hjs, ← Array.getD_eq_getD_getElem?] at hsi
      obtain ⟨g, g1, g2⟩ := w s i hsi
      exact ⟨g, g1, g2.mono fun _ => tk_set⟩
theorem fold_way {t : SetTable} (hm : t.mask = 31) {hs0 : List Int} : ∀ (hs : List Int) {owner : Array (Option Nat)} {k : Nat}, Own owner k → WO t hs0 owner → (∀ i h, hs[i]? = some h → hs0[k + i]? = some h) → k + hs.length ≤ 32 →
    ∃ owner', hs.foldl stp (some (owner, k)) = some (owner', k + hs.length) ∧ Own owner' (k + hs.length) ∧ WO t hs0 owner'
  | [], owner, k, ho, w, _, _ => ⟨owner, rfl, ho, w⟩
  | h :: hs, owner, k, ho, w, hh, hl => by
    rw [List.length_cons] at hl
    obtain ⟨o1, e1, ho1⟩ := stp_ok ho (by lia) h
    have w1 := stp_way hm w (hh 0 h rfl) e1
    obtain ⟨o2, e2, ho2, w2⟩ := fold_way hm hs ho1 w1 (fun i g hg => by rw [show k + 1 + i = k + (i + 1) by lia]; exact hh (i + 1) g hg) (by lia)
    refine ⟨o2, ?_, ?_, w2⟩
    · rw [List.foldl_cons, e1, e2, List.length_cons, show k + 1 + hs.length = k + (hs.length + 1) by lia]
    · rw [List.length_cons, show k + (hs.length + 1) = k + 1 + hs.length by lia]; exact ho2
theorem wo_none (t : SetTable) (hs : List Int) : WO t hs (Array.replicate 32 none) := fun j i h => by
  rw [Array.getD_eq_getD_getElem?, Array.getElem?_replicate] at h
  split at h <;> cases h
theorem lv_first (owner : Array (Option Nat)) : ∀ l : List Nat, (l.filterMap (lv owner)).map (·.1) = l.filter fun j => (owner.getD j none).isSome
  | [] => rfl
  | a :: l => by
    rw [List.filterMap_cons, List.filter_cons]
    cases e : owner.getD a none with
    | none =>
      have : lv owner a = none := by unfold lv; rw [e]; rfl
      rw [this]
      simp only [Option.isSome_none, Bool.false_eq_true, if_false]
      exact lv_first owner l
    | some v =>
      have : lv owner a = some (a, v) := by unfold lv; rw [e]; rfl
      rw [this]
      simp only [Option.isSome_some, if_true, List.map_cons]
      rw [lv_first owner l]
/-- laid anew: as laid_ok, and each thing is found again -/
theorem laid_way (hashes : Array Int) (hn : hashes.size ≤ 32) (finger moves : Nat) (led plain : Bool) : ∃ t order, laid 31 finger moves led plain hashes = some (t, order) ∧ t.mask = 31 ∧ t.dummies = #[] ∧ t.place.size = hashes.size ∧ order.toList.Perm (List.range hashes.size) ∧ Ris t.place ∧
    ∀ i k : Nat, order[i]? = some k → ∃ (j : Nat) (h : Int), t.place[i]? = some j ∧ hashes[k]? = some h ∧ Way t (fun s => ∃ q : Nat, t.place[q]? = some s) (t.probeStart h) j := by
  have hm0 : (SetTable.fresh 0 0 false).mask = 7 := rfl
  obtain ⟨t0, ht0⟩ : ∃ t0 : SetTable, t0.mask = 31 := ⟨{ (SetTable.fresh 0 0 false) with mask := 31 }, rfl⟩
  obtain ⟨owner, e, ho, w⟩ := fold_way ht0 hashes.toList (hs0 := hashes.toList) own_none (wo_none t0 _) (fun i h hh => by rw [Nat.zero_add]; exact hh) (by rw [Array.length_toList]; lia)
  have hc : layClean 31 hashes = some owner := by
    unfold layClean
    have e' : hashes.foldl stp (some (Array.replicate 32 none, 0)) = some (owner, 0 + hashes.toList.length) := by rw [← Array.foldl_toList]; exact e
    have e2 : hashes.foldl (init := some (Array.replicate (31 + 1) none, 0)) (fun acc h => do
        let (owner, k) ← acc
        let j ← layClean.free 31 owner (turns 31) (bits h % (31 + 1)) (bits h)
        pure (owner.setIfInBounds j (some k), k + 1)) = some (owner, 0 + hashes.toList.length) := e'
    rw [e2]; rfl
  have hp := ho.2
  rw [Nat.zero_add, Array.length_toList] at hp
  obtain ⟨t, ht⟩ : ∃ t : SetTable, t = { mask := 31, place := (((List.range 32).filterMap (lv owner)).map (·.1)).toArray, dummies := #[], finger, led, moves, plain } := ⟨_, rfl⟩
  have htm : t.mask = 31 := by rw [ht]
  have hpl : t.place.toList = ((List.range 32).filterMap (lv owner)).map (·.1) := by rw [ht]
  have occ : ∀ s, Tk owner s → ∃ q : Nat, t.place[q]? = some s := fun s hs => by
    have h1 : ∃ v, owner.getD s none = some v := by
      have h2 := hs.2
      rw [Array.getD_eq_getD_getElem?] at h2
      have hlt : s < owner.size := by rw [ho.1]; exact hs.1
      rw [Array.getElem?_eq_getElem hlt] at h2
      cases hv : owner[s] with
      | none => rw [hv] at h2; exact absurd rfl h2
      | some v => exact ⟨v, by rw [Array.getD_eq_getD_getElem?, Array.getElem?_eq_getElem hlt, hv]; rfl⟩
    obtain ⟨v, hv⟩ := h1
    have hmem : s ∈ t.place.toList := by
      rw [hpl, lv_first]
      exact List.mem_filter.mpr ⟨List.mem_range.mpr hs.1, by rw [hv]; rfl⟩
    obtain ⟨q, hq⟩ := List.getElem?_of_mem hmem
    exact ⟨q, by rw [← Array.getElem?_toList]; exact hq⟩
  refine ⟨t, (((List.range 32).filterMap (lv owner)).map (·.2)).toArray, ?_, htm, by rw [ht], ?_, hp, ?_, fun i k hk => ?_⟩
  · unfold laid
    rw [hc, ht]
    rfl
  · have := hp.length_eq
    rw [List.length_map, List.length_range] at this
    rw [← Array.length_toList, hpl, List.length_map]; exact this
  · show List.Pairwise _ _
    rw [hpl, lv_first]
    exact List.Pairwise.sublist List.filter_sublist List.pairwise_lt_range
  · rw [← Array.getElem?_toList] at hk
    have hk : (((List.range 32).filterMap (lv owner)).map (·.2))[i]? = some k := hk
    rw [List.getElem?_map] at hk
    cases hg : ((List.range 32).filterMap (lv owner))[i]? with
    | none => rw [hg] at hk; cases hk
    | some x =>
      obtain ⟨j, k'⟩ := x
      rw [hg] at hk
      have ek : k' = k := Option.some.inj hk
      obtain ⟨j', _, hj'⟩ := List.mem_filterMap.mp (List.mem_of_getElem? hg)
      unfold lv at hj'
      cases hv : owner.getD j' none with
      | none => rw [hv] at hj'; cases hj'
      | some v =>
        rw [hv] at hj'
        have e3 : (j', v) = (j, k') := Option.some.inj hj'
        have ej : j' = j := congrArg Prod.fst e3
        have ev : v = k := (congrArg Prod.snd e3).trans ek
        rw [ej, ev] at hv
        obtain ⟨h, h1, h2⟩ := w j k hv
        refine ⟨j, h, ?_, by rw [← Array.getElem?_toList]; exact h1, ?_⟩
        · rw [← Array.getElem?_toList, hpl, List.getElem?_map, hg]; rfl
        · have h3 := (h2.mono occ).mask (u := t) (by rw [htm]; exact ht0)
          rw [ht0] at h3
          unfold probeStart
          rw [htm]
          exact h3
end St
end L2

/-! own layer, part 56: a number put into a set in which it may be already -/
namespace L2
open PySem PySem.Spec PyProof.Rows
namespace St
open SetTable
abbrev Occ (t : SetTable) (s : Nat) : Prop := ∃ q : Nat, t.place[q]? = some s
/-- an empty place is met first, or a thing of the same hash -/
theorem go_way {t : SetTable} (hd : t.dummies = #[]) {ha : Nat → Int} {h : Int} : ∀ (fuel k : Nat) (p : Probe), k < fuel → p.dummy = none → Hit t k p →
    (∃ c j, probe.go t ha h fuel p = some (.empty j none) ∧ (advs t c p).j = j ∧ t.slot j = .empty ∧ ∀ l, l < c → Occ t (advs t l p).j) ∨
    ∃ c j i k', probe.go t ha h fuel p = some (.candidate j i (advs t (c + 1) p)) ∧ t.slot j = .live i ∧ t.place[i]? = some j ∧ (advs t (c + 1) p).dummy = none ∧ Hit t k' (advs t (c + 1) p) ∧ k' < k ∧ ∀ l, l < c + 1 → Occ t (advs t l p).j
  | fuel + 1, k, p, hk, hp, hh => by
    unfold probe.go
    rcases slot_cases hd p.j with z | ⟨i, z, zp⟩
    · rw [z]
      exact .inl ⟨0, p.j, by simp only [hp], rfl, z, fun l hl => absurd hl (Nat.not_lt_zero _)⟩
    · rw [z]
      have hk0 : ∃ k', k = k' + 1 := by
        cases k with
        | zero => unfold Hit at hh; rw [show advs t 0 p = p from rfl, z] at hh; cases hh
        | succ k' => exact ⟨k', rfl⟩
      obtain ⟨k', rfl⟩ := hk0
      have hh' : Hit t k' (t.advance p) := hh
      by_cases hq : (ha i == h) = true
      · refine .inr ⟨0, p.j, i, k', ?_, z, zp, adv_dummy t hp, hh', by lia, fun l hl => ?_⟩
        · simp only [hq]
          rfl
        · obtain rfl : l = 0 := by lia
          exact ⟨i, zp⟩
      · have hq' : (ha i == h) = false := by simpa using hq
        simp only [hq']
        have front : ∀ {c : Nat}, (∀ l, l < c → Occ t (advs t l (t.advance p)).j) → ∀ l, l < c + 1 → Occ t (advs t l p).j := fun {c} hc l hl => by
          cases l with
          | zero => exact ⟨i, zp⟩
          | succ l => exact hc l (by lia)
        rcases go_way hd fuel k' (t.advance p) (by lia) (adv_dummy t hp) hh' with ⟨c, j, e, r0, r1, r2⟩ | ⟨c, j, i', k2, e, r1, r2, r3, r4, r5, r6⟩
        · exact .inl ⟨c + 1, j, e, r0, r1, front r2⟩
        · exact .inr ⟨c + 1, j, i', k2, e, r1, r2, r3, r4, by lia, front r6⟩
/-- the thing at i0 is met, or another one of the same hash ahead -/
theorem go_there {t : SetTable} (hr : Ris t.place) {ha : Nat → Int} {h : Int} {i0 j0 : Nat} (h0 : t.place[i0]? = some j0) (hh : (ha i0 == h) = true) : ∀ (fuel r : Nat) (p : Probe), r < fuel → p.dummy = none → (advs t r p).j = j0 → (∀ l, l < r → Occ t (advs t l p).j) →
    ∃ j i next, probe.go t ha h fuel p = some (.candidate j i next) ∧ t.slot j = .live i ∧ t.place[i]? = some j ∧ (i = i0 ∨ ∃ r', r' < r ∧ next.dummy = none ∧ (advs t r' next).j = j0 ∧ ∀ l, l < r' → Occ t (advs t l next).j)
  | fuel + 1, 0, p, _, hp, hj, _ => by
    have hj : p.j = j0 := hj
    have z : t.slot p.j = .live i0 := by rw [hj]; exact slot_live hr h0
    unfold probe.go
    rw [z]
    refine ⟨p.j, i0, t.advance p, ?_, z, by rw [hj]; exact h0, .inl rfl⟩
    simp only [hh]
    rfl
  | fuel + 1, r + 1, p, hk, hp, hj, ho => by
    obtain ⟨i, hi⟩ := ho 0 (Nat.succ_pos _)
    have hi : t.place[i]? = some p.j := hi
    have z : t.slot p.j = .live i := slot_live hr hi
    unfold probe.go
    rw [z]
    have ho' : ∀ l, l < r → Occ t (advs t l (t.advance p)).j := fun l hl => ho (l + 1) (by lia)
    by_cases hq : (ha i == h) = true
    · refine ⟨p.j, i, t.advance p, ?_, z, hi, .inr ⟨r, Nat.lt_succ_self _, adv_dummy t hp, hj, ho'⟩⟩
      simp only [hq]
      rfl
    · have hq' : (ha i == h) = false := by simpa using hq
      simp only [hq']
      obtain ⟨j, i', next, e, r1, r2, r3⟩ := go_there hr h0 hh fuel r (t.advance p) (by lia) (adv_dummy t hp) hj ho'
      refine ⟨j, i', next, e, r1, r2, ?_⟩
      rcases r3 with z | ⟨r', q1, q2⟩
      · exact .inl z
      · exact .inr ⟨r', by lia, q2⟩
section
variable {prog : Program} {w : World} {K : Type} [DecidableEq K] {knd : KeyKind prog w K} {A : Around} {E : Value → Shared → Prop} {s : Shared}
/-- things of a set that are numbers -/
def Nms (knd : KeyKind prog w K) (h : Heap) (l : List Value) : Prop := ∀ v ∈ l, ∃ b k', v = .ref b ∧ IsN knd h k' b
theorem unseen2 {ks : List K} {x : Addr} {Q : Bool → Shared → Prop} (hx : IsN knd s.heap ks x) {l : List Value} (hl : Nms knd s.heap l) (h : Q false s) : wpAny (model prog w) A (searchCouldBeSeen (.ref x) l) Q E s := by
  unfold searchCouldBeSeen
  refine wpAny_bind ?_
  refine wpAny_forIn_list _ (fun rest r s' => r.1 = none ∧ s' = s ∧ Nms knd s.heap rest) _ ?_ ?_ _ _ ⟨rfl, rfl, hl⟩
  · rintro v rest r s' ⟨hr, rfl, hall⟩
    obtain ⟨b, k', rfl, hb⟩ := hall v List.mem_cons_self
    have hrest : Nms knd s'.heap rest := fun u hu' => hall u (List.mem_cons_of_mem _ hu')
    have hc : ((match (Value.ref x), (Value.ref b) with | .ref a, .ref b => a == b | _, _ => false) || (carriedByValue (.ref x) && carriedByValue (.ref b))) = (x == b) := by
      show ((x == b) || (false && false)) = _
      simp
    show wpAny _ _ (if ((match (Value.ref x), (Value.ref b) with | .ref a, .ref b => a == b | _, _ => false) || (carriedByValue (.ref x) && carriedByValue (.ref b))) = true then _ else _) _ _ _
    rw [hc]
    by_cases hxb : (x == b) = true
    · rw [if_pos hxb]
      exact wpAny_pure ⟨rfl, rfl, hrest⟩
    rw [if_neg hxb]
    refine wpAny_bind (wpAny_eqIsQuiet_tuple hx.key ?_)
    simp only [Bool.not_true, Bool.false_eq_true, if_false]
    refine wpAny_bind (wpAny_eqIsQuiet_tuple hb.key ?_)
    simp only [Bool.not_true, Bool.false_eq_true, if_false]
    refine wpAny_bind (ofClass_n hx ?_)
    simp only [Bool.false_eq_true, if_false]
    refine wpAny_bind (ofClass_n hb ?_)
    simp only [Bool.false_eq_true, if_false]
    exact wpAny_pure ⟨rfl, rfl, hrest⟩
  · rintro ⟨r1, r2⟩ s' ⟨hr, rfl, _⟩
    simp only at hr
    subst hr
    exact wpAny_pure h
variable {S : Addr} {o : Obj} {es : Array (Int × Value)} {ep : Nat} {t : SetTable}
theorem nms_of {ks : List K} (hes : ∀ e ∈ es.toList, ∃ b k', e.2 = Value.ref b ∧ IsN knd s.heap k' b) {h : Int} : Nms knd s.heap (List.map (fun x => x.snd) (Array.filter (fun x => x.fst == h) es).toList) := fun v hv => by
  obtain ⟨e0, he0, rfl⟩ := List.mem_map.mp hv
  rw [Array.toList_filter] at he0
  exact hes e0 (List.mem_filter.mp he0).1
theorem same_self (t : SetTable) : t.sameMemory t.moves t.mask = some true := by unfold sameMemory; rw [if_pos (beq_self_eq_true _)]
/-- one look at a candidate -/
theorem look_one (ho : s.heap.get? S = some o) (hd : o.data = .set es ep t) (hf : t.fits es.size = true) {x b : Addr} {ks kb : List K} (hx : IsN knd s.heap ks x) (hb : IsN knd s.heap kb b) (hes : ∀ e ∈ es.toList, ∃ b k', e.2 = Value.ref b ∧ IsN knd s.heap k' b)
    (hu : A.units < cLine) {h h1 : Int} {F j i : Nat} {next : Probe} (r1 : t.slot j = .live i) (hei : es[i]? = some (h1, Value.ref b)) {Q : SetFound → Shared → Prop} (yes : kb = ks → Q (.there none) s) (no : kb ≠ ks → wpAny (model prog w) A (setSearchFrom S (.ref x) h true F (some next)) Q E s) :
    wpAny (model prog w) A (do
      if !t.led then
        if ← searchCouldBeSeen (.ref x) ((es.filter (·.1 == h)).toList.map (·.2)) then unsupported "set:the-search-would-show-the-table"
      let some (_, y) := es[i]? | unsupported "internal:set-entry"
      let equal ← holding [y] (eqBool y (.ref x))
      let (es', _, t') ← setState S
      if true && equal then return .there none
      let some same := t'.sameMemory t.moves t.mask | unsupported "set.changed-during-lookup:is-the-new-block-at-the-old-address"
      let still ← match (if same then t'.slot j else .empty) with
        | .live i' => match es'[i']? with
          | some (_, y') => do pure (if ← isSame y' y then some i' else none)
          | none => pure none
        | _ => pure none
      match still with
      | none => rule "set.search.anew"; setSearchFrom S (.ref x) h true F none
      | some i' => if equal then return .there (some i') else setSearchFrom S (.ref x) h true F (some next)) Q E s := by
  have rest : wpAny (model prog w) A (do
      let some (_, y) := es[i]? | unsupported "internal:set-entry"
      let equal ← holding [y] (eqBool y (.ref x))
      let (es', _, t') ← setState S
      if true && equal then return .there none
      let some same := t'.sameMemory t.moves t.mask | unsupported "set.changed-during-lookup:is-the-new-block-at-the-old-address"
      let still ← match (if same then t'.slot j else .empty) with
        | .live i' => match es'[i']? with
          | some (_, y') => do pure (if ← isSame y' y then some i' else none)
          | none => pure none
        | _ => pure none
      match still with
      | none => rule "set.search.anew"; setSearchFrom S (.ref x) h true F none
      | some i' => if equal then return .there (some i') else setSearchFrom S (.ref x) h true F (some next)) Q E s := by
    rw [hei]
    dsimp only
    refine wpAny_bind (wpAny_holding (wpAny_eqBool_tuple hu hb.key hx.key ?_))
    refine wpAny_bind (wpAny_setState_of ho hd hf ?_)
    by_cases hk : kb = ks
    · rw [decide_eq_true hk]
      simp only [Bool.and_self, if_true]
      exact wpAny_pure (yes hk)
    · rw [decide_eq_false hk]
      simp only [Bool.and_false, Bool.false_eq_true, if_false, same_self, if_true, r1, hei]
      refine wpAny_bind (wpAny_isSame_ref_self ?_)
      simp only [if_true]
      refine wpAny_bind (wpAny_pure ?_)
      simp only [Bool.false_eq_true, if_false]
      exact no hk
  rcases Bool.eq_false_or_eq_true t.led with hl | hl
  · simp only [hl, Bool.not_true, Bool.false_eq_true, if_false]
    exact rest
  · simp only [hl, Bool.not_false, if_true]
    refine wpAny_bind (unseen2 hx (nms_of (ks := ks) hes) ?_)
    simp only [Bool.false_eq_true, if_false]
    exact rest
/-- a new one: the first empty place on its way is told -/
theorem search_new (ho : s.heap.get? S = some o) (hd : o.data = .set es ep t) (hf : t.fits es.size = true) (hm : t.mask = 7 ∨ t.mask = 31) (hdm : t.dummies = #[]) {x : Addr} {ks : List K} (hx : IsN knd s.heap ks x)
    (hes : ∀ e ∈ es.toList, ∃ b k', e.2 = Value.ref b ∧ IsN knd s.heap k' b ∧ k' ≠ ks) (hu : A.units < cLine) {h : Int} {Q : SetFound → Shared → Prop} (hQ : ∀ j, t.slot j = .empty → Way t (Occ t) (t.probeStart h) j → Q (.free j false) s) :
    ∀ (k F c0 : Nat) (stand : Option Probe), k < F → k < 10 * turns t.mask → stand.getD (t.probeStart h) = advs t c0 (t.probeStart h) → (∀ l, l < c0 → Occ t (advs t l (t.probeStart h)).j) → (stand.getD (t.probeStart h)).dummy = none → Hit t k (stand.getD (t.probeStart h)) → wpAny (model prog w) A (setSearchFrom S (.ref x) h true F stand) Q E s := by
  have hes' : ∀ e ∈ es.toList, ∃ b k', e.2 = Value.ref b ∧ IsN knd s.heap k' b := fun e he => let ⟨b, k', q1, q2, _⟩ := hes e he; ⟨b, k', q1, q2⟩
  have hps : t.place.size = es.size := by
    unfold fits at hf
    rw [Bool.and_eq_true] at hf
    exact eq_of_beq hf.1
  intro k
  induction k using Nat.strongRecOn with
  | ind k ih =>
    intro F c0 stand hF hk hst hoc hdn hh
    obtain ⟨F', rfl⟩ : ∃ F', F = F' + 1 := ⟨F - 1, by lia⟩
    unfold setSearchFrom
    refine wpAny_bind (wpAny_setState_of ho hd hf ?_)
    dsimp only
    have hgw : t.gaveWay = false := by
      unfold gaveWay
      rcases hm with z | z <;> rw [z] <;> rfl
    rw [hgw]
    simp only [Bool.false_eq_true, if_false]
    have more : ∀ {c : Nat}, (∀ l, l < c → Occ t (advs t l (stand.getD (t.probeStart h))).j) → ∀ l, l < c0 + c → Occ t (advs t l (t.probeStart h)).j := fun {c} hc l hl => by
      rcases Nat.lt_or_ge l c0 with z | z
      · exact hoc l z
      · obtain ⟨d, rfl⟩ : ∃ d, l = c0 + d := ⟨l - c0, by lia⟩
        have := hc d (by lia)
        rw [hst, ← advs_add] at this
        exact this
    split
    · next met heq =>
      rcases go_way hdm (10 * turns t.mask) k _ hk hdn hh with ⟨c, j, e, r0, r1, r2⟩ | ⟨c, j, i, k', e, r1, r2, r3, r4, r5, r6⟩
      · have e2 := Option.some.inj (e.symm.trans heq)
        subst e2
        refine wpAny_pure (hQ j r1 ⟨c0 + c, ?_, more r2⟩)
        rw [advs_add, ← hst]; exact r0
      · have e2 := Option.some.inj (e.symm.trans heq)
        subst e2
        dsimp only
        have hil : i < es.size := by
          have := (Array.getElem?_eq_some_iff.mp r2).1
          lia
        obtain ⟨h0, y, hei⟩ : ∃ h0 y, es[i]? = some (h0, y) := ⟨es[i].1, es[i].2, Array.getElem?_eq_getElem hil⟩
        obtain ⟨b, kb, eb, hb, hne⟩ := hes (h0, y) (List.mem_of_getElem? (by rw [Array.getElem?_toList]; exact hei))
        have eb : y = .ref b := eb
        subst eb
        refine look_one ho hd hf hx hb hes' hu r1 hei (fun z => absurd z hne) fun _ => ?_
        refine ih k' r5 F' (c0 + (c + 1)) (some _) (by lia) (by lia) ?_ (more r6) r3 r4
        show advs t (c + 1) (stand.getD (t.probeStart h)) = _
        rw [hst, ← advs_add]
    · next heq =>
      exfalso
      rcases go_way hdm (10 * turns t.mask) k _ hk hdn hh with ⟨c, j, e, _⟩ | ⟨c, j, i, k', e, _⟩
      · exact heq _ e
      · exact heq _ e
/-- one that is there is found -/
theorem search_old (ho : s.heap.get? S = some o) (hd : o.data = .set es ep t) (hf : t.fits es.size = true) (hm : t.mask = 7 ∨ t.mask = 31) (hr : Ris t.place) {x : Addr} {ks : List K} (hx : IsN knd s.heap ks x)
    (hes : ∀ e ∈ es.toList, ∃ b k', e.2 = Value.ref b ∧ IsN knd s.heap k' b) (hu : A.units < cLine) {h : Int} {i0 j0 : Nat} {b0 : Addr} (h0 : t.place[i0]? = some j0) (he0 : es[i0]? = some (h, Value.ref b0)) (hb0 : IsN knd s.heap ks b0) {Q : SetFound → Shared → Prop} (hQ : Q (.there none) s) :
    ∀ (r F : Nat) (stand : Option Probe), r < F → r < 10 * turns t.mask → (stand.getD (t.probeStart h)).dummy = none → (advs t r (stand.getD (t.probeStart h))).j = j0 → (∀ l, l < r → Occ t (advs t l (stand.getD (t.probeStart h))).j) → wpAny (model prog w) A (setSearchFrom S (.ref x) h true F stand) Q E s := by
  have hps : t.place.size = es.size := by
    unfold fits at hf
    rw [Bool.and_eq_true] at hf
    exact eq_of_beq hf.1
  intro r
  induction r using Nat.strongRecOn with
  | ind r ih =>
    intro F stand hF hk hdn hj hoc
    obtain ⟨F', rfl⟩ : ∃ F', F = F' + 1 := ⟨F - 1, by lia⟩
    unfold setSearchFrom
    refine wpAny_bind (wpAny_setState_of ho hd hf ?_)
    dsimp only
    have hgw : t.gaveWay = false := by
      unfold gaveWay
      rcases hm with z | z <;> rw [z] <;> rfl
    rw [hgw]
    simp only [Bool.false_eq_true, if_false]
    have hh : ∀ {ha : Nat → Int}, (∀ i, ha i = (es[i]?.map (·.1)).getD 0) → (ha i0 == h) = true := fun {ha} e => by
      rw [e, he0]
      simp
    split
    · next met heq =>
      obtain ⟨j, i, next, e, r1, r2, r3⟩ := go_there hr h0 (hh fun _ => rfl) (10 * turns t.mask) r _ hk hdn hj hoc
      have e2 := Option.some.inj (e.symm.trans heq)
      subst e2
      dsimp only
      have hil : i < es.size := by
        have := (Array.getElem?_eq_some_iff.mp r2).1
        lia
      obtain ⟨h1, y, hei⟩ : ∃ h1 y, es[i]? = some (h1, y) := ⟨es[i].1, es[i].2, Array.getElem?_eq_getElem hil⟩
      obtain ⟨b, kb, eb, hb⟩ := hes (h1, y) (List.mem_of_getElem? (by rw [Array.getElem?_toList]; exact hei))
      have eb : y = .ref b := eb
      subst eb
      refine look_one ho hd hf hx hb hes hu r1 hei (fun _ => hQ) fun hne => ?_
      rcases r3 with z | ⟨r', q1, q2, q3, q4⟩
      · subst z
        rw [he0] at hei
        cases hei
        exact absurd (hb.key.inj hb0.key) hne
      · exact ih r' q1 F' (some next) (by lia) (by lia) q2 q3 q4
    · next heq =>
      exfalso
      obtain ⟨j, i, next, e, _⟩ := go_there hr h0 (hh fun _ => rfl) (10 * turns t.mask) r _ hk hdn hj hoc
      exact heq _ e
end
end St
end L2

/-! own layer, part 57: set of a list of numbers, alike ones too -/
namespace L2
open PySem PySem.Spec PyProof.Rows
namespace St
open SetTable
theorem fm_at {α β : Type} {f : α → Option β} : ∀ {l : List α} {i : Nat}, (∀ x ∈ l, ∃ y, f x = some y) → (l.filterMap f)[i]? = l[i]?.bind f
  | [], i, _ => by simp
  | a :: l, i, h => by
    obtain ⟨y, hy⟩ := h a List.mem_cons_self
    rw [List.filterMap_cons_some hy]
    cases i with
    | zero => rw [List.getElem?_cons_zero, List.getElem?_cons_zero]; exact hy.symm
    | succ i => rw [List.getElem?_cons_succ, List.getElem?_cons_succ]; exact fm_at fun x hx => h x (List.mem_cons_of_mem _ hx)
section
variable {prog : Program} {w : World} {K : Type} [DecidableEq K] (knd : KeyKind prog w K) (G : Addr → Prop)
/-- the table t of the things es: the numbers of the keys, each where it is found again -/
structure Bdy (h : Heap) (keys : List (List K)) (es : Array (Int × Value)) (t : SetTable) : Prop where
  dm : t.dummies = #[]
  ps : t.place.size = es.size
  len : es.size = keys.length
  ris : Ris t.place
  ent : ∀ (i : Nat) (e : Int × Value), es[i]? = some e → ∃ (b : Addr) (k : List K) (j : Nat), e = (tupleKeyHash knd k, Value.ref b) ∧ IsN knd h k b ∧ k ∈ keys ∧ G b ∧ t.place[i]? = some j ∧ Way t (Occ t) (t.probeStart e.1) j
  key : ∀ k ∈ keys, ∃ (i : Nat) (b : Addr), es[i]? = some (tupleKeyHash knd k, Value.ref b) ∧ IsN knd h k b
def SetM (h : Heap) (S : Addr) (keys : List (List K)) : Prop := ∃ o es ep t, h.get? S = some o ∧ o.ExactSet ∧ o.data = .set es ep t ∧ (t.mask = 7 ∧ es.size ≤ 4 ∨ t.mask = 31) ∧ Bdy knd G h keys es t
variable {knd} {G}
theorem Bdy.keep {h h' : Heap} {keys : List (List K)} {es : Array (Int × Value)} {t : SetTable} (x : Bdy knd G h keys es t) (k : ∀ b o ks, IsN knd h ks b → h.get? b = some o → h'.get? b = some o) : Bdy knd G h' keys es t :=
  ⟨x.dm, x.ps, x.len, x.ris, fun i e he => let ⟨b, ks, j, q1, q2, q3⟩ := x.ent i e he; ⟨b, ks, j, q1, q2.keep fun o eo => k b o ks q2 eo, q3⟩, fun ks hk => let ⟨i, b, q1, q2⟩ := x.key ks hk; ⟨i, b, q1, q2.keep fun o eo => k b o ks q2 eo⟩⟩
theorem Bdy.nums {h : Heap} {keys : List (List K)} {es : Array (Int × Value)} {t : SetTable} (x : Bdy knd G h keys es t) : ∀ e ∈ es.toList, ∃ b k', e.2 = Value.ref b ∧ IsN knd h k' b ∧ k' ∈ keys := fun e he => by
  obtain ⟨i, hi⟩ := List.getElem?_of_mem he
  rw [Array.getElem?_toList] at hi
  obtain ⟨b, k, j, rfl, q2, q3, _⟩ := x.ent i e hi
  exact ⟨b, k, rfl, q2, q3⟩
variable {A : Around} {E : Value → Shared → Prop} {s : Shared}
/-- a table laid anew -/
theorem Bdy.again {h : Heap} {keys : List (List K)} {es es2 : Array (Int × Value)} {t t2 : SetTable} {order : Array Nat} (x : Bdy knd G h keys es t) (eo : order.toList.Perm (List.range es.size)) (e2 : es2 = order.filterMap (es[·]?)) (d2 : t2.dummies = #[]) (p2 : t2.place.size = es.size) (r2 : Ris t2.place)
    (w2 : ∀ i k : Nat, order[i]? = some k → ∃ (j : Nat) (g : Int), t2.place[i]? = some j ∧ (es.map (·.1))[k]? = some g ∧ Way t2 (Occ t2) (t2.probeStart g) j) : es2.toList.Perm es.toList ∧ Bdy knd G h keys es2 t2 := by
  have hall : ∀ k ∈ order.toList, ∃ y, es[k]? = some y := fun k hk => ⟨_, Array.getElem?_eq_getElem (List.mem_range.mp (eo.mem_iff.mp hk))⟩
  have at2 : ∀ i : Nat, es2[i]? = order[i]?.bind (es[·]?) := fun i => by
    rw [← Array.getElem?_toList, e2, Array.toList_filterMap, fm_at hall, Array.getElem?_toList]
  have hperm : es2.toList.Perm es.toList := by
    rw [e2, Array.toList_filterMap]
    have := eo.filterMap (fun i => es[i]?)
    rw [filterMap_getElem?_range] at this
    exact this
  have hsz : es2.size = es.size := by
    have := hperm.length_eq
    rw [Array.length_toList, Array.length_toList] at this
    exact this
  refine ⟨hperm, d2, by rw [p2, hsz], by rw [hsz]; exact x.len, r2, fun i e he => ?_, fun k hk => ?_⟩
  · rw [at2] at he
    cases ho : order[i]? with
    | none => rw [ho] at he; cases he
    | some k =>
      rw [ho] at he
      have he : es[k]? = some e := he
      obtain ⟨b, ks, _, q1, q2, q3, q4, _⟩ := x.ent k e he
      obtain ⟨j, g, w1, w2', w3⟩ := w2 i k ho
      rw [Array.getElem?_map, he] at w2'
      have eg : e.1 = g := Option.some.inj w2'
      exact ⟨b, ks, j, q1, q2, q3, q4, w1, by rw [eg]; exact w3⟩
  · obtain ⟨i, b, q1, q2⟩ := x.key k hk
    have hm : (tupleKeyHash knd k, Value.ref b) ∈ es2.toList := hperm.mem_iff.mpr (List.mem_of_getElem? (by rw [Array.getElem?_toList]; exact q1))
    obtain ⟨i2, hi2⟩ := List.getElem?_of_mem hm
    rw [Array.getElem?_toList] at hi2
    exact ⟨i2, b, hi2, q2⟩
/-- one more -/
theorem Bdy.more {h : Heap} {keys : List (List K)} {es : Array (Int × Value)} {t t1 : SetTable} {x : Addr} {ks : List K} {j p : Nat} (B : Bdy knd G h keys es t) (hx : IsN knd h ks x) (hG : G x) (he : t.slot j = .empty) (hw : Way t (Occ t) (t.probeStart (tupleKeyHash knd ks)) j) (e1 : t1 = (t.put j).1) (ep : p = (t.put j).2) :
    t1.mask = t.mask ∧ Bdy knd G h (ks :: keys) (insertAt es p (tupleKeyHash knd ks, Value.ref x)) t1 := by
  have hput : t1 = { t with place := insertAt t.place (below t.place j) j } := by
    rw [e1]
    unfold put
    have hz : has t.dummies j = false := by rw [B.dm]; unfold has; rfl
    simp only [hz, Bool.false_eq_true, if_false]
  have ep : p = below t.place j := by rw [ep]; rfl
  have hn : ∀ i : Nat, t.place[i]? ≠ some j := fun i z => by rw [slot_live B.ris z] at he; cases he
  have hple : p ≤ t.place.size := by rw [ep]; exact (below_ok B.ris j).1
  have hple' : p ≤ es.size := by rw [← B.ps]; exact hple
  have hmk : t1.mask = t.mask := by rw [hput]
  have pl : ∀ i : Nat, t1.place[i]? = if i < p then t.place[i]? else if i = p then some j else t.place[i - 1]? := fun i => by
    rw [hput]
    show (insertAt t.place (below t.place j) j)[i]? = _
    rw [← ep, insert_at hple]
  have up : ∀ s, Occ t s → Occ t1 s := fun s ⟨q, hq⟩ => by
    rcases Nat.lt_or_ge q p with z | z
    · exact ⟨q, by rw [pl, if_pos z]; exact hq⟩
    · exact ⟨q + 1, by rw [pl, if_neg (by lia), if_neg (by lia)]; exact hq⟩
  have mv : ∀ {g : Int} {r : Nat}, Way t (Occ t) (t.probeStart g) r → Way t1 (Occ t1) (t1.probeStart g) r := fun {g r} z => by
    have := (z.mono up).mask (u := t1) hmk.symm
    rw [start_mask hmk.symm g] at this
    exact this
  refine ⟨hmk, ?_, ?_, ?_, ?_, fun i e he => ?_, fun k hk => ?_⟩
  · rw [hput]; exact B.dm
  · rw [hput]
    show (insertAt _ _ _).size = _
    rw [insert_size, insert_size, B.ps]
  · rw [insert_size, B.len]; rfl
  · rw [hput]
    exact B.ris.put hn
  · rw [insert_at hple'] at he
    rcases Nat.lt_trichotomy i p with z | z | z
    · rw [if_pos z] at he
      obtain ⟨b, k, r, q1, q2, q3, q4, q5, q6⟩ := B.ent i e he
      exact ⟨b, k, r, q1, q2, List.mem_cons_of_mem _ q3, q4, by rw [pl, if_pos z]; exact q5, mv q6⟩
    · rw [if_neg (by lia), if_pos z] at he
      cases he
      exact ⟨x, ks, j, rfl, hx, List.mem_cons_self, hG, by rw [pl, if_neg (by lia), if_pos z], mv hw⟩
    · rw [if_neg (by lia), if_neg (by lia)] at he
      obtain ⟨b, k, r, q1, q2, q3, q4, q5, q6⟩ := B.ent (i - 1) e he
      exact ⟨b, k, r, q1, q2, List.mem_cons_of_mem _ q3, q4, by rw [pl, if_neg (by lia), if_neg (by lia)]; exact q5, mv q6⟩
  · rcases List.mem_cons.mp hk with z | z
    · subst z
      exact ⟨p, x, by rw [insert_at hple', if_neg (Nat.lt_irrefl _), if_pos rfl], hx⟩
    · obtain ⟨i, b, q1, q2⟩ := B.key k z
      rcases Nat.lt_or_ge i p with y | y
      · exact ⟨i, b, by rw [insert_at hple', if_pos y]; exact q1, q2⟩
      · exact ⟨i + 1, b, by rw [insert_at hple', if_neg (by lia), if_neg (by lia)]; exact q1, q2⟩
theorem add_tail2 {S : Addr} {o : Obj} {es : Array (Int × Value)} {ep : Nat} {t : SetTable} (ho : s.heap.get? S = some o) (hcl : o.ExactSet) (hd : o.data = .set es ep t) {es1 : Array (Int × Value)} {t1 : SetTable} {keys : List (List K)}
    (hmk : t1.mask = 7 ∧ es1.size ≤ 5 ∨ t1.mask = 31) (B : Bdy knd G s.heap keys es1 t1) (h17 : es1.size ≤ 17) {m : Nat} (hm : m = es1.size) {Q : Bool → Shared → Prop}
    (h : ∀ h', Heap.SameBut S s.heap h' → SetM knd G h' S keys → Q true { s with heap := h' }) :
    wpAny (model prog w) A (do storeSet S es1 t1; if (!false && t1.tooFull) = true then do { setRelay S (grown m); pure true } else pure true) Q E s := by
  refine wpAny_bind (wpAny_storeSet_of ho hd ?_ (Nat.le_trans h17 (by decide)))
  have hg1 : (s.heap.update S (Obj.putSet es1 t1)).get? S = some { o with data := .set es1 (ep + 1) t1 } := by
    have := Heap.get?_update_self (Obj.putSet es1 t1) ho (by rw [putSet_of _ _ hd]; rfl)
    rw [putSet_of _ _ hd] at this; exact this
  have sb1 : Heap.SameBut S s.heap (s.heap.update S (Obj.putSet es1 t1)) := Heap.SameBut.update ..
  generalize s.heap.update S (Obj.putSet es1 t1) = h1 at hg1 sb1 ⊢
  have other : ∀ {g g' : Heap} {o' : Obj} {es' ep' t'}, g.get? S = some o' → o'.data = .set es' ep' t' → Heap.SameBut S g g' → ∀ b oo ks, IsN knd g ks b → g.get? b = some oo → g'.get? b = some oo := fun {g g' o' es' ep' t'} e1 e2 sb b oo ks hN e => by
    have hne : b ≠ S := by
      rintro rfl
      obtain ⟨o2, items, n, q1, q2, q3, _⟩ := hN
      rw [e1] at q1
      cases q1
      rw [e2] at q3
      cases q3
    exact (sb.2 b hne).trans e
  have B1 : Bdy knd G h1 keys es1 t1 := B.keep (other ho hd sb1)
  have hfl : SetTable.fill t1 = es1.size := by unfold SetTable.fill; rw [B.dm, B.ps]; rfl
  by_cases hfull : t1.tooFull = true
  · have hf5 : es1.size * 5 ≥ t1.mask * 3 := by
      unfold tooFull at hfull
      rw [hfl] at hfull
      exact of_decide_eq_true hfull
    have hm7 : t1.mask = 7 ∧ es1.size = 5 := by
      rcases hmk with z | z
      · rw [z.1] at hf5; exact ⟨z.1, by lia⟩
      · rw [z] at hf5; lia
    simp only [hfull, Bool.not_false, Bool.and_self, if_true]
    refine wpAny_bind ?_
    unfold setRelay
    have hfit1 : t1.fits es1.size = true := by
      unfold fits
      rw [hfl, B.ps, hm7.1, hm7.2]; rfl
    refine wpAny_bind (wpAny_setState_of (s := { s with heap := h1 }) (o := { o with data := .set es1 (ep + 1) t1 }) hg1 rfl hfit1 ?_)
    dsimp only
    have hgr : grown m = 20 := by rw [hm, hm7.2]; rfl
    have hsa : sizeAbove 20 = 32 := by decide
    rw [hgr, hsa, if_neg (by decide)]
    have hrl : t1.relaid (es1.map (·.1)) 20 = laid 31 t1.finger (t1.movedTo 31) t1.led t1.plain (es1.map (·.1)) := by
      unfold relaid
      rw [hsa]
    obtain ⟨t2, order, el, et1, et2, et3, eo, er, ew⟩ := laid_way (es1.map (·.1)) (by rw [Array.size_map]; lia) t1.finger (t1.movedTo 31) t1.led t1.plain
    rw [Array.size_map] at et3 eo
    obtain ⟨hperm, B2⟩ := B1.again eo rfl et2 et3 er ew
    have hsz2 : (order.filterMap (es1[·]?)).size = es1.size := by
      have := hperm.length_eq
      rw [Array.length_toList, Array.length_toList] at this
      exact this
    rw [hrl, el]
    refine wpAny_bind ?_
    show wpAny _ _ (if ((order.filterMap (es1[·]?)).size != es1.size) = true then _ else pure (order.filterMap (es1[·]?), t2)) _ _ _
    rw [if_neg (by rw [hsz2]; simp)]
    refine wpAny_pure ?_
    generalize order.filterMap (es1[·]?) = es2 at hperm hsz2 B2 ⊢
    refine wpAny_storeSet_of (s := { s with heap := h1 }) (o := { o with data := .set es1 (ep + 1) t1 }) hg1 rfl ?_ (by rw [hsz2]; exact Nat.le_trans h17 (by decide))
    have hg2 : (h1.update S (Obj.putSet es2 t2)).get? S = some { o with data := .set es2 (ep + 1 + 1) t2 } := by
      have := Heap.get?_update_self (Obj.putSet es2 t2) hg1 (by rw [putSet_of (es := es1) (ep := ep + 1) (t := t1) _ _ rfl]; rfl)
      rw [putSet_of (es := es1) (ep := ep + 1) (t := t1) _ _ rfl] at this; exact this
    have sb2 : Heap.SameBut S h1 (h1.update S (Obj.putSet es2 t2)) := Heap.SameBut.update ..
    exact wpAny_pure (h (h1.update S (Obj.putSet es2 t2)) ⟨sb2.1.trans sb1.1, fun b hb => (sb2.2 b hb).trans (sb1.2 b hb)⟩ ⟨_, _, _, _, hg2, hcl, rfl, .inr et1, B2.keep (other (es' := es1) (ep' := ep + 1) (t' := t1) hg1 rfl sb2)⟩)
  · have hfull' : t1.tooFull = false := by simpa using hfull
    simp only [hfull', Bool.and_false, Bool.false_eq_true, if_false]
    refine wpAny_pure (h h1 sb1 ⟨_, _, _, _, hg1, hcl, rfl, ?_, B1⟩)
    rcases hmk with z | z
    · refine .inl ⟨z.1, ?_⟩
      unfold tooFull at hfull'
      rw [hfl, z.1] at hfull'
      have hf' := of_decide_eq_false hfull'
      lia
    · exact .inr z
/-- the keys with one more, if it is none of them -/
def kAdd (ks : List K) (keys : List (List K)) : List (List K) := if ks ∈ keys then keys else ks :: keys
theorem add_m {S x : Addr} {ks : List K} {keys : List (List K)} {Q : Bool → Shared → Prop} (hS : SetM knd G s.heap S keys) (hx : IsN knd s.heap ks x) (hGx : G x) (hl : keys.length ≤ 16) (hu : A.units < cLine)
    (h : ∀ b h', Heap.SameBut S s.heap h' → SetM knd G h' S (kAdd ks keys) → Q b { s with heap := h' }) : wpAny (model prog w) A (setAddHashed S (.ref x) (tupleKeyHash knd ks)) Q E s := by
  obtain ⟨o, es, ep, t, ho, hcl, hd, hmk, B⟩ := id hS
  have hn := B.len
  have hm : t.mask = 7 ∨ t.mask = 31 := hmk.elim (fun z => .inl z.1) .inr
  have hsz : es.size ≤ t.mask := by rcases hmk with z | z <;> lia
  have hfl : SetTable.fill t = es.size := by unfold SetTable.fill; rw [B.dm, B.ps]; rfl
  have hfit : t.fits es.size = true := by
    unfold fits
    rw [hfl, B.ps]
    simp
    exact hsz
  unfold setAddHashed setAddHashedIn
  refine wpAny_holding (wpAny_bind (wpAny_setState_of ho hd hfit ?_))
  dsimp only
  have hbs : byScan (.ref x) es = false := rfl
  rw [hbs]
  simp only [Bool.false_eq_true, if_false]
  obtain ⟨k, hk1, hk2⟩ := start_hit hm B.dm (by rw [B.ps]; exact hsz) (tupleKeyHash knd ks)
  have hkF : k < 100000 := by
    unfold turns at hk1
    rcases hm with z | z <;> rw [z] at hk1 <;> lia
  by_cases hin : ks ∈ keys
  · obtain ⟨i0, b0, he0, hb0⟩ := B.key ks hin
    obtain ⟨b, k', j0, q1, q2, q3, q4, q5, q6⟩ := B.ent i0 _ he0
    obtain ⟨m, m1, m2⟩ := q6
    have hmk' : m < k := by
      refine Nat.lt_of_not_le fun hle => ?_
      unfold Hit at hk2
      rcases Nat.lt_or_ge k m with z | z
      · obtain ⟨q, hq⟩ := m2 k z
        rw [slot_live B.ris hq] at hk2
        cases hk2
      · have e : k = m := by lia
        rw [e, m1, slot_live B.ris q5] at hk2
        cases hk2
    refine wpAny_bind (m := setSearch S (.ref x) (tupleKeyHash knd ks) true) (search_old ho hd hfit hm B.ris hx (fun e he => let ⟨b, k', q1, q2, _⟩ := B.nums e he; ⟨b, k', q1, q2⟩) hu q5 he0 hb0 ?_ m 100000 none (by lia) (by lia) rfl m1 m2)
    dsimp only
    refine wpAny_pure (h false s.heap (Heap.SameBut.refl ..) ?_)
    unfold kAdd
    rw [if_pos hin]
    exact hS
  · have hes : ∀ e ∈ es.toList, ∃ b k', e.2 = Value.ref b ∧ IsN knd s.heap k' b ∧ k' ≠ ks := fun e he => by
      obtain ⟨b, k, q1, q2, q3⟩ := B.nums e he
      exact ⟨b, k, q1, q2, fun z => hin (z ▸ q3)⟩
    refine wpAny_bind (m := setSearch S (.ref x) (tupleKeyHash knd ks) true) (search_new ho hd hfit hm B.dm hx hes hu (fun j hj hw => ?_) k 100000 0 none hkF hk1 rfl (fun l hl => absurd hl (Nat.not_lt_zero _)) rfl hk2)
    dsimp only
    refine wpAny_bind (wpAny_setState_of ho hd hfit ?_)
    dsimp only
    obtain ⟨hmk1, B1⟩ := B.more hx hGx hj hw rfl rfl
    generalize (t.put j).1 = t1 at hmk1 B1 ⊢
    generalize (t.put j).2 = p at B1 ⊢
    have hsz1 : (insertAt es p (tupleKeyHash knd ks, Value.ref x)).size = es.size + 1 := insert_size _ _ _
    have tail := add_tail2 (knd := knd) (G := G) (A := A) (E := E) (Q := Q) ho hcl hd (es1 := insertAt es p (tupleKeyHash knd ks, Value.ref x)) (t1 := t1) (keys := ks :: keys) (by rw [hmk1, hsz1]; rcases hmk with z | z; exact .inl ⟨z.1, by lia⟩; exact .inr z) B1 (by rw [hsz1]; lia) (m := es.size + 1) (by rw [hsz1]) (fun h' sb hM => h true h' sb (by unfold kAdd; rw [if_neg hin]; exact hM))
    split
    · refine wpAny_bind (hashByValue_n hx ?_)
      simp only [if_true]
      exact tail
    · refine wpAny_bind (wpAny_pure ?_)
      simp only [if_true]
      exact tail
end
end St
end L2

/-! own layer, part 58: set of a list of numbers, and its length, as rules -/
namespace L2
open PySem PySem.Spec PyProof.Rows
namespace St
section
variable {prog : Program} {w : World} {K : Type} [DecidableEq K] {knd : KeyKind prog w K} {G : Addr → Prop} {A : Around} {R : Result → Shared → Prop} {I : Addr} {fp wr : List Addr} {GG : Array GenState → Array GenState → Prop} {n : Nat} {P : Nat → Value → Prop} {St : Nat → Shared → Prop}
theorem SetM.stay {h h' : Heap} {S : Addr} {keys : List (List K)} (x : SetM knd G h S keys) (k : ∀ b o, b = S ∨ G b → h.get? b = some o → h'.get? b = some o) : SetM knd G h' S keys := by
  obtain ⟨o, es, ep, t, h1, h2, h3, h4, B⟩ := x
  refine ⟨o, es, ep, t, k _ _ (.inl rfl) h1, h2, h3, h4, B.dm, B.ps, B.len, B.ris, fun i e he => ?_, fun ks hk => ?_⟩
  · obtain ⟨b, ks, j, q1, q2, q3, q4, q5⟩ := B.ent i e he
    exact ⟨b, ks, j, q1, q2.keep fun o eo => k b o (.inr q4) eo, q3, q4, q5⟩
  · obtain ⟨i, b, q1, q2⟩ := B.key ks hk
    obtain ⟨b', _, _, e, _, _, q4, _⟩ := B.ent i _ q1
    have eb : b = b' := Value.ref.inj (congrArg Prod.snd e)
    exact ⟨i, b, q1, q2.keep fun o eo => k b o (.inr (eb ▸ q4)) eo⟩
def kD (key : Nat → List K) : Nat → List (List K)
  | 0 => []
  | i + 1 => kAdd (key i) (kD key i)
theorem kD_length (key : Nat → List K) : ∀ i, (kD key i).length ≤ i
  | 0 => Nat.le_refl _
  | i + 1 => by
    have := kD_length key i
    show (kAdd _ _).length ≤ _
    unfold kAdd
    split
    · lia
    · rw [List.length_cons]; lia
theorem kD_mem {key : Nat → List K} {k : List K} : ∀ {i}, k ∈ kD key i ↔ ∃ j, j < i ∧ key j = k
  | 0 => ⟨(fun h => nomatch h), (fun ⟨_, h, _⟩ => absurd h (Nat.not_lt_zero _))⟩
  | i + 1 => by
    show k ∈ kAdd (key i) (kD key i) ↔ _
    unfold kAdd
    split
    · next h =>
      rw [kD_mem (i := i)]
      refine ⟨fun ⟨j, h1, h2⟩ => ⟨j, by lia, h2⟩, fun ⟨j, h1, h2⟩ => ?_⟩
      rcases Nat.lt_or_ge j i with z | z
      · exact ⟨j, z, h2⟩
      · obtain rfl : j = i := by lia
        rw [← h2]
        exact kD_mem.mp h
    · rw [List.mem_cons, kD_mem (i := i)]
      refine ⟨fun h => ?_, fun ⟨j, h1, h2⟩ => ?_⟩
      · rcases h with z | ⟨j, h1, h2⟩
        · exact ⟨i, Nat.lt_succ_self _, z.symm⟩
        · exact ⟨j, by lia, h2⟩
      · rcases Nat.lt_or_ge j i with z | z
        · exact .inr ⟨j, z, h2⟩
        · obtain rfl : j = i := by lia
          exact .inl h2.symm
/-- all of them are unlike just if there are as many -/
theorem kD_all {key : Nat → List K} : ∀ {n}, (kD key n).length = n ↔ ∀ i j, i < n → j < n → key i = key j → i = j
  | 0 => ⟨fun _ i _ h => absurd h (Nat.not_lt_zero _), fun _ => rfl⟩
  | n + 1 => by
    have hl := kD_length key n
    have ih := kD_all (key := key) (n := n)
    show (kAdd (key n) (kD key n)).length = n + 1 ↔ _
    unfold kAdd
    split
    · next h =>
      refine ⟨fun z => by lia, fun z => ?_⟩
      obtain ⟨j, h1, h2⟩ := kD_mem.mp h
      have := z j n (by lia) (Nat.lt_succ_self _) h2
      lia
    · next h =>
      rw [List.length_cons]
      refine ⟨fun z i j hi hj e => ?_, fun z => ?_⟩
      · have z' := ih.mp (by lia)
        rcases Nat.lt_or_ge i n with a | a
        · rcases Nat.lt_or_ge j n with b | b
          · exact z' i j a b e
          · obtain rfl : j = n := by lia
            exact absurd (kD_mem.mpr ⟨i, a, e⟩) h
        · obtain rfl : i = n := by lia
          rcases Nat.lt_or_ge j i with b | b
          · exact absurd (kD_mem.mpr ⟨j, b, e.symm⟩) h
          · lia
      · have := ih.mpr fun i j hi hj e => z i j (by lia) (by lia) e
        lia
theorem loop_m (W : WalksS prog w A.in1 I fp wr GG n P St) (S : Addr) (hSf : S ∉ fp) (key : Nat → List K) (adr : Nat → Addr) (hval : ∀ i v, P i v → v = Value.ref (adr i)) (hG : ∀ i, i < n → G (adr i)) (hGw : ∀ b, G b → b ∉ wr ∧ b ≠ S)
    (hn : n ≤ 17) (hu : A.units + 1 < cLine) (left i : Nat) (s : Shared) (hk : i + left = n) (hst : St i s) (hN : ∀ j, j < n → IsN knd s.heap (key j) (adr j)) (hS : SetM knd G s.heap S (kD key i))
    (hR : ∀ s', Moved (S :: wr) GG s s' → SetM knd G s'.heap S (kD key n) → R (.ok (.ret .none)) s') : codeAny (model prog w) A (.builtin "set.update.loop" ⟨[.ref S, .ref I], []⟩) R s := by
  have grow : ∀ {a b : Shared}, Moved wr GG a b → Moved (S :: wr) GG a b := fun m => m.mono fun _ => List.mem_cons_of_mem _
  have stay : ∀ {a b : Shared}, Moved wr GG a b → ∀ c o, c = S ∨ G c → a.heap.get? c = some o → b.heap.get? c = some o := fun m c o hc => m.heap c o (hc.elim (fun z => z ▸ mt (W.sub _) hSf) fun z => (hGw c z).1)
  induction left generalizing i s with
  | zero =>
    obtain rfl : i = n := by lia
    refine turn_of (show wpAny (model prog w) A.in1 (pyNext (Value.ref I) >>= _) _ _ s from wpAny_bind (W.done s _ _ hst fun s' m => ?_))
    exact wpAny_pure (hR s' (grow m) (hS.stay (stay m)))
  | succ left ih =>
    have hlt : i < n := by lia
    refine turn_of (show wpAny (model prog w) A.in1 (pyNext (Value.ref I) >>= _) _ _ s from wpAny_bind (W.item i s _ _ hlt hst fun v s' hP hst' m => ?_))
    obtain rfl := hval i v hP
    have hN' : ∀ j, j < n → IsN knd s'.heap (key j) (adr j) := fun j hj => (hN j hj).keep fun o e => stay m _ o (.inr (hG j hj)) e
    have hS' : SetM knd G s'.heap S (kD key i) := hS.stay (stay m)
    refine wpAny_bind (m := holding [Value.ref (adr i)] (setAdd S (Value.ref (adr i)))) (wpAny_holding ?_)
    unfold setAdd
    refine wpAny_holding (wpAny_bind (wpAny_pyHash_tuple hu (hN' i hlt).key ?_))
    refine add_m (knd := knd) (G := G) (s := { s' with toks := s'.toks + ((key i).length + 1) }) hS' (hN' i hlt) (hG i hlt) (by have := kD_length key i; lia) hu fun bb h' sb hS2 => ?_
    have other : ∀ c o, c ≠ S → s'.heap.get? c = some o → h'.get? c = some o := fun c o hc e => (sb.2 c hc).trans e
    refine wpAny_pure ⟨plainId_quiet F.plain_set_update_loop _, ih (i + 1) _ (by lia) (W.frame _ s' _ _ hst' (Nat.le_add_right _ _) fun b hb o e => other b o (fun z => hSf (z ▸ hb)) e) (fun j hj => (hN' j hj).keep fun o e => other _ o (hGw _ (hG j hj)).2 e) hS2 fun s'' m2 hS3 => ?_⟩
    exact hR s'' (((grow m).then_heap (Nat.le_add_right _ _) fun b o hb e => other b o (fun z => hb (z ▸ List.mem_cons_self)) e).trans W.gtrans m2) hS3
end
section
variable {prog : Program} {w : World} {K : Type} [DecidableEq K] {knd : KeyKind prog w K} {A : Around} {E : Value → Shared → Prop} {s : Shared}
theorem init_m {l : Addr} {items : Array Value} (led : Bool) (key : Nat → List K) (adr : Nat → Addr) (hh : A.handled = none) (hl : s.heap.IsList l items) (hv : ∀ (i : Nat) (v : Value), items[i]? = some v → v = Value.ref (adr i)) (hN : ∀ j, j < items.size → IsN knd s.heap (key j) (adr j))
    (hb : items.size ≤ 17) (hu : A.units + 20 < cLine) {Q : Fin → Shared → Prop} {E' : Value → Shared → Prop}
    (h : ∀ (h' : Heap) (tk : Nat), SetM knd (fun b => b < s.heap.objs.size) h' s.heap.objs.size (kD key items.size) → (∀ b o, s.heap.get? b = some o → h'.get? b = some o) → Q (.done (.ret .none)) { s with heap := h', toks := tk }) :
    wpAny (model prog w) A (Builtin.«set.__init__» ⟨[.ref s.heap.objs.size, .ref l], []⟩) Q E' { s with heap := s.heap.push (nS led) } := by
  have lS : l < s.heap.objs.size := by obtain ⟨_, e, _⟩ := hl; exact Heap.lt_size e
  obtain ⟨⟨_, od, _, osl⟩, el, hc, nl, hd⟩ := id hl
  simp only at hc hd; subst hc hd
  have el1 : (s.heap.push (nS led)).get? l = some { cls := .type "list", dict := od, data := .seq items nl, slots := osl } := Heap.get?_push_of_some _ el
  have eS : (s.heap.push (nS led)).get? s.heap.objs.size = some (nS led) := Heap.get?_push_size _ rfl
  have hl1 : (s.heap.push (nS led)).IsList l items := ⟨_, el1, rfl, nl, rfl⟩
  have t1 := F.sub_list_set; have t2 := F.sub_list_frozenset; have t3 : (Value.type "list" == Value.type "dict") = false := by decide
  unfold Builtin.«set.__init__» noKeywords Builtin.Frozenset.updateFrom
  generalize hPI : pyIter = PI; wp_walk; subst hPI
  have zS : (s.heap.push (nS led)).objs.size = s.heap.objs.size + 1 := Heap.size_push ..
  refine wpAny_pyIter_list hl1 (wpAny_bind (wpAny_runValue ?_))
  have up : ∀ b o, s.heap.get? b = some o → ((s.heap.push (nS led)).push (nI l)).get? b = some o := fun b o e => Heap.get?_push_of_some _ (Heap.get?_push_of_some _ e)
  have lI : l ≠ (s.heap.push (nS led)).objs.size := by rw [zS]; exact Nat.ne_of_lt (Nat.lt_succ_of_lt lS)
  have empty : Bdy knd (fun b => b < s.heap.objs.size) ((s.heap.push (nS led)).push (nI l)) (kD key 0) #[] (.fresh 0 0 led) := ⟨rfl, rfl, rfl, List.Pairwise.nil, fun i e he => by simp at he, fun k hk => nomatch hk⟩
  refine loop_m (knd := knd) (G := fun b => b < s.heap.objs.size) ((Walks.list (A := A.in1) hh _ l lI items).toS) s.heap.objs.size ?_ key adr (fun i v hP => hv i v hP) (fun i hi => ?_) (fun b hb => ⟨?_, Nat.ne_of_lt hb⟩) hb (by lia) items.size 0 _ (Nat.zero_add _)
    ⟨⟨_, Heap.get?_push_size _ rfl, rfl, rfl⟩, hl1.push _⟩ (fun j hj => (hN j hj).keep fun o e => up _ _ e) ⟨_, _, _, _, Heap.get?_push_of_some _ eS, ⟨rfl, rfl, rfl⟩, rfl, .inl ⟨rfl, Nat.zero_le _⟩, empty⟩ ?_
  · rw [zS]; intro hm
    rcases List.mem_cons.mp hm with z | z
    · exact absurd z (Nat.ne_of_lt (Nat.lt_succ_self _))
    · exact absurd (List.mem_singleton.mp z) (Nat.ne_of_gt lS)
  · obtain ⟨_, _, _, e, _⟩ := hN i hi; exact Heap.lt_size e
  · rw [zS]; intro hm
    exact absurd (List.mem_singleton.mp hm) (Nat.ne_of_lt (Nat.lt_succ_of_lt hb))
  rintro ⟨h', g', d', tk', os'⟩ m hS'
  obtain rfl : g' = s.gens := m.gens
  obtain rfl : d' = s.drawn := m.drawn
  obtain rfl : os' = s.os := m.os
  refine wpAny_pure (wpAny_pure (h h' tk' hS' fun b o e => ?_))
  have lb := Heap.lt_size e
  refine m.heap b o (fun hm => ?_) (up b o e)
  rw [zS] at hm
  rcases List.mem_cons.mp hm with z | z
  · exact absurd z (Nat.ne_of_lt lb)
  · exact absurd (List.mem_singleton.mp z) (Nat.ne_of_lt (Nat.lt_succ_of_lt lb))
/-- set(l), l a list of numbers -/
theorem call_setM {l : Addr} {items : Array Value} {Q : Value → Shared → Prop} (key : Nat → List K) (adr : Nat → Addr) (hh : A.handled = none) (hl : s.heap.IsList l items) (hv : ∀ (i : Nat) (v : Value), items[i]? = some v → v = Value.ref (adr i)) (hN : ∀ j, j < items.size → IsN knd s.heap (key j) (adr j))
    (hb : items.size ≤ 17) (hu : A.units + 40 < cLine)
    (h : ∀ (h' : Heap) (tk : Nat), SetM knd (fun b => b < s.heap.objs.size) h' s.heap.objs.size (kD key items.size) → (∀ b o, s.heap.get? b = some o → h'.get? b = some o) → Q (.ref s.heap.objs.size) { s with heap := h', toks := tk }) :
    wpAny (model prog w) A (call (.type "set") [.ref l]) Q E s := by
  obtain ⟨_, _, hmro⟩ := F.called_set.mro
  have m1 := F.called_set.made; have m2 := F.called_set.sub; have m3 := F.called_set.notType; have m4 := F.called_set.canCreate; have m5 := F.typeCall_set_1 (.ref l)
  refine wpAny_call (codeAny_of_tree (show wpAny _ _ (callAny (.type "set") _) _ _ _ from wpAny_pure ⟨Code.quiet_builtin _ (by decide +kernel), codeAny_builtin F.entry_type_call ?_⟩))
  rw [Around.under_plain (weight_type_call_type "set" [.ref l] []) rfl]
  repeat any_goals first | assumption | wp_step
  refine codeAny_mono (code_set_new_1 (.ref l) (E := E) (Q₁ := fun v s₁ => v = .ref s.heap.objs.size ∧ ∃ led, s₁ = { s with heap := s.heap.push (nS led) }) fun led => ⟨rfl, led, rfl⟩) fun r s₁ hr => ?_
  rcases r with e | fl
  · exact hr
  cases fl with
  | ret v =>
    obtain ⟨e1, led, e2⟩ := hr
    subst e1 e2
    have hT : Shared.TypeIs { s with heap := s.heap.push (nS led) } (.ref s.heap.objs.size) "set" := ⟨_, Heap.get?_push_size _ rfl, rfl⟩
    have m6 := F.called_set.init.lookup; have m7 := F.called_set.init.bind (.ref s.heap.objs.size)
    repeat any_goals first | assumption | wp_step
    refine codeAny_mono (codeAny_call_builtin (R := wants (fun r s₂ => r = .none ∧ Q (.ref s.heap.objs.size) s₂) E) F.called_set.init.plain F.entry_set_init (check_set_init_1 hT ?_)) fun r₂ s₂ hr₂ => ?_
    · refine init_m (knd := knd) led key adr ?_ hl hv hN hb ?_ fun h' tk hS hk => ?_
      · simp [hh]
      · simp only [Around.in1]; lia
      · exact ⟨rfl, h h' tk hS hk⟩
    · rcases r₂ with e | fl₂
      · exact hr₂
      cases fl₂ with
      | ret _ =>
        obtain ⟨e3, q⟩ := hr₂
        subst e3
        repeat any_goals first | assumption | wp_step
      | _ => exact hr₂.elim
  | _ => exact hr.elim
end
end St
section
variable {X : Cx}
/-- how many unlike ones there are: as many as there are numbers just if no two are alike -/
inductive rSetD (K : PySem.W.Frag) (xs : List V) (H : Hp) (Q : VK) : Prop
  | mk (l : Addr) (ys : List V) (qs : List Rat) (h1 : xs = [.ref l]) (h2 : SqL K H l ys) (h3 : NumsT H ys qs) (h4 : qs.length ≤ 17) (h5 : ∀ p n, n ≤ qs.length → (n = qs.length ↔ qs.Nodup) → H p = none → Q (.ref p) (upd H p (SetO p n))) : rSetD K xs H Q
theorem call_setD (hc : X.calm = true) (hu : X.A.units + 64 < cLine) : CallR X (.type "set") (rSetD X.K) := by
  intro pins s σ H xs us Q I r h
  obtain ⟨l, ys, qs, rfl, hq, hn, h17, q⟩ := h
  obtain ⟨u, rfl, rfl⟩ := vals1 r
  obtain ⟨its, rv, p, hz⟩ := I.list hq
  have hl := rv.length
  have hyl := hn.length
  have hsz : its.toArray.size = qs.length := by rw [List.size_toArray]; lia
  let adr : Nat → Addr := fun j => match ys[j]? with | some (.ref r) => r | _ => 0
  have had : ∀ j, j < qs.length → ∃ r, ys[j]? = some (.ref r) ∧ adr j = r ∧ H r = some (nT (qs.getD j 0)) := fun j hj => by
    have g : qs[j]? = some (qs.getD j 0) := by rw [List.getD_eq_getElem?_getD, List.getElem?_eq_getElem hj]; rfl
    obtain ⟨y, hy, r, rfl, hr⟩ := Paired.get' hn g
    exact ⟨r, hy, by show (match ys[j]? with | some (.ref r) => r | _ => 0) = r; rw [hy], hr⟩
  refine St.call_setM (knd := mixKind X.prog X.w) (fun j => kQ (qs.getD j 0)) adr (I.ok.hd hc) p.isList (fun i v hv => ?_) (fun j hj => ?_) (by lia) (by lia) fun h' tk hS hk => ?_
  · have hv' : its[i]? = some v := by simpa using hv
    have hi : i < its.length := (List.getElem?_eq_some_iff.mp hv').1
    obtain ⟨r, hy, hr, _⟩ := had i (by lia)
    obtain ⟨u, hu1, ru⟩ := rv.get hy
    rw [hv'] at hu1
    cases hu1
    rw [hr]; exact ru
  · rw [hsz] at hj
    obtain ⟨r, _, hr, hH⟩ := had j hj
    rw [hr]
    exact isN_of I.hok hH
  · have hnd : (St.kD (fun j => kQ (qs.getD j 0)) its.toArray.size).length = qs.length ↔ qs.Nodup := by
      rw [hsz, St.kD_all]
      refine ⟨fun z => ?_, fun z i j hi hj e => ?_⟩
      · refine List.pairwise_iff_getElem.mpr fun i j hi hj hlt e => ?_
        have := z i j hi hj (by rw [List.getD_eq_getElem?_getD, List.getD_eq_getElem?_getD, List.getElem?_eq_getElem hi, List.getElem?_eq_getElem hj, e])
        lia
      · have e' := kQ_inj e
        have g1 : qs[i]? = some (qs.getD i 0) := by rw [List.getD_eq_getElem?_getD, List.getElem?_eq_getElem hi]; rfl
        have g2 : qs[j]? = some (qs.getD j 0) := by rw [List.getD_eq_getElem?_getD, List.getElem?_eq_getElem hj]; rfl
        exact (List.getElem?_inj hi z).mp (by rw [g1, g2, e'])
    have hle := St.kD_length (fun j => kQ (qs.getD j 0)) its.toArray.size
    generalize hkk : St.kD (fun j => kQ (qs.getD j 0)) its.toArray.size = kk at hS hnd hle
    obtain ⟨o, es, ep, t, h1, h2, h3, h4, B⟩ := hS
    have h7 := B.len
    have hfit : SetTable.fits t es.size = true := by
      unfold SetTable.fits SetTable.fill
      rw [B.dm, B.ps]
      rcases h4 with z | z <;> simp <;> lia
    have new : ObjOk X.prog X.w (upd H s.heap.objs.size (SetO s.heap.objs.size kk.length)) h' s.heap.objs.size (SetO s.heap.objs.size kk.length) := by
      refine ⟨⟨o, es, ep, t, h1, h2, h3, hfit, h7⟩, ⟨o, h1⟩, fun g1 g2 hg hk => ?_⟩
      obtain ⟨o, es, ep, t, k1, k2, k3, k4, k5⟩ := hg
      exact ⟨o, es, ep, t, hk o k1, k2, k3, k4, k5⟩
    exact ⟨.ref s.heap.objs.size, _, I.laid (t' := tk) hk (Nat.le_refl _) new, rfl, q _ _ (by lia) hnd (I.hok.fresh (Nat.le_refl _))⟩
theorem setD (K : PySem.W.Frag) (hc : X.calm = true) (hu : X.A.units + 64 < cLine) (e : X.K = K := by rfl) : CallR X (.type "set") (rSetD K) := by subst e; exact call_setD hc hu
end
end L2

/-! own layer, part 62: isinstance of any plain thing, and several types; a promise of CX2 as one of CX1 -/
namespace L2
open PySem PySem.Spec PyProof.Rows
section
open PySem.W
variable {X : Cx} (K : PySem.W.Frag)
/-- the type of a plain thing -/
inductive TyP (K : PySem.W.Frag) (H : Hp) : V → Value → Prop where
  | non : TyP K H .non (.type "NoneType")
  | bl (x : Bool) : TyP K H (.bl x) (.type "bool")
  | int (i : Int) : TyP K H (.int i) (.type "int")
  | str (x : Str) : TyP K H (.str x) (.type "str")
  | lst {a : Addr} {xs : List V} (e : SqL K H a xs) : TyP K H (.ref a) (.type "list")
  | tup {a : Addr} {xs : List V} (e : SqT K H a xs) : TyP K H (.ref a) (.type "tuple")
  | dK {a : Addr} {kvs : List (Key × V)} (e : H a = some (.dK kvs)) : TyP K H (.ref a) (.type "dict")
  | dT {a : Addr} {kvs : List (List Key × V)} (e : H a = some (.dT kvs)) : TyP K H (.ref a) (.type "dict")
inductive cIsiTX (xs : List V) (H : Hp) (Q : VK) : Prop
  | mk (x : _) (t : _) (tp : _) (ys : _) (cs : _) (b : _) (h1 : xs = [x, .ref tp]) (h2 : TyP K H x t) (h3 : H tp = some (.tup ys)) (h4 : ys.map clsV = cs.map some) (h5 : kitAny K t cs = some b) (h6 : Q (.bl b) H) : cIsiTX xs H Q
theorem isiTX (e : X.K = K := by rfl) : CallR X (.builtin "isinstance") (cIsiTX K) := by
  subst e
  intro pins s σ H xs us Q I r h
  obtain ⟨x, t, tp, ys, cs, b, rfl, ty, htp, hys, hk, q⟩ := h
  obtain ⟨u, w', rfl, rx, ry⟩ := vals2 r
  cases ry
  obtain ⟨_, its, rv, ⟨cc, dd, dt, sl⟩, e1, e2, n, e3⟩ := I.hok tp _ htp
  have e2 : cc = .type "tuple" := e2
  have e3 : dt = .seq its.toArray n := e3
  subst e2 e3
  rw [clsV_rels rv hys] at e1
  have fin : ∀ tk, EP X pins σ Q (.bool b) { s with toks := tk } := fun tk => ⟨.bl b, H, I.tok _, rfl, q⟩
  cases ty with
  | non => cases (show u = Value.none from rx); exact kia_tup kitx_none I.kIn True.intro e1 hk (fun z => nomatch z) fin
  | bl y => cases (show u = Value.bool y from rx); exact kia_tup kitx_bool I.kIn True.intro e1 hk (fun z => nomatch z) fin
  | int i => obtain ⟨t, q⟩ := (show ∃ t, u = Value.int i t from rx); cases q; exact kia_tup kitx_int I.kIn True.intro e1 hk (fun z => nomatch z) fin
  | str y => obtain ⟨t, q⟩ := (show ∃ t, u = Value.str y t from rx); cases q; exact kia_tup kitx_str I.kIn True.intro e1 hk (fun z => nomatch z) fin
  | @lst a xs hz =>
    cases (show u = Value.ref a from rx)
    obtain ⟨_, _, ⟨o, _, o1, o2, _⟩, _⟩ := I.list hz
    exact kia_tup kitx_list I.kIn ⟨o, o1, o2⟩ e1 hk (fun z => nomatch z) fin
  | @tup a xs hz =>
    cases (show u = Value.ref a from rx)
    obtain ⟨_, _, ⟨o, o1, o2, _⟩, _⟩ := I.tuple hz
    exact kia_tup kitx_tuple I.kIn ⟨o, o1, o2⟩ e1 hk (fun z => nomatch z) fin
  | @dK a kvs ea =>
    cases (show u = Value.ref a from rx)
    obtain ⟨_, _, vs, _, p⟩ := (show ObjOk X.prog X.w H s.heap a (.dK kvs) from I.hok a _ ea)
    obtain ⟨o, es, ep, h1, h2, _⟩ := p
    exact kia_tup kitx_dict I.kIn ⟨o, h1, h2.1⟩ e1 hk (fun z => nomatch z) fin
  | @dT a kvs ea =>
    cases (show u = Value.ref a from rx)
    obtain ⟨_, _, vs, _, p⟩ := (show ObjOk X.prog X.w H s.heap a (.dT kvs) from I.hok a _ ea)
    obtain ⟨o, es, ep, h1, h2, _⟩ := p
    exact kia_tup kitx_dict I.kIn ⟨o, h1, h2.1⟩ e1 hk (fun z => nomatch z) fin
end
theorem kitA_n (K : PySem.W.Frag) : PySem.W.kitAny K (.type "NoneType") [.type "list", .type "tuple"] = some false := by kernel_rfl
theorem kitA_b (K : PySem.W.Frag) : PySem.W.kitAny K (.type "bool") [.type "list", .type "tuple"] = some false := by kernel_rfl
theorem kitA_i (K : PySem.W.Frag) : PySem.W.kitAny K (.type "int") [.type "list", .type "tuple"] = some false := by kernel_rfl
theorem kitA_s (K : PySem.W.Frag) : PySem.W.kitAny K (.type "str") [.type "list", .type "tuple"] = some false := by kernel_rfl
theorem kitA_d (K : PySem.W.Frag) : PySem.W.kitAny K (.type "dict") [.type "list", .type "tuple"] = some false := by kernel_rfl
/-- what flies with the context None flies -/
theorem CX2.to1 {P : Program} {w : World} {outer : List Env} {H : Hp} {s : Shared} {E : XK} {e : Value} {s' : Shared} (h : CX2 P w outer H s E e s') : CX1 P w outer H s E e s' := by
  obtain ⟨ea, cls, a0, B, H', h1, h2, h3, h4, h5, fly, h6⟩ := h
  exact ⟨ea, cls, a0, B, H', h1, h2, h3, h4, h5, fly.fly, h6⟩
theorem FdY.x {P : Program} {w : World} {K : PySem.W.Frag} {mg : Str → Option Value} {base : Heap} {n : Nat} {x : Str} {ps : List Str} {sp : Sp} (F : FdY P w K mg base n x ps sp) : FdX P w K mg base n x ps sp := by
  obtain ⟨f, fd, F1, F2⟩ := F.ex
  refine ⟨f, fd, ⟨F1.len, fun A outer s H args us vs Q E hr he hb hv hs => codeAny_mono (F1.run A outer s H args us vs Q E hr he hb hv hs) fun r s' q => ?_⟩, F2⟩
  cases r with
  | ok fl => cases fl <;> exact q
  | error e => exact CX2.to1 q
/-! the items of a long list, each told by its kind: no long unfolding -/
theorem se_c {c k pos es env} : starEach (.Constant c k pos :: es) env = (false, eval (.Constant c k pos) env) :: starEach es env := by rfl
theorem se_t {xs k pos es env} : starEach (.Tuple xs k pos :: es) env = (false, eval (.Tuple xs k pos) env) :: starEach es env := by rfl
theorem se_l {xs pos es env} : starEach (.List xs pos :: es) env = (false, eval (.List xs pos) env) :: starEach es env := by rfl
theorem se_u {op x pos es env} : starEach (.UnaryOp op x pos :: es) env = (false, eval (.UnaryOp op x pos) env) :: starEach es env := by rfl
theorem se_n {x pos es env} : starEach (.Name x pos :: es) env = (false, eval (.Name x pos) env) :: starEach es env := by rfl
theorem se_b {x op y pos es env} : starEach (.BinOp x op y pos :: es) env = (false, eval (.BinOp x op y pos) env) :: starEach es env := by rfl
theorem se_s {x y pos es env} : starEach (.Subscript x y pos :: es) env = (false, eval (.Subscript x y pos) env) :: starEach es env := by rfl
theorem se_d {x y pos es env} : starEach (.Dict x y pos :: es) env = (false, eval (.Dict x y pos) env) :: starEach es env := by rfl
theorem se_f {x op y pos es env} : starEach (.Call x op y pos :: es) env = (false, eval (.Call x op y pos) env) :: starEach es env := by rfl
end L2

namespace L2
open PySem PySem.Spec PyProof.Rows
/-! ### long lists of constants: the judgement is kept closed while they are put together -/
section
variable {X : Cx} {e : Expr} {es : List Expr} {te : TE} {t : TA} {pos : Pos}
@[irreducible] def PEk (X : Cx) (e : Expr) (te : TE) : Prop := PE X e te
@[irreducible] def PAk (X : Cx) (es : List Expr) (t : TA) : Prop := PA X es t
theorem pek (h : PE X e te) : PEk X e te := by unfold PEk; exact h
theorem PEk.to (h : PEk X e te) : PE X e te := by unfold PEk at h; exact h
theorem PAk.to (h : PAk X es t) : PA X es t := by unfold PAk at h; exact h
theorem pak_nil : PAk X [] tNil := by unfold PAk; exact pa_nil
theorem pak_cons (ha : PEk X e te) (hr : PAk X es t) (hs : starEach (e :: es) X.env = (false, eval e X.env) :: starEach es X.env) : PAk X (e :: es) (tCons te t) := by unfold PAk; exact pa_cons ha.to hr.to hs
theorem pek_int {i j pos} : PEk X (.Constant (.int i) j pos) (tC (.int i)) := pek pe_int
theorem pek_bl {b j pos} : PEk X (.Constant (.bool b) j pos) (tC (.bl b)) := pek pe_bl
theorem pek_non {j pos} : PEk X (.Constant .none j pos) (tC .non) := pek pe_non
theorem pek_str {x j pos} : PEk X (.Constant (.str x) j pos) (tC (.str x)) := pek pe_str
theorem pek_neg {i j p pos} : PEk X (.UnaryOp .USub (.Constant (.int i) j p) pos) (tUn (rU fun i => .int (-i)) (tC (.int i))) := pek (pe_un un_neg pe_int)
theorem pek_tup {x1} (h : PAk X es t) : PEk X (.Tuple es x1 pos) (tTup t) := pek (pe_tup h.to)
theorem pek_lst (h : PAk X es t) : PEk X (.List es pos) (tLst t) := pek (pe_lst h.to)
theorem pek_op {a b : Expr} {ta tb : TE} {op : Operator} {r : R2} (ho : OpR X (binaryOp op) r) (ha : PEk X a ta) (hb : PEk X b tb) : PEk X (.BinOp a op b pos) (tOp r ta tb) := pek (pe_op ho ha.to hb.to)
theorem pek_ix {a b : Expr} {ta tb : TE} {r : R2} (hr : IxR X r) (ha : PEk X a ta) (hb : PEk X b tb) (hs : PlainIx b) : PEk X (.Subscript a b pos) (tOp r ta tb) := pek (pe_ix hr ha.to hb.to hs)
theorem ps_retk (he : PEk X e te) : PS X (.Return (some e) pos) (tRet te) := ps_ret he.to
theorem ps_setk {i : Nat} {x : Str} {pos' : Pos} (hN : X.N.Nodup) (hi : X.N[i]? = some x) (hx : Loc X.env.scope x) (he : PEk X e te) (hs : swapsWith e (some (.Name x pos')) pos.line X.env = pure false := by rfl) (hf : X.fn x = true ∨ X.env.scope.names.lookup x = some .local := by first | exact .inl rfl | exact .inr rfl | assumption) :
    PS X (.Assign [.Name x pos'] e pos) (tAsg te (gName i)) := ps_set hN hi hx he.to hs hf
end
end L2

namespace Pf
open PySem L2
def top (i : Nat) : Stmt := PySem.Challenge.pw_onecurve_k11_no_points.main.body.getD i (.Pass ⟨0, 0, 0, 0⟩)
theorem exE1 {a1 : Type} {p : a1 → Prop} {G : Prop} (h : ∃ x1, p x1) (f : ∀ x1, p x1 → G) : G := Exists.elim h f
theorem exE2 {a1 a2 : Type} {p : a1 → a2 → Prop} {G : Prop} (h : ∃ x1 x2, p x1 x2) (f : ∀ x1 x2, p x1 x2 → G) : G := Exists.elim h fun x1 h => exE1 h (f x1)
theorem exE3 {a1 a2 a3 : Type} {p : a1 → a2 → a3 → Prop} {G : Prop} (h : ∃ x1 x2 x3, p x1 x2 x3) (f : ∀ x1 x2 x3, p x1 x2 x3 → G) : G := Exists.elim h fun x1 h => exE2 h (f x1)
theorem exE4 {a1 a2 a3 a4 : Type} {p : a1 → a2 → a3 → a4 → Prop} {G : Prop} (h : ∃ x1 x2 x3 x4, p x1 x2 x3 x4) (f : ∀ x1 x2 x3 x4, p x1 x2 x3 x4 → G) : G := Exists.elim h fun x1 h => exE3 h (f x1)
theorem exE5 {a1 a2 a3 a4 a5 : Type} {p : a1 → a2 → a3 → a4 → a5 → Prop} {G : Prop} (h : ∃ x1 x2 x3 x4 x5, p x1 x2 x3 x4 x5) (f : ∀ x1 x2 x3 x4 x5, p x1 x2 x3 x4 x5 → G) : G := Exists.elim h fun x1 h => exE4 h (f x1)
theorem exE6 {a1 a2 a3 a4 a5 a6 : Type} {p : a1 → a2 → a3 → a4 → a5 → a6 → Prop} {G : Prop} (h : ∃ x1 x2 x3 x4 x5 x6, p x1 x2 x3 x4 x5 x6) (f : ∀ x1 x2 x3 x4 x5 x6, p x1 x2 x3 x4 x5 x6 → G) : G := Exists.elim h fun x1 h => exE5 h (f x1)
theorem exE7 {a1 a2 a3 a4 a5 a6 a7 : Type} {p : a1 → a2 → a3 → a4 → a5 → a6 → a7 → Prop} {G : Prop} (h : ∃ x1 x2 x3 x4 x5 x6 x7, p x1 x2 x3 x4 x5 x6 x7) (f : ∀ x1 x2 x3 x4 x5 x6 x7, p x1 x2 x3 x4 x5 x6 x7 → G) : G := Exists.elim h fun x1 h => exE6 h (f x1)
theorem exE8 {a1 a2 a3 a4 a5 a6 a7 a8 : Type} {p : a1 → a2 → a3 → a4 → a5 → a6 → a7 → a8 → Prop} {G : Prop} (h : ∃ x1 x2 x3 x4 x5 x6 x7 x8, p x1 x2 x3 x4 x5 x6 x7 x8) (f : ∀ x1 x2 x3 x4 x5 x6 x7 x8, p x1 x2 x3 x4 x5 x6 x7 x8 → G) : G := Exists.elim h fun x1 h => exE7 h (f x1)
theorem anE2 {A1 A2 G : Prop} (h : A1 ∧ A2) (f : A1 → A2 → G) : G := f h.1 h.2
theorem anE3 {A1 A2 A3 G : Prop} (h : A1 ∧ A2 ∧ A3) (f : A1 → A2 → A3 → G) : G := anE2 h.2 (f h.1)
theorem anE4 {A1 A2 A3 A4 G : Prop} (h : A1 ∧ A2 ∧ A3 ∧ A4) (f : A1 → A2 → A3 → A4 → G) : G := anE3 h.2 (f h.1)
theorem anE5 {A1 A2 A3 A4 A5 G : Prop} (h : A1 ∧ A2 ∧ A3 ∧ A4 ∧ A5) (f : A1 → A2 → A3 → A4 → A5 → G) : G := anE4 h.2 (f h.1)
theorem anE6 {A1 A2 A3 A4 A5 A6 G : Prop} (h : A1 ∧ A2 ∧ A3 ∧ A4 ∧ A5 ∧ A6) (f : A1 → A2 → A3 → A4 → A5 → A6 → G) : G := anE5 h.2 (f h.1)
/-- the told numbers of a point, of points -/
def tellP (ps : List Rat) : List Told := (List.range (ps.length - 1)).map fun k : Nat => (⟨ps.getD 0 0, (k : Int), ps.getD (k + 1) 0⟩ : Told)
def tell (pss : List (List Rat)) : List Told := (pss.map tellP).flatten
theorem tellP_length (ps : List Rat) : (tellP ps).length = ps.length - 1 := by unfold tellP; rw [List.length_map, List.length_range]
theorem tell_snoc (pss : List (List Rat)) (ps : List Rat) : tell (pss ++ [ps]) = tell pss ++ tellP ps := by
  unfold tell
  rw [List.map_append, List.flatten_append]
  simp
theorem tell_length_le : ∀ pss : List (List Rat), (∀ ps ∈ pss, ps.length ≤ 3) → (tell pss).length ≤ 2 * pss.length
  | [], _ => Nat.le_refl _
  | p :: r, h => by
    have ih := tell_length_le r fun ps hp => h ps (List.mem_cons_of_mem _ hp)
    have hp := h p List.mem_cons_self
    have e : tell (p :: r) = tellP p ++ tell r := rfl
    rw [e, List.length_append, tellP_length, List.length_cons]
    lia
def P23 (pss : List (List Rat)) : Prop := ∀ ps ∈ pss, ps.length = 2 ∨ ps.length = 3
theorem P23.take {pss : List (List Rat)} (h : P23 pss) (i : Nat) : ∀ ps ∈ pss.take i, ps.length ≤ 3 := fun ps hp => by
  have := h ps (List.mem_of_mem_take hp); lia
theorem getD_some {l : List Rat} {i : Nat} (h : i < l.length) : l[i]? = some (l.getD i 0) := by rw [List.getD_eq_getElem?_getD, List.getElem?_eq_getElem h]; rfl

/-- how many are no less than x -/
def cnt (x : Rat) : List Rat → Nat
  | [] => 0
  | y :: r => (if x ≤ y then 1 else 0) + cnt x r
theorem cnt_le (x : Rat) : ∀ l, cnt x l ≤ l.length
  | [] => Nat.le_refl _
  | y :: r => by
    have := cnt_le x r
    show (if x ≤ y then 1 else 0) + cnt x r ≤ r.length + 1
    split <;> lia
theorem rat_up (x : Rat) : x ≤ x + 1 := by grind
theorem rat_no (x : Rat) : ¬ x + 1 ≤ x := by grind
theorem cnt_next (x : Rat) : ∀ l, cnt (x + 1) l ≤ cnt x l
  | [] => Nat.le_refl _
  | y :: r => by
    have := cnt_next x r
    show (if x + 1 ≤ y then 1 else 0) + cnt (x + 1) r ≤ (if x ≤ y then 1 else 0) + cnt x r
    by_cases h : x + 1 ≤ y
    · rw [if_pos h, if_pos (Rat.le_trans (rat_up x) h)]; lia
    · rw [if_neg h]; lia
theorem cnt_lt {x : Rat} : ∀ {l}, x ∈ l → cnt (x + 1) l < cnt x l
  | y :: r, h => by
    show (if x + 1 ≤ y then 1 else 0) + cnt (x + 1) r < (if x ≤ y then 1 else 0) + cnt x r
    rcases List.mem_cons.mp h with z | z
    · subst z
      have := cnt_next x r
      rw [if_neg (rat_no x), if_pos Rat.le_refl]; lia
    · have := cnt_lt z
      by_cases h : x + 1 ≤ y
      · rw [if_pos h, if_pos (Rat.le_trans (rat_up x) h)]; lia
      · rw [if_neg h]; lia
theorem rb_nat {j : Nat} (h : j ≤ 100) : RB 7 ((j : Nat) : Rat) := ⟨by rw [Rat.num_natCast]; unfold Bd; lia, by rw [Rat.den_natCast]; unfold Bd; decide⟩

inductive spPlacesT (K : PySem.W.Frag) (n : Nat) (vs : List V) (H : Hp) (Q : VK) (E_3 : XK) : Prop
  | mk (a : Addr) (m : Int) (h1 : vs = [.ref a, .int m]) (h2 : Pen H a) (h3 : 0 ≤ m) (h4 : m ≤ 100) (h5 : ∀ (l : Addr) (H' : Hp) (zs : List V) (qs : List Rat), Mv a H H' → Pen H' a → H l = none → H' l = some (.lst zs) → NumsT H' zs qs → (qs.length : Int) = m → qs.Nodup → (∀ q ∈ qs, RB (n + 8) q) → Q (.ref l) H') : spPlacesT K n vs H Q E_3
inductive spPointsT (K : PySem.W.Frag) (n : Nat) (vs : List V) (H : Hp) (Q : VK) (E_3 : XK) : Prop
  | mk (a : Addr) (most : Int) (h1 : vs = [.ref a, .int most]) (h2 : Pen H a) (h3 : 1 ≤ most) (h4 : most ≤ 100) (h5 : ∀ (r : Addr) (H' : Hp) (xs : List V) (pss : List (List Rat)), Mv a H H' → Pen H' a → SqT K H' r xs → PtsT K H' xs pss → P23 pss → (∀ ps ∈ pss, ∀ q ∈ ps, RB (n + 8) q) → 1 ≤ pss.length → (pss.length : Int) ≤ most → ((tell pss).length : Int) ≤ most → (pss.map fun ps => ps.getD 0 0).Nodup → Q (.ref r) H') : spPointsT K n vs H Q E_3
inductive spToldT (K : PySem.W.Frag) (vs : List V) (H : Hp) (Q : VK) (E_3 : XK) : Prop
  | mk (r : Addr) (xs : List V) (pss : List (List Rat)) (h1 : vs = [.ref r]) (h2 : SqT K H r xs) (h3 : PtsT K H xs pss) (h4 : P23 pss) (h5 : pss.length ≤ 100) (h6 : ∀ (p : Addr) (H' : Hp) (ys : List V), Same H H' → H p = none → H' p = some (.lst ys) → TlsT K H' ys (tell pss) → Q (.ref p) H') : spToldT K vs H Q E_3
theorem tell_ge : ∀ {pss : List (List Rat)}, P23 pss → pss.length ≤ (tell pss).length
  | [], _ => Nat.le_refl _
  | p :: r, h => by
    have ih := tell_ge (pss := r) fun ps hp => h ps (List.mem_cons_of_mem _ hp)
    have hp := h p List.mem_cons_self
    have e : tell (p :: r) = tellP p ++ tell r := rfl
    rw [e, List.length_append, tellP_length, List.length_cons]
    lia

inductive spPtsOf (K : PySem.W.Frag) (vs : List V) (H : Hp) (Q : VK) (E_3 : XK) : Prop
  | mk (b : Bool) (r : Addr) (xs : List V) (pss : List (List Rat)) (h1 : vs = [.ref r]) (h2 : Sq b K H r xs) (h3 : PtsT K H xs pss) (h4 : P23 pss) (h5 : 1 ≤ pss.length) (h6 : (pss.map fun ps => ps.getD 0 0).Nodup) (h7 : (tell pss).length ≤ 12) (h8 : ∀ (p : Addr) (H' : Hp), Same H H' → SqT K H' p xs → (b = false → p = r) → Q (.ref p) H') : spPtsOf K vs H Q E_3
theorem Sq.len {b : Bool} {K : PySem.W.Frag} {H : Hp} {r : Addr} {xs : List V} (h : Sq b K H r xs) : SqL K H r xs ∨ SqT K H r xs := by
  cases b
  · exact .inr h
  · exact .inl h
inductive spUnlikeD (K : PySem.W.Frag) (vs : List V) (H : Hp) (Q : VK) (E_3 : XK) : Prop
  | mk (l : Addr) (ys : List V) (qs : List Rat) (h1 : vs = [.ref l]) (h2 : SqL K H l ys) (h3 : NumsT H ys qs) (h4 : qs.length ≤ 17) (h5 : ∀ H', Same H H' → Q (.bl (decide qs.Nodup)) H') : spUnlikeD K vs H Q E_3

/-- is it a whole number -/
inductive Wh (K : PySem.W.Frag) (H : Hp) : V → Bool → Prop where
  | int (i : Int) : Wh K H (.int i) true
  | bl (b : Bool) : Wh K H (.bl b) false
  | oth {x : V} {t : Value} (ty : TyX K H x t) (h : PySem.W.kitOne K t (.type "int") = some false) : Wh K H x false
/-- is it a number -/
inductive Nb (K : PySem.W.Frag) (H : Hp) : V → Bool → Prop where
  | no {x : V} {t : Value} (ty : TyX K H x t) (h : PySem.W.kitOne K t (.type "tuple") = some false) : Nb K H x false
  | len {a : Addr} {xs : List V} (h : SqT K H a xs) (hl : xs.length ≠ 2) : Nb K H (.ref a) false
  | one {a : Addr} {p q : V} (h : SqT K H a [p, q]) (w : Wh K H p false) : Nb K H (.ref a) false
  | two {a : Addr} {i : Int} {q : V} (h : SqT K H a [.int i, q]) (w : Wh K H q false) : Nb K H (.ref a) false
  | nums {a : Addr} {i j : Int} {b : Bool} (h : SqT K H a [.int i, .int j]) (e : b = (decide (1 ≤ j) && decide ((Int.gcd i j : Int) = 1))) : Nb K H (.ref a) b
/-- is it a point -/
inductive Pb (K : PySem.W.Frag) (H : Hp) : V → Bool → Prop where
  | no {x : V} {t : Value} (ty : TyX K H x t) (h : PySem.W.kitOne K t (.type "tuple") = some false) : Pb K H x false
  | len {a : Addr} {xs : List V} (h : SqT K H a xs) (h2 : xs.length ≠ 2) (h3 : xs.length ≠ 3) : Pb K H (.ref a) false
  | all {a : Addr} {xs : List V} {bs : List Bool} (h : SqT K H a xs) (h23 : xs.length = 2 ∨ xs.length = 3) (hb : Paired (Nb K H) xs bs) : Pb K H (.ref a) (bs.all id)
theorem TyX.same {K : PySem.W.Frag} {H H' : Hp} {x : V} {t : Value} (h : TyX K H x t) (e : Same H H') : TyX K H' x t := by
  cases h with
  | of ty => exact .of (by
      cases ty with
      | non => exact .non
      | bl x => exact .bl x
      | int i => exact .int i
      | str x => exact .str x
      | flt x => exact .flt x
      | lst q => exact .lst (e _ _ q)
      | frz q => exact .frz (e _ _ q)
      | tup q => exact .tup (e _ _ q)
      | dK q => exact .dK (e _ _ q)
      | dT q => exact .dT (e _ _ q)
      | ins q a b c d f => exact .ins (e _ _ q) a b c d f)
  | tup q => exact .tup (q.same e)
  | lst q => exact .lst (Same.seq e q)
theorem Wh.same {K : PySem.W.Frag} {H H' : Hp} {x : V} {b : Bool} (h : Wh K H x b) (e : Same H H') : Wh K H' x b := by
  cases h with
  | int i => exact .int i
  | bl b => exact .bl b
  | oth ty k => exact .oth (TyX.same ty e) k
theorem Nb.same {K : PySem.W.Frag} {H H' : Hp} {x : V} {b : Bool} (h : Nb K H x b) (e : Same H H') : Nb K H' x b := by
  cases h with
  | no ty k => exact .no (TyX.same ty e) k
  | len q l => exact .len (q.same e) l
  | one q w => exact .one (q.same e) (w.same e)
  | two q w => exact .two (q.same e) (w.same e)
  | nums q k => exact .nums (q.same e) k
theorem Pb.same {K : PySem.W.Frag} {H H' : Hp} {x : V} {b : Bool} (h : Pb K H x b) (e : Same H H') : Pb K H' x b := by
  cases h with
  | no ty k => exact .no (TyX.same ty e) k
  | len q l2 l3 => exact .len (q.same e) l2 l3
  | all q l hb => exact .all (q.same e) l (Paired.mapP hb fun _ _ z => z.same e)
theorem Nb.of {K : PySem.W.Frag} {H : Hp} {x : V} {q : Rat} (h : NumV K H x q) : Nb K H x true := by
  obtain ⟨r, rfl, hS⟩ := h
  refine .nums hS ?_
  have h1 : 1 ≤ (q.den : Int) := by have := q.den_pos; lia
  have h2 : (Int.gcd q.num (q.den : Int) : Int) = 1 := by
    have := q.reduced
    show ((Nat.gcd q.num.natAbs (q.den : Int).natAbs : Nat) : Int) = 1
    rw [Int.natAbs_natCast]
    exact_mod_cast this
  rw [decide_eq_true h1, decide_eq_true h2]
  rfl
theorem Nb.all {K : PySem.W.Frag} {H : Hp} {xs : List V} {qs : List Rat} (h : Nums K H xs qs) : Paired (Nb K H) xs (List.replicate qs.length true) := by
  induction h with
  | nil => exact .nil
  | cons a _ ih => exact .cons (Nb.of a) ih
theorem all_true (n : Nat) : (List.replicate n true).all id = true := by
  induction n with
  | zero => rfl
  | succ n ih => rw [List.replicate_succ, List.all_cons, ih]; rfl
theorem Pb.of {K : PySem.W.Frag} {H : Hp} {x : V} {ps : List Rat} (h : PtV K H x ps) (h23 : ps.length = 2 ∨ ps.length = 3) : Pb K H x true := by
  obtain ⟨a, rfl, xs, hS, hn⟩ := h
  have := Pb.all hS (by rw [hn.length]; exact h23) (Nb.all hn)
  rw [all_true] at this
  exact this
inductive spWhO (K : PySem.W.Frag) (vs : List V) (H : Hp) (Q : VK) (E_3 : XK) : Prop
  | mk (x : _) (b : _) (h1 : vs = [x]) (h2 : Wh K H x b) (h3 : Q (.bl b) H) : spWhO K vs H Q E_3
inductive spNbO (K : PySem.W.Frag) (vs : List V) (H : Hp) (Q : VK) (E_3 : XK) : Prop
  | mk (x : _) (b : _) (h1 : vs = [x]) (h2 : Nb K H x b) (h3 : Q (.bl b) H) : spNbO K vs H Q E_3
inductive spPbO (K : PySem.W.Frag) (vs : List V) (H : Hp) (Q : VK) (E_3 : XK) : Prop
  | mk (x : _) (b : _) (h1 : vs = [x]) (h2 : Pb K H x b) (h3 : ∀ H', Same H H' → Q (.bl b) H') : spPbO K vs H Q E_3

/-- what points_of refuses: with NoPoints -/
inductive BadPts (K : PySem.W.Frag) (H : Hp) : V → Prop where
  | no {x : V} {t : Value} (ty : TyP K H x t) (h : PySem.W.kitAny K t [.type "list", .type "tuple"] = some false) : BadPts K H x
  | nil {b : Bool} {r : Addr} (h : Sq b K H r []) : BadPts K H (.ref r)
  | pt {b : Bool} {r : Addr} {xs : List V} {bs : List Bool} (h : Sq b K H r xs) (hp : Paired (Pb K H) xs bs) (hb : bs.all id = false) (h17 : xs.length ≤ 17) : BadPts K H (.ref r)
  | twice {b : Bool} {r : Addr} {xs : List V} {pss : List (List Rat)} (h : Sq b K H r xs) (hp : PtsT K H xs pss) (h23 : P23 pss) (hnd : ¬ (pss.map fun ps => ps.getD 0 0).Nodup) (h17 : pss.length ≤ 17) : BadPts K H (.ref r)
/-- .. with TooMany -/
def ManyPts (K : PySem.W.Frag) (H : Hp) (x : V) : Prop := ∃ (b : Bool) (r : Addr) (xs : List V) (pss : List (List Rat)), x = .ref r ∧ Sq b K H r xs ∧ PtsT K H xs pss ∧ P23 pss ∧ 1 ≤ pss.length ∧ (pss.map fun ps => ps.getD 0 0).Nodup ∧ 12 < (tell pss).length ∧ pss.length ≤ 17
inductive spPtsX (K : PySem.W.Frag) (CP CM : Addr) (vs : List V) (H : Hp) (E_2 : VK) (E : XK) : Prop
  | mk (x : V) (h1 : vs = [x]) (h2 : ((BadPts K H x ∧ ∀ H', Same H H' → E (.ref CP) none H') ∨ (ManyPts K H x ∧ ∀ H', Same H H' → E (.ref CM) none H'))) : spPtsX K CP CM vs H E_2 E

theorem TyP.same {K : PySem.W.Frag} {H H' : Hp} {x : V} {t : Value} (h : TyP K H x t) (e : Same H H') : TyP K H' x t := by
  cases h with
  | non => exact .non
  | bl x => exact .bl x
  | int i => exact .int i
  | str x => exact .str x
  | lst q => exact .lst (Same.seq e q)
  | tup q => exact .tup (q.same e)
  | dK q => exact .dK (e _ _ q)
  | dT q => exact .dT (e _ _ q)
theorem pbs_of {K : PySem.W.Frag} {H : Hp} {xs : List V} {pss : List (List Rat)} (h : PtsT K H xs pss) (h23 : P23 pss) : Paired (Pb K H) xs (List.replicate pss.length true) := by
  induction h with
  | nil => exact .nil
  | cons a _ ih => exact .cons (Pb.of a.pt (h23 _ List.mem_cons_self)) (ih fun ps hp => h23 ps (List.mem_cons_of_mem _ hp))

inductive spKind (K : PySem.W.Frag) (vs : List V) (H : Hp) (Q : VK) (E_3 : XK) : Prop
  | mk (x : V) (h1 : vs = [x]) (h2 : ((BadPts K H x ∧ ∀ H', Same H H' → Q (.str "none") H') ∨ (ManyPts K H x ∧ ∀ H', Same H H' → Q (.str "many") H'))) : spKind K vs H Q E_3

/-- no number, whatever the pen does -/
def NbM (K : PySem.W.Frag) (p : Addr) (H : Hp) (x : V) : Prop := ∀ H', Mv p H H' → Nb K H' x false
theorem NbM.mv {K : PySem.W.Frag} {p : Addr} {H H1 : Hp} {x : V} (h : NbM K p H x) (e : Mv p H H1) : NbM K p H1 x := fun _ m => h _ (Mv.trans e m)
theorem NbM.same {K : PySem.W.Frag} {p : Addr} {H H1 : Hp} {x : V} (h : NbM K p H x) (e : Same H H1) : NbM K p H1 x := h.mv fun b o _ q => e b o q
theorem NbM.now {K : PySem.W.Frag} {p : Addr} {H : Hp} {x : V} (h : NbM K p H x) : Nb K H x false := h _ (Mv.refl _ _)
inductive spOdd (K : PySem.W.Frag) (vs : List V) (H : Hp) (Q : VK) (E_3 : XK) : Prop
  | mk (p : Addr) (h1 : vs = [.ref p]) (h2 : Pen H p) (h3 : ∀ (x : V) (H' : Hp), Mv p H H' → Pen H' p → NbM K p H' x → Q x H') : spOdd K vs H Q E_3
theorem nb_snoc {K : PySem.W.Frag} {p : Addr} {H : Hp} {xs : List V} {x : V} (h : ∀ y ∈ xs, NbM K p H y) (hx : NbM K p H x) : ∀ y ∈ xs ++ [x], NbM K p H y := fun y hy => by
  rcases List.mem_append.mp hy with z | z
  · exact h y z
  · rw [List.mem_singleton.mp z]; exact hx
theorem nbs_same {K : PySem.W.Frag} {p : Addr} {H H' : Hp} {xs : List V} (h : ∀ y ∈ xs, NbM K p H y) (e : Same H H') : ∀ y ∈ xs, NbM K p H' y := fun y hy => (h y hy).same e
theorem at_any {xs : List V} {i : Int} (h0 : 0 ≤ i) (h : i < (xs.length : Int)) : ∃ x, atI xs i = some x ∧ x ∈ xs := by
  have hk : i.toNat < xs.length := by lia
  have e : ((i.toNat : Nat) : Int) = i := by lia
  have q : atI xs ((i.toNat : Nat) : Int) = some xs[i.toNat] := atI_nat (List.getElem?_eq_getElem hk)
  rw [e] at q
  exact ⟨_, q, List.getElem_mem hk⟩
theorem at_odd {K : PySem.W.Frag} {p : Addr} {H : Hp} {xs : List V} {i : Int} (_ : ∀ y ∈ xs, NbM K p H y) (hl : xs.length = 21) (h0 : 0 ≤ i) (h : i < 21) : ∃ x, atI xs i = some x ∧ x ∈ xs := at_any h0 (by lia)

theorem slice_to {K : PySem.W.Frag} {H : Hp} {r : Addr} {xs : List V} {v : Nat} {Q : VK} (hS : SqT K H r xs) (hv : v ≤ xs.length) (h : ∀ (p : Addr) (H' : Hp), Same H H' → SqT K H' p (xs.take v) → Q (.ref p) H') : rSlTA K (.ref r) none (some (v : Int)) H Q := by
  by_cases e : v = xs.length
  · refine .inr ⟨r, xs, rfl, hS, ⟨rfl, by rw [HT.sIx_nat]; lia⟩, h r H (Same.refl _) ?_⟩
    rw [List.take_of_length_le (by lia)]; exact hS
  · refine .inl ⟨r, xs, rfl, hS, by rw [HT.sIx_nat]; lia, fun p hp => ?_⟩
    rw [cut_to]
    exact h p _ (Same.new hp) (SqT.of upd_same)
theorem slice_from {K : PySem.W.Frag} {H : Hp} {r : Addr} {xs : List V} {v : Nat} {Q : VK} (hS : SqT K H r xs) (hv : v ≤ xs.length) (h : ∀ (p : Addr) (H' : Hp), Same H H' → SqT K H' p (xs.drop v) → Q (.ref p) H') : rSlTA K (.ref r) (some (v : Int)) none H Q := by
  by_cases e : v = 0
  · subst e
    refine .inr ⟨r, xs, rfl, hS, ⟨by rw [HT.sIx_nat]; lia, rfl⟩, h r H (Same.refl _) ?_⟩
    rw [List.drop_zero]; exact hS
  · by_cases e0 : xs.length = 0
    · lia
    · refine .inl ⟨r, xs, rfl, hS, by rw [HT.sIx_nat]; lia, fun p hp => ?_⟩
      rw [cut_from]
      exact h p _ (Same.new hp) (SqT.of upd_same)
theorem cat_pts {K : PySem.W.Frag} {H : Hp} {a b : Addr} {xs ys : List V} {Q : VK} (ha : SqT K H a xs) (hb : SqT K H b ys) (hl : xs.length + ys.length ≤ sizeLine) (h : ∀ (p : Addr) (H' : Hp), Same H H' → SqT K H' p (xs ++ ys) → Q (.ref p) H') : rCatTA K (.ref a) (.ref b) H Q := by
  by_cases ex : xs = []
  · subst ex
    exact .inr ⟨a, b, ys, rfl, rfl, ha, hb, h b H (Same.refl _) hb⟩
  · refine .inl ⟨a, b, xs, ys, rfl, rfl, ha, hb, ex, hl, fun ey => ?_, fun _ p hp => h p _ (Same.new hp) (SqT.of upd_same)⟩
    subst ey
    exact h a H (Same.refl _) (by rw [List.append_nil]; exact ha)
theorem paired_drop {α β : Type} {F : α → β → Prop} : ∀ {l₁ : List α} {l₂ : List β} (i : Nat), Paired F l₁ l₂ → Paired F (l₁.drop i) (l₂.drop i)
  | _, _, i, .nil => by rw [List.drop_nil, List.drop_nil]; exact .nil
  | _, _, 0, .cons h t => .cons h t
  | _, _, i + 1, .cons _ t => paired_drop i t

inductive spSpoilt (K : PySem.W.Frag) (vs : List V) (H : Hp) (Q : VK) (E_3 : XK) : Prop
  | mk (p r : Addr) (xs : List V) (pss : List (List Rat)) (h1 : vs = [.ref p, .ref r]) (h2 : Pen H p) (h3 : SqT K H r xs) (h4 : PtsT K H xs pss) (h5 : P23 pss) (h6 : 1 ≤ pss.length) (h7 : pss.length ≤ 12) (h8 : ∀ (x : V) (H' : Hp), Mv p H H' → Pen H' p → BadPts K H' x → Q x H') : spSpoilt K vs H Q E_3
/-- bad points, whatever the pen does -/
def BadM (K : PySem.W.Frag) (p : Addr) (H : Hp) (x : V) : Prop := ∀ H', Mv p H H' → BadPts K H' x
theorem BadM.mv {K : PySem.W.Frag} {p : Addr} {H H1 : Hp} {x : V} (h : BadM K p H x) (e : Mv p H H1) : BadM K p H1 x := fun _ m => h _ (Mv.trans e m)
/-- no point, whatever the pen does -/
def PbM (K : PySem.W.Frag) (p : Addr) (H : Hp) (x : V) : Prop := ∀ H', Mv p H H' → Pb K H' x false
theorem PbM.mv {K : PySem.W.Frag} {p : Addr} {H H1 : Hp} {x : V} (h : PbM K p H x) (e : Mv p H H1) : PbM K p H1 x := fun _ m => h _ (Mv.trans e m)
theorem bm_snoc {F : Addr → Hp → V → Prop} {p : Addr} {H : Hp} {xs : List V} {x : V} (h : ∀ y ∈ xs, F p H y) (hx : F p H x) : ∀ y ∈ xs ++ [x], F p H y := fun y hy => by
  rcases List.mem_append.mp hy with z | z
  · exact h y z
  · rw [List.mem_singleton.mp z]; exact hx
theorem bads_same {K : PySem.W.Frag} {p : Addr} {H H' : Hp} {xs : List V} (h : ∀ y ∈ xs, BadM K p H y) (e : Same H H') : ∀ y ∈ xs, BadM K p H' y := fun y hy => (h y hy).mv fun b o _ q => e b o q
theorem pbs_same {K : PySem.W.Frag} {p : Addr} {H H' : Hp} {xs : List V} (h : ∀ y ∈ xs, PbM K p H y) (e : Same H H') : ∀ y ∈ xs, PbM K p H' y := fun y hy => (h y hy).mv fun b o _ q => e b o q
theorem at_menuB {F : Addr → Hp → V → Prop} {p : Addr} {H : Hp} {xs : List V} {i : Int} {n : Nat} (_ : ∀ y ∈ xs, F p H y) (hl : xs.length = n) (h0 : 0 ≤ i) (h : i < (n : Int)) : ∃ x, atI xs i = some x ∧ x ∈ xs := at_any h0 (by lia)
theorem Pb.goods {K : PySem.W.Frag} {H : Hp} {xs : List V} {pss : List (List Rat)} (h : PtsT K H xs pss) (h23 : P23 pss) : Paired (Pb K H) xs (List.replicate xs.length true) := by
  induction h with
  | nil => exact .nil
  | @cons a b as bs z _ ih => exact .cons (Pb.of z.pt (h23 b (List.mem_cons_self ..))) (ih fun ps hm => h23 ps (List.mem_cons_of_mem _ hm))
/-- one that is no point among points -/
theorem bad_mid {K : PySem.W.Frag} {H : Hp} {b : Bool} {r : Addr} {as bs : List V} {x : V} {pss qss : List (List Rat)} (hS : Sq b K H r (as ++ [x] ++ bs)) (ha : PtsT K H as pss) (hb : PtsT K H bs qss) (h1 : P23 pss) (h2 : P23 qss) (hx : Pb K H x false) (h17 : as.length + bs.length ≤ 16) : BadPts K H (.ref r) := by
  refine .pt hS (Paired.append (Paired.append (Pb.goods ha h1) (.cons hx .nil)) (Pb.goods hb h2)) ?_ (by rw [List.length_append, List.length_append, List.length_singleton]; lia)
  rw [List.all_append, List.all_append]
  show (_ && (false && true) && _) = false
  rw [Bool.false_and, Bool.and_false, Bool.false_and]

theorem nT_i11 (k : Int) : nT ((k : Int) : Rat) = .tup [.int k, .int 1] := by
  unfold nT
  rw [Rat.num_intCast, Rat.den_intCast]
  rfl
def gP (k : Int) (x : Nat) : List Rat := [((0 + (x : Int) : Int) : Rat), (k : Rat), ((0 + (x : Int) : Int) : Rat)]
def mP (k : Int) (x : Nat) : List Rat := [((9 + (0 + (x : Int)) : Int) : Rat), (k : Rat)]
theorem three_pt {K : PySem.W.Frag} {H : Hp} {t1 t2 t3 t : Addr} {x y z : Int} (e1 : H t1 = none) (e2 : (upd H t1 (.tup [.int x, .int 1])) t2 = none) (e3 : (upd (upd H t1 (.tup [.int x, .int 1])) t2 (.tup [.int y, .int 1])) t3 = none) (e : (upd (upd (upd H t1 (.tup [.int x, .int 1])) t2 (.tup [.int y, .int 1])) t3 (.tup [.int z, .int 1])) t = none) :
    Same H (upd (upd (upd (upd H t1 (.tup [.int x, .int 1])) t2 (.tup [.int y, .int 1])) t3 (.tup [.int z, .int 1])) t (.tup [.ref t1, .ref t2, .ref t3])) ∧ PtT K (upd (upd (upd (upd H t1 (.tup [.int x, .int 1])) t2 (.tup [.int y, .int 1])) t3 (.tup [.int z, .int 1])) t (.tup [.ref t1, .ref t2, .ref t3])) (.ref t) [((x : Int) : Rat), ((y : Int) : Rat), ((z : Int) : Rat)] := by
  have n1 := Same.new (o := .tup [.int x, .int 1]) e1
  have n2 := Same.new (o := .tup [.int y, .int 1]) e2
  have n3 := Same.new (o := .tup [.int z, .int 1]) e3
  have n4 := Same.new (o := .tup [.ref t1, .ref t2, .ref t3]) e
  have h1 := n4 _ _ (n3 _ _ (n2 _ _ (upd_same (H := H) (a := t1) (o := .tup [.int x, .int 1]))))
  have h2 := n4 _ _ (n3 _ _ (upd_same (H := upd H t1 (.tup [.int x, .int 1])) (a := t2) (o := .tup [.int y, .int 1])))
  have h3 := n4 _ _ (upd_same (H := upd (upd H t1 (.tup [.int x, .int 1])) t2 (.tup [.int y, .int 1])) (a := t3) (o := .tup [.int z, .int 1]))
  exact ⟨((n1.trans n2).trans n3).trans n4, t, _, t1, rfl, SqT.of upd_same, .cons (NumT.num ⟨t1, rfl, by rw [h1, nT_i11]⟩) (.cons (NumT.num ⟨t2, rfl, by rw [h2, nT_i11]⟩) (.cons (NumT.num ⟨t3, rfl, by rw [h3, nT_i11]⟩) .nil)), rfl, by rw [h1]; exact congrArg some (nT_i11 x).symm⟩
theorem two_pt {K : PySem.W.Frag} {H : Hp} {t1 t2 t : Addr} {x y : Int} (e1 : H t1 = none) (e2 : (upd H t1 (.tup [.int x, .int 1])) t2 = none) (e : (upd (upd H t1 (.tup [.int x, .int 1])) t2 (.tup [.int y, .int 1])) t = none) :
    Same H (upd (upd (upd H t1 (.tup [.int x, .int 1])) t2 (.tup [.int y, .int 1])) t (.tup [.ref t1, .ref t2])) ∧ PtT K (upd (upd (upd H t1 (.tup [.int x, .int 1])) t2 (.tup [.int y, .int 1])) t (.tup [.ref t1, .ref t2])) (.ref t) [((x : Int) : Rat), ((y : Int) : Rat)] := by
  have n1 := Same.new (o := .tup [.int x, .int 1]) e1
  have n2 := Same.new (o := .tup [.int y, .int 1]) e2
  have n4 := Same.new (o := .tup [.ref t1, .ref t2]) e
  have h1 := n4 _ _ (n2 _ _ (upd_same (H := H) (a := t1) (o := .tup [.int x, .int 1])))
  have h2 := n4 _ _ (upd_same (H := upd H t1 (.tup [.int x, .int 1])) (a := t2) (o := .tup [.int y, .int 1]))
  exact ⟨(n1.trans n2).trans n4, t, _, t1, rfl, SqT.of upd_same, .cons (NumT.num ⟨t1, rfl, by rw [h1, nT_i11]⟩) (.cons (NumT.num ⟨t2, rfl, by rw [h2, nT_i11]⟩) .nil), rfl, by rw [h1]; exact congrArg some (nT_i11 x).symm⟩
theorem int_inj11 {a b : Int} (h : ((a : Int) : Rat) = ((b : Int) : Rat)) : a = b := by
  have := congrArg Rat.num h
  rw [Rat.num_intCast, Rat.num_intCast] at this
  exact this
theorem gm_nd (k : Int) (n : Nat) : (((List.range 6).map (gP k) ++ (List.range n).map (mP k)).map fun ps => ps.getD 0 0).Nodup := by
  rw [List.map_append, List.map_map, List.map_map, List.nodup_append]
  refine ⟨?_, ?_, ?_⟩
  · exact List.pairwise_map.mpr (List.Pairwise.imp (fun {a b} h e => h (by have := int_inj11 (show ((0 + (a : Int) : Int) : Rat) = ((0 + (b : Int) : Int) : Rat) from e); lia)) (List.nodup_range (n := 6)))
  · exact List.pairwise_map.mpr (List.Pairwise.imp (fun {a b} h e => h (by have := int_inj11 (show ((9 + (0 + (a : Int)) : Int) : Rat) = ((9 + (0 + (b : Int)) : Int) : Rat) from e); lia)) (List.nodup_range (n := n)))
  · intro u hu v hv e
    obtain ⟨x, hx, rfl⟩ := List.mem_map.mp hu
    obtain ⟨y, hy, rfl⟩ := List.mem_map.mp hv
    have := int_inj11 (show ((0 + (x : Int) : Int) : Rat) = ((9 + (0 + (y : Int)) : Int) : Rat) from e)
    have := List.mem_range.mp hx
    lia
theorem g_nd (k : Int) : (((List.range 6).map (gP k)).map fun ps => ps.getD 0 0).Nodup := by
  have := gm_nd k 0
  rw [List.range_zero, List.map_nil, List.append_nil] at this
  exact this
theorem gm_23 (k : Int) (n : Nat) : P23 ((List.range 6).map (gP k) ++ (List.range n).map (mP k)) := fun ps h => by
  rcases List.mem_append.mp h with h | h
  · obtain ⟨x, _, rfl⟩ := List.mem_map.mp h; exact .inr rfl
  · obtain ⟨x, _, rfl⟩ := List.mem_map.mp h; exact .inl rfl
theorem g_23 (k : Int) : P23 ((List.range 6).map (gP k)) := fun ps h => gm_23 k 0 ps (List.mem_append_left _ h)
theorem tell_app11 (as bs : List (List Rat)) : tell (as ++ bs) = tell as ++ tell bs := by unfold tell; rw [List.map_append, List.flatten_append]
theorem g_tell (k : Int) : (tell ((List.range 6).map (gP k))).length = 12 := by rfl
theorem m_tell (k : Int) (n : Nat) : (tell ((List.range n).map (mP k))).length = n := by
  induction n with
  | zero => rfl
  | succ n ih => rw [List.range_succ, List.map_append, List.map_singleton, tell_snoc, List.length_append, ih, tellP_length]; rfl
theorem gm_tell (k : Int) (n : Nat) : (tell ((List.range 6).map (gP k) ++ (List.range n).map (mP k))).length = 12 + n := by rw [tell_app11, List.length_append, g_tell, m_tell]
theorem twice_first {pss : List (List Rat)} (h : 1 ≤ pss.length) : ¬ ((pss ++ pss.take 1).map fun ps => ps.getD 0 0).Nodup := by
  cases pss with
  | nil => cases h
  | cons p r =>
    intro hn
    rw [List.map_append, List.nodup_append] at hn
    exact hn.2.2 (p.getD 0 0) (List.mem_cons_self ..) (p.getD 0 0) (List.mem_cons_self ..) rfl

section
variable {P : Program} {w : World} {K : PySem.W.Frag} {mg : Str → Option Value} {base : Heap}
theorem sc__law_pen : FnScope ["_law_script", "_law_k", "_law_cell"] ["_law_script", "_law_k"] (defScope (top 23)) := ⟨rfl, rfl, rfl, by decide +kernel, rfl, by decide +kernel, by decide +kernel⟩
set_option maxHeartbeats 4000000 in
theorem ok__law_pen {f : Addr} {fd : FuncData} (F : Fun K "_law_pen" "_law_pen" (top 23) f fd) (b_len : mg "len" = none) (hT : P.given.tree = none) :
    FnOk P w K mg base CX0 33 f fd ["_law_script", "_law_k"] (spPen K) := by
  refine F.ok sc__law_pen (fun vs H Q E h => ?_) (fun cdv A outer s H vs Q E hr h => ?_)
  · obtain ⟨_, _, _, rfl, _⟩ := h; rfl
  refine ⟨_, (pss_consC (K := K) (ps_set (i := 2) sc__law_pen.nd rfl (Or.inl rfl) (pe_op op_add (pe_op op_mulC pe_int (pv 1)) pe_int))
    (pss_consC (K := K) (ps_ifC (K := K) (pt_cmpR op_lt (pv 1) (pe_callB (lenK K) rfl b_len bt_len (pa_cons (pv 0) pa_nil)) (nomark _)) (pss_one (ps_set (i := 2) sc__law_pen.nd rfl (Or.inl rfl) (pe_ix (ixL K) (pv 0) (pv 1) (fun u v => rfl)))) (pss_one (ps_ifC (K := K) (pt_cmpR op_gt (pe_callB (lenK K) rfl b_len bt_len (pa_cons (pv 0) pa_nil)) pe_int (nomark _)) (pss_one (ps_set (i := 2) sc__law_pen.nd rfl (Or.inl rfl) (pe_op op_add (pe_ix (ixL K) (pv 0) (pe_op op_mod (pv 1) (pe_callB (lenK K) rfl b_len bt_len (pa_cons (pv 0) pa_nil))) (fun u v => rfl)) (pe_op op_mulC pe_int (pv 1))))) pss_nil (by rfl) (by rfl))) (by rfl) (by rfl))
    (pss_consC (K := K) (ps_ifC (K := K) (pt_cmpR op_ge (pv 2) (pe_op op_pow pe_int pe_int) (nomark _)) (pss_one (ps_ret (pe_lst (pa_cons (pe_op op_sub (pv 2) (pe_op op_pow pe_int pe_int)) (pa_cons (pe_op op_mod (pv 2) pe_int) (pa_cons pe_int pa_nil)))))) pss_nil (by rfl) (by rfl))
    (pss_one (ps_ret (pe_lst (pa_cons pe_int (pa_cons (pe_op op_add (pe_op op_mod (pv 2) pe_int) (pe_op op_mulC pe_int (pv 1))) (pa_cons pe_int pa_nil)))))) (by rfl)) (by rfl)) (by rfl)), ?_⟩
  obtain ⟨a, ns, k, rfl, hS, h63, h0, h62, q⟩ := h
  have hl : (ns.map V.int).length = ns.length := List.length_map _
  have P3 : 3 ≤ sizeLine := by decide
  have C1 : CPow 10 18 := by unfold CPow; decide
  refine ⟨_, rfl, _, _, rfl, rfl, .inl ⟨by decide, by decide⟩, _, _, rfl, rfl, ?_⟩
  refine ⟨_, rfl, _, rfl, a, _, rfl, .inl hS, _, _, rfl, rfl, _, rfl, ?_⟩
  rw [hl]
  have hk1 : k < (ns.length : Int) → ∃ v : Int, atI (ns.map V.int) k = some (.int v) := fun c => at_ints h0 c
  have hk2 : 0 < (ns.length : Int) → ∃ v : Int, atI (ns.map V.int) (k % (ns.length : Int)) = some (.int v) := fun c => at_ints (Int.emod_nonneg _ (by lia)) (Int.emod_lt_of_pos _ c)
  refine ite2 (fun c => ?_) (fun c => ?_)
  · obtain ⟨v, hv⟩ := (hk1 (of_decide_eq_true c))
    refine ⟨_, rfl, _, rfl, a, _, _, _, rfl, rfl, hS, hv, ?_⟩
    refine ⟨_, rfl, _, _, rfl, rfl, C1, _, _, rfl, rfl, _, rfl, ?_⟩
    refine ite2 (fun c => ?_) (fun c => ?_)
    · exact ⟨_, rfl, _, _, rfl, rfl, C1, _, _, rfl, rfl, _, rfl, _, _, rfl, rfl, (by first | decide | (dsimp only; decide)), P3, fun p hp => q p _ _ hp⟩
    · exact ⟨_, rfl, _, _, rfl, rfl, (by first | decide | (dsimp only; decide)), _, rfl, _, _, rfl, rfl, .inl ⟨by decide, by decide⟩, _, _, rfl, rfl, P3, fun p hp => q p _ _ hp⟩
  · refine ⟨_, rfl, a, _, rfl, .inl hS, _, _, rfl, rfl, _, rfl, ?_⟩
    rw [hl]
    refine ite2 (fun c => ?_) (fun c => ?_)
    · obtain ⟨v, hv⟩ := (hk2 (of_decide_eq_true c))
      have c' : 0 < (((ns.map V.int).length : Nat) : Int) := by rw [hl]; exact of_decide_eq_true c
      rw [← hl] at hv
      refine ⟨_, rfl, _, rfl, _, rfl, a, _, rfl, .inl hS, _, _, rfl, rfl, c', a, _, _, _, rfl, rfl, hS, hv, _, rfl, _, _, rfl, rfl, .inl ⟨by decide, by decide⟩, _, _, rfl, rfl, ?_⟩
      refine ⟨_, rfl, _, _, rfl, rfl, C1, _, _, rfl, rfl, _, rfl, ?_⟩
      refine ite2 (fun c => ?_) (fun c => ?_)
      · exact ⟨_, rfl, _, _, rfl, rfl, C1, _, _, rfl, rfl, _, rfl, _, _, rfl, rfl, (by first | decide | (dsimp only; decide)), P3, fun p hp => q p _ _ hp⟩
      · exact ⟨_, rfl, _, _, rfl, rfl, (by first | decide | (dsimp only; decide)), _, rfl, _, _, rfl, rfl, .inl ⟨by decide, by decide⟩, _, _, rfl, rfl, P3, fun p hp => q p _ _ hp⟩
    · refine ⟨_, rfl, _, _, rfl, rfl, C1, _, _, rfl, rfl, _, rfl, ?_⟩
      refine ite2 (fun c => ?_) (fun c => ?_)
      · exact ⟨_, rfl, _, _, rfl, rfl, C1, _, _, rfl, rfl, _, rfl, _, _, rfl, rfl, (by first | decide | (dsimp only; decide)), P3, fun p hp => q p _ _ hp⟩
      · exact ⟨_, rfl, _, _, rfl, rfl, (by first | decide | (dsimp only; decide)), _, rfl, _, _, rfl, rfl, .inl ⟨by decide, by decide⟩, _, _, rfl, rfl, P3, fun p hp => q p _ _ hp⟩
theorem sc__law_draw : FnScope ["_law_pen_here", "_law_many", "_law_drawn", "_law_number_here"] ["_law_pen_here", "_law_many"] (defScope (top 24)) := ⟨rfl, rfl, rfl, by decide +kernel, rfl, by decide +kernel, by decide +kernel⟩
set_option maxHeartbeats 4000000 in
theorem ok__law_draw {f : Addr} {fd : FuncData} (F : Fun K "_law_draw" "_law_draw" (top 24) f fd) (hT : P.given.tree = none) :
    FnOk P w K mg base CX0 33 f fd ["_law_pen_here", "_law_many"] (spDraw) := by
  refine F.ok sc__law_draw (fun vs H Q E h => ?_) (fun cdv A outer s H vs Q E hr h => ?_)
  · obtain ⟨_, _, rfl, _⟩ := h; rfl
  refine ⟨_, (pss_consC (K := K) (ps_asg (pe_op op_add (pe_ix (ixL K) (pv 0) pe_int (fun u v => rfl)) pe_int) (pg_sub (pv 0) pe_int set_list))
    (pss_consC (K := K) (ps_ifC (K := K) (pt_cmpR op_gt (pe_ix (ixL K) (pv 0) pe_int (fun u v => rfl)) pe_int (nomark _)) (pss_consC (K := K) (ps_set (i := 2) sc__law_draw.nd rfl (Or.inl rfl) (pe_op op_mod (pe_ix (ixL K) (pv 0) pe_int (fun u v => rfl)) (pv 1)))
    (pss_consC (K := K) (ps_asg (pe_op (op_fdivX hr hT) (pe_ix (ixL K) (pv 0) pe_int (fun u v => rfl)) (pv 1)) (pg_sub (pv 0) pe_int set_list))
    (pss_one (ps_ret (pv 2))) (by rfl)) (by rfl)) pss_nil (by rfl) (by rfl))
    (pss_consC (K := K) (ps_set (i := 3) sc__law_draw.nd rfl (Or.inl rfl) (pe_op op_mod (pe_op op_mulC (pe_op op_add (pe_op op_add (pe_ix (ixL K) (pv 0) pe_int (fun u v => rfl)) (pe_op op_mulC pe_int (pe_ix (ixL K) (pv 0) pe_int (fun u v => rfl)))) pe_int) pe_int) pe_int))
    (pss_consC (K := K) (ps_set (i := 3) sc__law_draw.nd rfl (Or.inl rfl) (pe_op op_mod (pe_op op_mulC (pv 3) (pe_op op_add (pe_op op_add (pe_op op_mod (pv 3) pe_int) (pe_ix (ixL K) (pv 0) pe_int (fun u v => rfl))) pe_int)) pe_int))
    (pss_one (ps_ret (pe_op op_mod (pe_op (op_fdivX hr hT) (pe_op op_mod (pe_op op_mulC (pv 3) (pe_op op_add (pe_op op_mod (pv 3) pe_int) pe_int)) pe_int) pe_int) (pv 1)))) (by rfl)) (by rfl)) (by rfl)) (by rfl)), ?_⟩
  obtain ⟨a, m, rfl, ⟨c0, c1, c2, hp⟩, h1, h2, q0⟩ := h
  have q : ∀ d c0' c2' : Int, 0 ≤ d → d < m → Q (.int d) (upd H a (.lst [.int c0', .int c1, .int c2'])) := fun d _ _ h3 h4 => q0 d _ h3 h4 .put .put
  have hm : m ≠ 0 := by lia
  have q' : ∀ (o : HO) (d c0' c2' : Int), 0 ≤ d → d < m → Q (.int d) (upd (upd H a o) a (.lst [.int c0', .int c1, .int c2'])) := fun o d c0' c2' h3 h4 => by rw [upd_upd]; exact q d c0' c2' h3 h4
  refine ⟨_, rfl, a, _, _, _, rfl, rfl, SqL.of hp, rfl, _, _, rfl, rfl, _, rfl, a, _, _, _, rfl, rfl, hp, rfl, ?_⟩
  refine ⟨_, rfl, a, _, _, _, rfl, rfl, SqL.of upd_same, rfl, _, _, rfl, rfl, _, rfl, ?_⟩
  refine ite2 (fun c => ?_) (fun c => ?_)
  · refine ⟨_, rfl, a, _, _, _, rfl, rfl, SqL.of upd_same, rfl, _, rfl, _, _, rfl, rfl, (by lia : 0 < m), ?_⟩
    refine ⟨_, rfl, a, _, _, _, rfl, rfl, SqL.of upd_same, rfl, _, rfl, _, _, rfl, rfl, hm, _, rfl, a, _, _, _, rfl, rfl, upd_same, rfl, ?_⟩
    refine ⟨_, rfl, ?_⟩
    exact q' _ _ _ _ (Int.emod_nonneg _ (by lia)) (Int.emod_lt_of_pos _ (by lia))
  · have cl : ∀ z : Int, 0 < z → (0 : Int) < z := fun _ h => h
    refine ⟨_, rfl, a, _, _, _, rfl, rfl, SqL.of upd_same, rfl, _, rfl, a, _, _, _, rfl, rfl, SqL.of upd_same, rfl, _, _, rfl, rfl, .inl ⟨by decide, by decide⟩, _, _, rfl, rfl, _, _, rfl, rfl, _, _, rfl, rfl, .inr (.inl ⟨by decide, by decide⟩), _, _, rfl, rfl, (by first | decide | (dsimp only; decide)), ?_⟩
    have n1 := Int.emod_nonneg ((c1 + 40503 * (c2 + 1) + 1) * 48271) (show (2147483647 : Int) ≠ 0 by decide)
    have n2 := Int.emod_lt_of_pos ((c1 + 40503 * (c2 + 1) + 1) * 48271) (show (0 : Int) < 2147483647 by decide)
    generalize hN : (c1 + 40503 * (c2 + 1) + 1) * 48271 % 2147483647 = N at n1 n2
    refine ⟨_, rfl, _, rfl, _, _, rfl, rfl, (by first | decide | (dsimp only; decide)), _, rfl, a, _, _, _, rfl, rfl, SqL.of upd_same, rfl, _, _, rfl, rfl, _, _, rfl, rfl, _, _, rfl, rfl, .inl ?_, _, _, rfl, rfl, (by first | decide | (dsimp only; decide)), ?_⟩
    · (try rw [hN]); lia
    try rw [hN]
    have n3 := Int.emod_nonneg (N * (N % 65521 + (c2 + 1) + 3)) (show (2147483629 : Int) ≠ 0 by decide)
    have n4 := Int.emod_lt_of_pos (N * (N % 65521 + (c2 + 1) + 3)) (show (0 : Int) < 2147483629 by decide)
    generalize N * (N % 65521 + (c2 + 1) + 3) % 2147483629 = M at n3 n4
    refine ⟨_, rfl, _, rfl, _, _, rfl, rfl, (by first | decide | (dsimp only; decide)), _, _, rfl, rfl, _, _, rfl, rfl, .inl ⟨by lia, by lia⟩, _, _, rfl, rfl, (by first | decide | (dsimp only; decide)), _, _, rfl, rfl, (by first | decide | (dsimp only; decide)), _, rfl, _, _, rfl, rfl, (by lia : 0 < m), ?_⟩
    exact q _ _ _ (Int.emod_nonneg _ (by lia)) (Int.emod_lt_of_pos _ (by lia))
theorem sc__law_lowest : FnScope ["_law_top", "_law_bottom", "_law_one", "_law_other"] ["_law_top", "_law_bottom"] (defScope (top 25)) := ⟨rfl, rfl, rfl, by decide +kernel, rfl, by decide +kernel, by decide +kernel⟩
set_option maxHeartbeats 4000000 in
theorem ok__law_lowest {f : Addr} {fd : FuncData} (F : Fun K "_law_lowest" "_law_lowest" (top 25) f fd) (b_abs : mg "abs" = none) (hT : P.given.tree = none) :
    FnOk P w K mg base CX0 33 f fd ["_law_top", "_law_bottom"] (spLow) := by
  refine F.ok sc__law_lowest (fun vs H Q E h => ?_) (fun cdv A outer s H vs Q E hr h => ?_)
  · obtain ⟨_, _, rfl, _⟩ := h; rfl
  refine ⟨_, (pss_consC (K := K) (ps_set (i := 2) sc__law_lowest.nd rfl (Or.inl rfl) (pe_callB call_abs rfl b_abs bt_abs (pa_cons (pv 0) pa_nil)))
    (pss_consC (K := K) (ps_set (i := 3) sc__law_lowest.nd rfl (Or.inl rfl) (pe_callB call_abs rfl b_abs bt_abs (pa_cons (pv 1) pa_nil)))
    (pss_consC (K := K) (ps_while PassesOwn.never (pt_cmpR op_gt (pv 3) pe_int (nomark _)) (pss_one (ps_par (i := 2) (j := 3) rfl sc__law_lowest.nd rfl rfl (by decide) rfl rfl (pa_cons (pv 3) (pa_cons (pe_op op_mod (pv 2) (pv 3)) pa_nil)) (by with_unfolding_all rfl))))
    (pss_consC (K := K) (ps_ifC (K := K) (pt_cmpR op_lt (pv 1) pe_int (nomark _)) (pss_one (ps_set (i := 2) sc__law_lowest.nd rfl (Or.inl rfl) (pe_op op_sub pe_int (pv 2)))) pss_nil (by rfl) (by rfl))
    (pss_one (ps_ret (pe_tup (pa_cons (pe_op (op_fdivX hr hT) (pv 0) (pv 2)) (pa_cons (pe_op (op_fdivX hr hT) (pv 1) (pv 2)) pa_nil))))) (by rfl)) (by rfl)) (by rfl)) (by rfl)), ?_⟩
  obtain ⟨a, b, rfl, hb, q⟩ := h
  refine ⟨_, rfl, a, rfl, ?_⟩
  refine ⟨_, rfl, b, rfl, ?_⟩
  refine while_by (L3 H a b fun H a b σ H' => H' = H ∧ ∃ (x y : Int), σ = [some (.int a), some (.int b), some (.int x), some (.int y)] ∧ 0 ≤ x ∧ 0 ≤ y ∧ Int.gcd x y = Int.gcd a b) (fun σ _ => mu 3 σ)
    ⟨rfl, _, _, rfl, ?_, ?_, ?_⟩ ?_ ?_
  · rw [Nm.abs_if]; exact Int.natCast_nonneg _
  · rw [Nm.abs_if]; exact Int.natCast_nonneg _
  · rw [Nm.abs_if, Nm.abs_if]; rfl
  · rintro σ H' hR1
    refine anE2 hR1 fun hq1 hz3 => ?_
    refine exE2 hz3 fun x y hz3' => ?_
    clear hz3
    refine anE4 hz3' fun hq2 hx hy hg => ?_
    clear hz3'
    obtain rfl := hq1
    obtain rfl := hq2
    try clear hR1
    refine ⟨_, rfl, _, _, rfl, rfl, _, rfl, ?_⟩
    by_cases hy0 : y = 0
    · subst hy0
      refine iteF ?_
      have e : (Int.gcd a b : Int) = x := by rw [← hg, Int.gcd_zero]; lia
      subst e
      refine ⟨_, rfl, _, _, rfl, rfl, _, rfl, ?_⟩
      have hd : Nm.msr a b ≠ 0 := Nm.msr_ne hb
      have fin : ∀ p, H' p = none → Q (.ref p) (upd H' p (.tup [.int (a.fdiv (Nm.msr a b)), .int (b.fdiv (Nm.msr a b))])) := fun p hp => by
        rw [Nm.top_msr hb, Nm.bottom_msr hb]; exact q p hp
      by_cases hb0 : b < 0
      · have hd' : Nm.msr a b = 0 - (Int.gcd a b : Int) := by unfold Nm.msr; rw [if_pos hb0]; lia
        rw [hd'] at hd fin
        refine iteTc (by rw [decide_eq_true hb0] <;> rfl) ⟨_, rfl, _, _, rfl, rfl, ?_⟩
        exact ⟨_, rfl, _, rfl, _, _, rfl, rfl, hd, _, rfl, _, rfl, _, _, rfl, rfl, hd, (by decide : 2 ≤ sizeLine), fin⟩
      · have hd' : Nm.msr a b = (Int.gcd a b : Int) := by unfold Nm.msr; rw [if_neg hb0]
        rw [hd'] at hd fin
        refine iteFc (by rw [decide_eq_false hb0] <;> rfl) ?_
        exact ⟨_, rfl, _, rfl, _, _, rfl, rfl, hd, _, rfl, _, rfl, _, _, rfl, rfl, hd, (by decide : 2 ≤ sizeLine), fin⟩
    · have hyp : 0 < y := by lia
      refine iteTc (by rw [decide_eq_true hyp] <;> rfl) ?_
      refine ⟨_, rfl, _, rfl, _, rfl, _, _, rfl, rfl, hyp, _, _, rfl, ⟨rfl, y, x % y, rfl, hy, Int.emod_nonneg _ hy0, ?_⟩, ?_⟩
      · rw [Nm.gcd_turn]; exact hg
      · show (x % y).toNat < y.toNat
        have := Int.emod_lt_of_pos x hyp
        lia
  · rintro σ H' Q1 Q2 hm hR2
    obtain ⟨v, e, i, j, e1, e2, k, ek, q1⟩ := hR2
    try clear hR2
    exact ⟨v, e, i, j, e1, e2, k, ek, hm _ _ q1⟩
theorem sc__law_number : FnScope ["_law_pen_here", "_law_way", "_law_top"] ["_law_pen_here"] (defScope (top 27)) := ⟨rfl, rfl, rfl, by decide +kernel, rfl, by decide +kernel, by decide +kernel⟩
set_option maxHeartbeats 4000000 in
theorem ok__law_number {f : Addr} {fd : FuncData} (F : Fun K "_law_number" "_law_number" (top 27) f fd) (F__law_draw : Fd P w K mg base 33 "_law_draw" ["_law_pen_here", "_law_many"] (spDraw)) (F__law_lowest : Fd P w K mg base 33 "_law_lowest" ["_law_top", "_law_bottom"] (spLow)) (hT : P.given.tree = none) :
    FnOk P w K mg base CX0 34 f fd ["_law_pen_here"] (spNum 64) := by
  refine F.ok sc__law_number (fun vs H Q E h => ?_) (fun cdv A outer s H vs Q E hr h => ?_)
  · obtain ⟨_, rfl, _⟩ := h; rfl
  refine ⟨_, (pss_consC (K := K) (ps_set (i := 1) sc__law_number.nd rfl (Or.inl rfl) (pe_fn F__law_draw hr rfl (pa_cons (pv 0) (pa_cons pe_int pa_nil))))
    (pss_consC (K := K) (ps_ifC (K := K) (pt_cmpR op_lt (pv 1) pe_int (nomark _)) (pss_one (ps_ret (pe_fn F__law_lowest hr rfl (pa_cons (pe_op op_sub (pe_fn F__law_draw hr rfl (pa_cons (pv 0) (pa_cons pe_int pa_nil))) pe_int) (pa_cons (pe_op op_add pe_int (pe_fn F__law_draw hr rfl (pa_cons (pv 0) (pa_cons (pe_ix (ixL K) (pe_lst (pa_cons pe_int (pa_cons pe_int (pa_cons pe_int pa_nil)))) (pe_op op_mod (pv 1) pe_int) (fun u v => rfl)) pa_nil)))) pa_nil))))) pss_nil (by rfl) (by rfl))
    (pss_consC (K := K) (ps_ifC (K := K) (pt_cmpR op_lt (pv 1) pe_int (nomark _)) (pss_one (ps_ret (pe_fn F__law_lowest hr rfl (pa_cons (pe_op op_sub (pe_fn F__law_draw hr rfl (pa_cons (pv 0) (pa_cons pe_int pa_nil))) pe_int) (pa_cons (pe_op op_add pe_int (pe_fn F__law_draw hr rfl (pa_cons (pv 0) (pa_cons pe_int pa_nil)))) pa_nil))))) pss_nil (by rfl) (by rfl))
    (pss_consC (K := K) (ps_set (i := 2) sc__law_number.nd rfl (Or.inl rfl) (pe_op op_sub (pe_op op_add (pe_op op_mulC (pe_fn F__law_draw hr rfl (pa_cons (pv 0) (pa_cons (pe_op op_pow pe_int pe_int) pa_nil))) (pe_op op_pow pe_int pe_int)) (pe_fn F__law_draw hr rfl (pa_cons (pv 0) (pa_cons (pe_op op_pow pe_int pe_int) pa_nil)))) (pe_op op_mulC pe_int (pe_op op_pow pe_int pe_int))))
    (pss_one (ps_ret (pe_fn F__law_lowest hr rfl (pa_cons (pv 2) (pa_cons (pe_op op_add pe_int (pe_fn F__law_draw hr rfl (pa_cons (pv 0) (pa_cons (pe_op op_pow pe_int pe_int) pa_nil)))) pa_nil))))) (by rfl)) (by rfl)) (by rfl)) (by rfl)), ?_⟩
  obtain ⟨a, rfl, pn, q⟩ := h
  have C6 : CPow 10 6 := by unfold CPow; decide
  have C11 : CPow 10 11 := by unfold CPow; decide
  refine ⟨_, rfl, a, 8, rfl, pn, by decide, by decide, fun w H1 w0 w1 o1 p1 => ?_⟩
  have b64 : ∀ x : Int, -(10 ^ 18) < x → x < 10 ^ 18 → Bd 64 x := fun x h1 h2 => by unfold Bd; lia
  refine ⟨_, rfl, _, _, rfl, rfl, _, rfl, ?_⟩
  refine ite2 (fun c => ?_) (fun c => ?_)
  · refine ⟨_, rfl, a, 19, rfl, p1, by decide, by decide, fun d H2 d0 d1 o2 p2 => ⟨_, _, rfl, rfl, ?_⟩⟩
    refine ⟨_, rfl, (by decide : 3 ≤ sizeLine), fun l hl => ?_⟩
    obtain ⟨v, hv, hm⟩ := at_menu (xs := [1, 1, 4]) (i := w % 3) (Int.emod_nonneg _ (by first | decide | (dsimp only; decide))) (Int.emod_lt_of_pos _ (by first | decide | (dsimp only; decide)))
    have hv1 : 1 ≤ v ∧ v ≤ 4 := by
      simp at hm; lia
    refine ⟨_, rfl, _, _, rfl, rfl, (by first | decide | (dsimp only; decide)), l, _, _, _, rfl, rfl, SqL.of upd_same, hv, ?_⟩
    refine ⟨a, v, rfl, p2.same hl, by lia, by lia, fun e H3 e0 e1 o3 p3 => ⟨_, _, rfl, rfl, _, _, rfl, by lia, fun r hr => ?_⟩⟩
    exact q _ r _ (o1.mv.trans (o2.mv.trans ((Mv.new hl).trans (o3.mv.trans (Mv.new hr))))) (p3.same hr) upd_same (Bd.num (b64 _ (by lia) (by lia))) (Bd.den (by lia) (b64 _ (by lia) (by lia)))
  refine ⟨_, rfl, _, _, rfl, rfl, _, rfl, ?_⟩
  refine ite2 (fun c => ?_) (fun c => ?_)
  · refine ⟨_, rfl, a, 199, rfl, p1, by decide, by decide, fun d H2 d0 d1 o2 p2 => ⟨_, _, rfl, rfl, ?_⟩⟩
    refine ⟨_, rfl, a, 9, rfl, p2, by decide, by decide, fun e H3 e0 e1 o3 p3 => ⟨_, _, rfl, rfl, _, _, rfl, by lia, fun r hr => ?_⟩⟩
    exact q _ r _ (o1.mv.trans (o2.mv.trans (o3.mv.trans (Mv.new hr)))) (p3.same hr) upd_same (Bd.num (b64 _ (by lia) (by lia))) (Bd.den (by lia) (b64 _ (by lia) (by lia)))
  refine ⟨_, rfl, _, _, rfl, rfl, C6, a, _, rfl, p1, by decide, by decide, fun d H2 d0 d1 o2 p2 => ⟨_, _, rfl, rfl, C6, _, _, rfl, rfl, .inl ?_, ?_⟩⟩
  · change d < 10 ^ 6 at d1; lia
  refine ⟨_, rfl, _, _, rfl, rfl, C6, a, _, rfl, p2, by decide, by decide, fun e H3 e0 e1 o3 p3 => ⟨_, _, rfl, rfl, _, _, rfl, rfl, C11, _, _, rfl, rfl, .inl ⟨by decide, by decide⟩, _, _, rfl, rfl, ?_⟩⟩
  refine ⟨_, rfl, _, rfl, _, _, rfl, rfl, C6, a, _, rfl, p3, by decide, by decide, fun g H4 g0 g1 o4 p4 => ⟨_, _, rfl, rfl, _, _, rfl, by lia, fun r hr => ?_⟩⟩
  change d < 10 ^ 6 at d1
  change e < 10 ^ 6 at e1
  change g < 10 ^ 6 at g1
  exact q _ r _ (o1.mv.trans (o2.mv.trans (o3.mv.trans (o4.mv.trans (Mv.new hr))))) (p4.same hr) upd_same (Bd.num (b64 _ (by show -(10 ^ 18) < d * 10 ^ 6 + e - 5 * 10 ^ 11; lia) (by show d * 10 ^ 6 + e - 5 * 10 ^ 11 < 10 ^ 18; lia))) (Bd.den (by lia) (b64 _ (by lia) (by lia)))
theorem sc__law_plus : FnScope ["_law_a", "_law_b"] ["_law_a", "_law_b"] (defScope (top 26)) := ⟨rfl, rfl, rfl, by decide +kernel, rfl, by decide +kernel, by decide +kernel⟩
set_option maxHeartbeats 4000000 in
theorem ok__law_plus {f : Addr} {fd : FuncData} (F : Fun K "_law_plus" "_law_plus" (top 26) f fd) (F__law_lowest : Fd P w K mg base 33 "_law_lowest" ["_law_top", "_law_bottom"] (spLow)) (hT : P.given.tree = none) :
    FnOk P w K mg base CX0 34 f fd ["_law_a", "_law_b"] (spBin K (· + ·)) := by
  refine F.ok sc__law_plus (fun vs H Q E h => ?_) (fun cdv A outer s H vs Q E hr h => ?_)
  · obtain ⟨_, _, _, _, _, _, rfl, _⟩ := h; rfl
  refine ⟨_, (pss_one (ps_ret (pe_fn F__law_lowest hr rfl (pa_cons (pe_op op_add (pe_op op_mulC (pe_ix (ixT K) (pv 0) pe_int (fun u v => rfl)) (pe_ix (ixT K) (pv 1) pe_int (fun u v => rfl))) (pe_op op_mulC (pe_ix (ixT K) (pv 1) pe_int (fun u v => rfl)) (pe_ix (ixT K) (pv 0) pe_int (fun u v => rfl)))) (pa_cons (pe_op op_mulC (pe_ix (ixT K) (pv 0) pe_int (fun u v => rfl)) (pe_ix (ixT K) (pv 1) pe_int (fun u v => rfl))) pa_nil))))), ?_⟩
  obtain ⟨x, y, p, q, m, n, rfl, ⟨r, rfl, hr⟩, ⟨u, rfl, hu⟩, hp, hq, hmn, k⟩ := h
  refine ⟨_, rfl, r, _, _, _, rfl, rfl, hr, rfl, _, rfl, u, _, _, _, rfl, rfl, hu, rfl, _, _, rfl, rfl, MulC.bd hp.1 hq.2, _, rfl, u, _, _, _, rfl, rfl, hu, rfl, _, rfl, r, _, _, _, rfl, rfl, hr, rfl, _, _, rfl, rfl, MulC.bd hq.1 hp.2, _, _, rfl, rfl, ?_⟩
  refine ⟨_, rfl, r, _, _, _, rfl, rfl, hr, rfl, _, rfl, u, _, _, _, rfl, rfl, hu, rfl, _, _, rfl, rfl, MulC.bd hp.2 hq.2, ?_⟩
  refine ⟨_, _, rfl, Int.mul_ne_zero (Nm.den_ne p) (Nm.den_ne q), fun z hz => ?_⟩
  have e := k z hz
  try dsimp only at e
  rw [← Nm.plus_eq] at e
  exact e
theorem sc__law_places : FnScope ["_law_pen_here", "_law_many", "_law_found", "_law_k", "_law_x"] ["_law_pen_here", "_law_many"] (defScope (top 28)) := ⟨rfl, rfl, rfl, by decide +kernel, rfl, by decide +kernel, by decide +kernel⟩
set_option maxHeartbeats 4000000 in
theorem ok__law_places {f : Addr} {fd : FuncData} (F : Fun K "_law_places" "_law_places" (top 28) f fd) (F__law_number : Fd P w K mg base 34 "_law_number" ["_law_pen_here"] (spNum 64)) (F__law_plus : Fd P w K mg base 34 "_law_plus" ["_law_a", "_law_b"] (spBin K (· + ·))) (b_range : mg "range" = none) (hT : P.given.tree = none) :
    FnOk P w K mg base CX0 35 f fd ["_law_pen_here", "_law_many"] (spPlacesT K 64) := by
  refine F.ok sc__law_places (fun vs H Q E h => ?_) (fun cdv A outer s H vs Q E hr h => ?_)
  · obtain ⟨_, _, rfl, _⟩ := h; rfl
  refine ⟨_, (pss_consC (K := K) (ps_set (i := 2) sc__law_places.nd rfl (Or.inl rfl) (pe_lst pa_nil))
    (pss_consC (K := K) (ps_forC (K := K) PassesOwn.never rfl (pi_range1 rfl b_range (pa_cons (pv 1) pa_nil)) (pg_name (i := 3) sc__law_places.nd rfl (Or.inl rfl)) (pss_consC (K := K) (ps_set (i := 4) sc__law_places.nd rfl (Or.inl rfl) (pe_fn F__law_number hr rfl (pa_cons (pv 0) pa_nil)))
    (pss_consC (K := K) (ps_while PassesOwn.never (pt_cmpR (inD K hr) (pv 4) (pv 2) (by with_unfolding_all rfl)) (pss_one (ps_set (i := 4) sc__law_places.nd rfl (Or.inl rfl) (pe_fn F__law_plus hr rfl (pa_cons (pv 4) (pa_cons (pe_tup (pa_cons pe_int (pa_cons pe_int pa_nil))) pa_nil))))))
    (pss_one (ps_expr (pe_bmK K PySem.F.plainAttrs_list PySem.F.slot_list_append PySem.F.type_list_append mt_append (pv 2) (pa_cons (pv 4) pa_nil)))) (by rfl)) (by rfl)) (by rfl))
    (pss_one (ps_ret (pv 2))) (by rfl)) (by rfl)), ?_⟩
  obtain ⟨a, m, rfl, pn, h0, h100, q⟩ := h
  have P0 : 0 ≤ sizeLine := by decide
  have P2 : 2 ≤ sizeLine := by decide
  refine ⟨P0, fun l hl => ?_⟩
  have la : l ≠ a := pn.ne' hl
  obtain ⟨M, hM⟩ : ∃ M : Nat, (M : Int) = m := ⟨m.toNat, by lia⟩
  subst hM
  refine ⟨_, rfl, (M : Int), rfl, by lia, by lia, ?_⟩
  rw [Int.toNat_natCast]
  refine for_range (n := M) (L4 a H M l fun a H M l i σ H' => Mv a H H' ∧ Pen H' a ∧ ∃ zs qs z3 z4, σ = [some (.ref a), some (.int (M : Int)), some (.ref l), z3, z4] ∧ H' l = some (.lst zs) ∧ NumsT H' zs qs ∧ qs.length = i ∧ qs.Nodup ∧ ∀ q ∈ qs, RB (64 + 8) q) ⟨Mv.new hl, pn.same hl, [], [], none, none, rfl, upd_same, .nil, rfl, List.nodup_nil, (fun _ h => nomatch h)⟩ ?_ ?_
  · rintro i σ H' hi hR1
    refine anE3 hR1 fun mv pn' hz6 => ?_
    refine exE4 hz6 fun zs qs z3 z4 hz6' => ?_
    clear hz6
    refine anE6 hz6' fun hq5 el hz hql hnd hb => ?_
    clear hz6'
    obtain rfl := hq5
    try clear hR1
    refine ⟨_, rfl, a, rfl, pn', fun x0 r H3 m3 p3 hr bn bd => ?_⟩
    have el3 := m3 _ _ la el
    have hz3 := NumsT.mv hz pn' m3
    have hzl := hz.length
    refine ⟨fun μ σ H4 => Same H3 H4 ∧ ∃ (r : Addr) (x : Rat) (j : Nat), σ = [some (.ref a), some (.int (M : Int)), some (.ref l), some (.int (0 + (i : Int))), some (.ref r)] ∧ H4 r = some (nT x) ∧ x = x0 + (j : Rat) ∧ μ = cnt x qs ∧ j + cnt x qs ≤ qs.length,
      ⟨_, Same.refl _, r, x0, 0, rfl, hr, (by have z : ((0 : Nat) : Rat) = 0 := rfl; rw [z]; grind), rfl, by have := cnt_le x0 qs; lia⟩, ?_⟩
    rintro μ σ H4 hR2
    refine anE2 hR2 fun s4 hz9 => ?_
    refine exE3 hz9 fun r' x j hz9' => ?_
    clear hz9
    refine anE5 hz9' fun hq7 hr' hx hq8 hj => ?_
    clear hz9'
    obtain rfl := hq7
    obtain rfl := hq8
    try clear hR2
    have hxb : RB (64 + 8) x := by
      rw [hx]
      exact (RB.plus ⟨bn, bd⟩ (rb_nat (j := j) (by lia))).mono (by lia)
    refine ⟨_, rfl, _, rfl, ?_⟩
    refine inN (NumV.of hr') (SqL.of (s4 _ _ el3)) (NumsT.same hz3 s4).nums ?_
    refine ⟨_, rfl, ?_⟩
    by_cases hin : x ∈ qs
    · refine iteTc (by rw [decide_eq_true hin] <;> rfl) ⟨_, fun _ _ h => h, ?_⟩
      refine ⟨_, rfl, P2, fun t ht => ⟨_, _, _, _, 64 + 8, 1, rfl, NumV.of ((Same.new ht) _ _ hr'), NumV.of (upd_same (o := nT 1)), hxb, RB.one (by decide), by lia, fun u hu => ?_⟩⟩
      refine ⟨_, cnt_lt hin, (s4.trans (Same.new ht)).trans (Same.new hu), u, x + 1, j + 1, rfl, upd_same, ?_, rfl, by have := cnt_lt hin; lia⟩
      rw [hx, Rat.natCast_add]
      have z : ((1 : Nat) : Rat) = 1 := rfl
      rw [z]; grind
    · refine iteFc (by rw [decide_eq_false hin] <;> rfl) ?_
      have el4 := s4 _ _ el3
      refine ⟨_, rfl, .inl ⟨rfl, _, SqL.of el4⟩, _, rfl, l, zs, .ref r', rfl, rfl, el4, Nat.lt_of_lt_of_le (show zs.length < 300 by lia) (by decide), ?_⟩
      refine ⟨Mv.put' ((mv.trans m3).trans s4.mv) hl, (p3.sm s4).put' la, zs ++ [.ref r'], qs ++ [x], _, _, rfl, upd_same, Paired.snoc (NumsT.put (NumsT.same hz3 s4) el4) (NumT.put ⟨_, rfl, hr'⟩ el4), by simp [hql], ?_, fun c hc => ?_⟩
      · rw [List.nodup_append]
        exact ⟨hnd, by simp, fun b hb c hc => by rw [List.mem_singleton.mp hc]; exact fun z => hin (z ▸ hb)⟩
      · rcases List.mem_append.mp hc with z | z
        · exact hb c z
        · rw [List.mem_singleton.mp z]; exact hxb
  · rintro σ H' hR3
    refine anE3 hR3 fun mv pn' hz11 => ?_
    refine exE4 hz11 fun zs qs z3 z4 hz11' => ?_
    clear hz11
    refine anE6 hz11' fun hq10 el hz hql hnd hb => ?_
    clear hz11'
    obtain rfl := hq10
    try clear hR3
    exact ⟨_, rfl, q l H' zs qs mv pn' hl el hz (by rw [hql]) hnd hb⟩
theorem sc__law_points : FnScope ["_law_pen_here", "_law_most", "_law_room", "_law_found", "_law_x"] ["_law_pen_here", "_law_most"] (defScope (top 29)) := ⟨rfl, rfl, rfl, by decide +kernel, rfl, by decide +kernel, by decide +kernel⟩
set_option maxHeartbeats 4000000 in
theorem ok__law_points {f : Addr} {fd : FuncData} (F : Fun K "_law_points" "_law_points" (top 29) f fd) (F__law_places : Fd P w K mg base 35 "_law_places" ["_law_pen_here", "_law_many"] (spPlacesT K 64)) (F__law_draw : Fd P w K mg base 33 "_law_draw" ["_law_pen_here", "_law_many"] (spDraw)) (F__law_number : Fd P w K mg base 34 "_law_number" ["_law_pen_here"] (spNum 64)) (b_tuple : mg "tuple" = none) (hT : P.given.tree = none) :
    FnOk P w K mg base CX0 36 f fd ["_law_pen_here", "_law_most"] (spPointsT K 64) := by
  refine F.ok sc__law_points (fun vs H Q E h => ?_) (fun cdv A outer s H vs Q E hr h => ?_)
  · obtain ⟨_, _, rfl, _⟩ := h; rfl
  refine ⟨_, (pss_consC (K := K) (ps_set (i := 2) sc__law_points.nd rfl (Or.inl rfl) (pe_op op_add pe_int (pe_fn F__law_draw hr rfl (pa_cons (pv 0) (pa_cons (pv 1) pa_nil)))))
    (pss_consC (K := K) (ps_set (i := 3) sc__law_points.nd rfl (Or.inl rfl) (pe_lst pa_nil))
    (pss_consC (K := K) (ps_forC (K := K) PassesOwn.never rfl (piL K (pe_fn F__law_places hr rfl (pa_cons (pv 0) (pa_cons (pv 2) pa_nil)))) (pg_name (i := 4) sc__law_points.nd rfl (Or.inl rfl)) (pss_one (ps_ifC (K := K) (PW.pt (pw_and (pt_cmpR op_gt (pv 2) pe_int (nomark _)) (pw_and1 (pt_cmpR op_eq (pe_fn F__law_draw hr rfl (pa_cons (pv 0) (pa_cons pe_int pa_nil))) pe_int (nomark _))))) (pss_consC (K := K) (ps_expr (pe_bmK K PySem.F.plainAttrs_list PySem.F.slot_list_append PySem.F.type_list_append mt_append (pv 3) (pa_cons (pe_tup (pa_cons (pv 4) (pa_cons (pe_fn F__law_number hr rfl (pa_cons (pv 0) pa_nil)) (pa_cons (pe_fn F__law_number hr rfl (pa_cons (pv 0) pa_nil)) pa_nil)))) pa_nil)))
    (pss_one (ps_set (i := 2) sc__law_points.nd rfl (Or.inl rfl) (pe_op op_sub (pv 2) pe_int))) (by rfl)) (pss_one (ps_ifC (K := K) (pt_cmpR op_gt (pv 2) pe_int (nomark _)) (pss_consC (K := K) (ps_expr (pe_bmK K PySem.F.plainAttrs_list PySem.F.slot_list_append PySem.F.type_list_append mt_append (pv 3) (pa_cons (pe_tup (pa_cons (pv 4) (pa_cons (pe_fn F__law_number hr rfl (pa_cons (pv 0) pa_nil)) pa_nil))) pa_nil)))
    (pss_one (ps_set (i := 2) sc__law_points.nd rfl (Or.inl rfl) (pe_op op_sub (pv 2) pe_int))) (by rfl)) pss_nil (by rfl) (by rfl))) (by rfl) (by rfl))) (by rfl))
    (pss_one (ps_ret (pe_callTy (tupleK K) rfl b_tuple bt_tuple (pa_cons (pv 3) pa_nil)))) (by rfl)) (by rfl)) (by rfl)), ?_⟩
  obtain ⟨a, most, rfl, pn, h1, h100, q⟩ := h
  have P0 : 0 ≤ sizeLine := by decide
  have P2 : 2 ≤ sizeLine := by decide
  have P3 : 3 ≤ sizeLine := by decide
  refine ⟨_, rfl, _, rfl, a, most, rfl, pn, h1, by lia, fun d H1 d0 d1 o1 p1 => ⟨_, _, rfl, rfl, ?_⟩⟩
  refine ⟨P0, fun l hl1 => ?_⟩
  have la : l ≠ a := p1.ne' hl1
  have hl : H l = none := Mv.free o1.mv la hl1
  obtain ⟨R, hR⟩ : ∃ R : Nat, (R : Int) = 1 + d := ⟨(1 + d).toNat, by lia⟩
  refine ⟨_, rfl, _, rfl, a, 1 + d, rfl, p1.same hl1, by lia, by lia, fun w Hw ws qs mw pw hw ew hq hql hnd hb => ⟨w, rfl, ⟨_, SqL.of ew⟩, ?_⟩⟩
  have hwl := hq.length
  have wa : w ≠ a := (p1.same (o := .lst []) hl1).ne' hw
  have wl : w ≠ l := (ne_of_none (upd_same (H := H1) (a := l) (o := .lst [])) hw).symm
  refine for_list (xs := ws) (L9 a H w ws qs most l K d fun a H w ws qs most l K d i σ H' => Mv a H H' ∧ Pen H' a ∧ H' w = some (.lst ws) ∧ NumsT H' ws qs ∧ ∃ (room : Int) (ys : List V) (pss : List (List Rat)) (z4 : Option V), σ = [some (.ref a), some (.int most), some (.int room), some (.ref l), z4] ∧ H' l = some (.lst ys) ∧ PtsT K H' ys pss ∧ P23 pss ∧ (∀ ps ∈ pss, ∀ q ∈ ps, RB (64 + 8) q) ∧ (pss.map fun ps => ps.getD 0 0) = qs.take pss.length ∧ pss.length ≤ i ∧ ((tell pss).length : Int) + room = 1 + d ∧ 0 ≤ room ∧ (room = 0 ∨ pss.length = i))
    ⟨Mv.put' o1.mv hl |>.trans mw, pw, ew, hq, 1 + d, [], [], none, rfl, mw _ _ la upd_same, .nil, (fun _ h => nomatch h), (fun _ h => nomatch h), rfl, Nat.le_refl _, by simp [tell], by lia, .inr rfl⟩ (fun i σ H' _ h => SqL.of h.2.2.1) ?_ ?_
  · rintro i v σ H' hv hR1
    obtain ⟨mv, pn', ew', hq', room, ys, pss, z4, rfl, el, hps, h23, hrb, hplc, hpi, hrm, hr0, hdone⟩ := hR1
    try clear hR1
    obtain ⟨x, hx, vx, rfl, hvx⟩ := (Paired.get hq' hv)
    have hxn : NumT H' (.ref vx) x := ⟨_, rfl, hvx⟩
    have hxb := hb x (List.mem_of_getElem? hx)
    have hiq : i < qs.length := (List.getElem?_eq_some_iff.mp hx).1
    have hyl := hps.length
    have add : ∀ (ps : List Rat), ps.getD 0 0 = x → pss.length = i → ((pss ++ [ps]).map fun ps => ps.getD 0 0) = qs.take (pss ++ [ps]).length := fun ps h0 hlen => by
      rw [List.map_append, hplc, List.length_append, List.length_singleton, hlen, List.take_add_one, hx]
      show qs.take i ++ [ps.getD 0 0] = qs.take i ++ [x]
      rw [h0]
    refine ⟨_, rfl, _, _, rfl, rfl, _, rfl, ?_⟩
    by_cases h2 : (1 : Int) < room
    · refine iteTc (by rw [decide_eq_true h2] <;> rfl) ?_
      have hlen : pss.length = i := by lia
      refine ⟨_, rfl, a, 4, rfl, pn', by decide, by decide, fun e H2 e0 e1 o2 p2 => ⟨rfl, _, rfl, ?_⟩⟩
      have el2 := o2.mv _ _ la el
      refine ite2 (fun c => ?_) (fun c => ?_)
      · refine ⟨_, rfl, .inl ⟨rfl, _, SqL.of el2⟩, _, rfl, _, rfl, a, rfl, p2, fun y1 r1 H3 m3 p3 hr1 bn1 bd1 => ⟨_, rfl, a, rfl, p3, fun y2 r2 H4 m4 p4 hr2 bn2 bd2 => ⟨P3, fun t ht => ?_⟩⟩⟩
        have M4 := (o2.mv.trans m3).trans m4
        have s5 : Same H4 (upd H4 t (.tup [.ref vx, .ref r1, .ref r2])) := Same.new ht
        have et : (upd H4 t (.tup [.ref vx, .ref r1, .ref r2])) t = some (.tup [.ref vx, .ref r1, .ref r2]) := upd_same
        have hr1' : H4 r1 = some (nT y1) := m4 r1 _ (p3.ne hr1 (nT_ne y1)) hr1
        have el5 := s5 _ _ (M4 _ _ la el)
        have tn : Nums K (upd H4 t (.tup [.ref vx, .ref r1, .ref r2])) [.ref vx, .ref r1, .ref r2] [x, y1, y2] := .cons (((hxn.mv pn' M4).same s5).num) (.cons (NumV.of (s5 _ _ hr1')) (.cons (NumV.of (s5 _ _ hr2)) .nil))
        have Mt := M4.trans s5.mv
        have hv5 := Mt vx _ (pn'.ne hvx (nT_ne x)) hvx
        have pt := p4.sm s5
        generalize upd H4 t (.tup [.ref vx, .ref r1, .ref r2]) = H5 at s5 et el5 tn Mt pt hv5 ⊢
        have pt5 : PtsT K H5 ys pss := PtsT.mv hps pn' Mt
        have nt5 : PtT K H5 (.ref t) [x, y1, y2] := ⟨t, _, vx, rfl, SqT.of et, tn, rfl, hv5⟩
        refine ⟨l, ys, .ref t, rfl, rfl, el5, Nat.lt_of_lt_of_le (show ys.length < 300 by lia) (by decide), ?_⟩
        refine ⟨_, rfl, _, _, rfl, rfl, ?_⟩
        refine ⟨Mv.put' (mv.trans Mt) hl, pt.put' la, by rw [upd_ne wl]; exact Mt _ _ wa ew', NumsT.put (NumsT.mv hq' pn' Mt) el5, room - 2, ys ++ [.ref t], pss ++ [[x, y1, y2]], some (.ref vx), ?_, upd_same, Paired.snoc (PtsT.put pt5 el5) (nt5.put el5), ?_, ?_, add _ rfl hlen, by rw [List.length_append, List.length_singleton]; lia, ?_, by lia, .inr (by rw [List.length_append, List.length_singleton]; lia)⟩
        · rfl
        · intro ps hp
          rcases List.mem_append.mp hp with z | z
          · exact h23 ps z
          · rw [List.mem_singleton.mp z]; exact .inr rfl
        · intro ps hp c hc
          rcases List.mem_append.mp hp with z | z
          · exact hrb ps z c hc
          · rw [List.mem_singleton.mp z] at hc
            rcases List.mem_cons.mp hc with z | hc
            · rw [z]; exact hxb
            · rcases List.mem_cons.mp hc with z | hc
              · rw [z]; exact RB.mono ⟨bn1, bd1⟩ (by lia)
              · rw [List.mem_singleton.mp hc]; exact RB.mono ⟨bn2, bd2⟩ (by lia)
        · rw [tell_snoc, List.length_append, tellP_length]
          show (((tell pss).length + 2 : Nat) : Int) + (room - 2) = 1 + d
          lia
      · refine ⟨_, rfl, _, _, rfl, rfl, _, rfl, ?_⟩
        refine iteTc (by rw [decide_eq_true (show (0 : Int) < room by lia)] <;> rfl) ?_
        refine ⟨_, rfl, .inl ⟨rfl, _, SqL.of el2⟩, _, rfl, _, rfl, a, rfl, p2, fun y1 r1 H3 m3 p3 hr1 bn1 bd1 => ⟨P2, fun t ht => ?_⟩⟩
        have M4 : Mv a H' H3 := o2.mv.trans m3
        have s5 : Same H3 (upd H3 t (.tup [.ref vx, .ref r1])) := Same.new ht
        have et : (upd H3 t (.tup [.ref vx, .ref r1])) t = some (.tup [.ref vx, .ref r1]) := upd_same
        have el5 := s5 _ _ (M4 _ _ la el)
        have tn : Nums K (upd H3 t (.tup [.ref vx, .ref r1])) [.ref vx, .ref r1] [x, y1] := .cons (((hxn.mv pn' M4).same s5).num) (.cons (NumV.of (s5 _ _ hr1)) .nil)
        have Mt := M4.trans s5.mv
        have hv5 := Mt vx _ (pn'.ne hvx (nT_ne x)) hvx
        have pt := p3.sm s5
        generalize upd H3 t (.tup [.ref vx, .ref r1]) = H5 at s5 et el5 tn Mt pt hv5 ⊢
        have pt5 : PtsT K H5 ys pss := PtsT.mv hps pn' Mt
        have nt5 : PtT K H5 (.ref t) [x, y1] := ⟨t, _, vx, rfl, SqT.of et, tn, rfl, hv5⟩
        refine ⟨l, ys, .ref t, rfl, rfl, el5, Nat.lt_of_lt_of_le (show ys.length < 300 by lia) (by decide), ?_⟩
        refine ⟨_, rfl, _, _, rfl, rfl, ?_⟩
        refine ⟨Mv.put' (mv.trans Mt) hl, pt.put' la, by rw [upd_ne wl]; exact Mt _ _ wa ew', NumsT.put (NumsT.mv hq' pn' Mt) el5, room - 1, ys ++ [.ref t], pss ++ [[x, y1]], some (.ref vx), ?_, upd_same, Paired.snoc (PtsT.put pt5 el5) (nt5.put el5), ?_, ?_, add _ rfl hlen, by rw [List.length_append, List.length_singleton]; lia, ?_, by lia, .inr (by rw [List.length_append, List.length_singleton]; lia)⟩
        · rfl
        · intro ps hp
          rcases List.mem_append.mp hp with z | z
          · exact h23 ps z
          · rw [List.mem_singleton.mp z]; exact .inl rfl
        · intro ps hp c hc
          rcases List.mem_append.mp hp with z | z
          · exact hrb ps z c hc
          · rw [List.mem_singleton.mp z] at hc
            rcases List.mem_cons.mp hc with z | hc
            · rw [z]; exact hxb
            · rw [List.mem_singleton.mp hc]; exact RB.mono ⟨bn1, bd1⟩ (by lia)
        · rw [tell_snoc, List.length_append, tellP_length]
          show (((tell pss).length + 1 : Nat) : Int) + (room - 1) = 1 + d
          lia
    · refine iteFc (by rw [decide_eq_false h2] <;> rfl) (iteF ?_)
      refine ⟨_, rfl, _, _, rfl, rfl, _, rfl, ?_⟩
      by_cases h0 : (0 : Int) < room
      · refine iteTc (by rw [decide_eq_true h0] <;> rfl) ?_
        have hlen : pss.length = i := by lia
        refine ⟨_, rfl, .inl ⟨rfl, _, SqL.of el⟩, _, rfl, _, rfl, a, rfl, pn', fun y1 r1 H3 m3 p3 hr1 bn1 bd1 => ⟨P2, fun t ht => ?_⟩⟩
        have M4 : Mv a H' H3 := m3
        have s5 : Same H3 (upd H3 t (.tup [.ref vx, .ref r1])) := Same.new ht
        have et : (upd H3 t (.tup [.ref vx, .ref r1])) t = some (.tup [.ref vx, .ref r1]) := upd_same
        have el5 := s5 _ _ (M4 _ _ la el)
        have tn : Nums K (upd H3 t (.tup [.ref vx, .ref r1])) [.ref vx, .ref r1] [x, y1] := .cons (((hxn.mv pn' M4).same s5).num) (.cons (NumV.of (s5 _ _ hr1)) .nil)
        have Mt := M4.trans s5.mv
        have hv5 := Mt vx _ (pn'.ne hvx (nT_ne x)) hvx
        have pt := p3.sm s5
        generalize upd H3 t (.tup [.ref vx, .ref r1]) = H5 at s5 et el5 tn Mt pt hv5 ⊢
        have pt5 : PtsT K H5 ys pss := PtsT.mv hps pn' Mt
        have nt5 : PtT K H5 (.ref t) [x, y1] := ⟨t, _, vx, rfl, SqT.of et, tn, rfl, hv5⟩
        refine ⟨l, ys, .ref t, rfl, rfl, el5, Nat.lt_of_lt_of_le (show ys.length < 300 by lia) (by decide), ?_⟩
        refine ⟨_, rfl, _, _, rfl, rfl, ?_⟩
        refine ⟨Mv.put' (mv.trans Mt) hl, pt.put' la, by rw [upd_ne wl]; exact Mt _ _ wa ew', NumsT.put (NumsT.mv hq' pn' Mt) el5, room - 1, ys ++ [.ref t], pss ++ [[x, y1]], some (.ref vx), ?_, upd_same, Paired.snoc (PtsT.put pt5 el5) (nt5.put el5), ?_, ?_, add _ rfl hlen, by rw [List.length_append, List.length_singleton]; lia, ?_, by lia, .inr (by rw [List.length_append, List.length_singleton]; lia)⟩
        · rfl
        · intro ps hp
          rcases List.mem_append.mp hp with z | z
          · exact h23 ps z
          · rw [List.mem_singleton.mp z]; exact .inl rfl
        · intro ps hp c hc
          rcases List.mem_append.mp hp with z | z
          · exact hrb ps z c hc
          · rw [List.mem_singleton.mp z] at hc
            rcases List.mem_cons.mp hc with z | hc
            · rw [z]; exact hxb
            · rw [List.mem_singleton.mp hc]; exact RB.mono ⟨bn1, bd1⟩ (by lia)
        · rw [tell_snoc, List.length_append, tellP_length]
          show (((tell pss).length + 1 : Nat) : Int) + (room - 1) = 1 + d
          lia
      · exact iteFc (by rw [decide_eq_false h0] <;> rfl) ⟨mv, pn', ew', hq', room, ys, pss, _, rfl, el, hps, h23, hrb, hplc, by lia, hrm, hr0, .inl (by lia)⟩
  · rintro σ H' hR2
    obtain ⟨mv, pn', ew', hq', room, ys, pss, z4, rfl, el, hps, h23, hrb, hplc, hpi, hrm, hr0, hdone⟩ := hR2
    try clear hR2
    have hpl : 1 ≤ pss.length := by
      have h2 := tell_length_le pss fun ps hp => by have := h23 ps hp; lia
      lia
    have la' : H' l = some (.lst ys) := el
    refine ⟨_, rfl, l, ys, rfl, .inl ⟨SqL.of el, fun r hr => ?_⟩⟩
    have sr : Same H' (upd H' r (.tup ys)) := Same.new hr
    refine q r _ ys pss (mv.trans sr.mv) (pn'.sm sr) (SqT.of upd_same) (PtsT.same hps sr) h23 hrb hpl (by lia) (by lia) ?_
    rw [hplc]
    exact (List.take_sublist _ _).nodup hnd
theorem sc__law_odd : FnScope ["_law_pen_here", "_law_top", "_law_some"] ["_law_pen_here"] (defScope (top 31)) := ⟨rfl, rfl, rfl, by decide +kernel, rfl, by decide +kernel, by decide +kernel⟩
set_option maxHeartbeats 4000000 in
theorem ok__law_odd {f : Addr} {fd : FuncData} (F : Fun K "_law_odd" "_law_odd" (top 31) f fd) (F__law_draw : Fd P w K mg base 33 "_law_draw" ["_law_pen_here", "_law_many"] (spDraw)) (b_len : mg "len" = none) (hT : P.given.tree = none) :
    FnOk P w K mg base CX0 34 f fd ["_law_pen_here"] (spOdd K) := by
  refine F.ok sc__law_odd (fun vs H Q E h => ?_) (fun cdv A outer s H vs Q E hr h => ?_)
  · obtain ⟨_, rfl, _⟩ := h; rfl
  refine ⟨_, (@pss_consC _ _ _ _ _ K _ (ps_set (i := 1) sc__law_odd.nd rfl (Or.inl rfl) (pe_op op_sub (pe_fn F__law_draw hr rfl (pa_cons (pv 0) (pa_cons pe_int pa_nil))) pe_int))
    (@pss_consC _ _ _ _ _ K _ (@ps_setk _ _ _ _ 2 _ _ sc__law_odd.nd rfl (Or.inl rfl) (pek_lst (pak_cons pek_non (pak_cons pek_bl (pak_cons pek_bl (pak_cons pek_int (pak_cons pek_int (pak_cons pek_str (pak_cons (pek_tup (pak_cons pek_int pak_nil se_c)) (pak_cons (pek_tup (pak_cons pek_int (pak_cons pek_int (pak_cons pek_int pak_nil se_c) se_c) se_c)) (pak_cons (pek_lst (pak_cons pek_int (pak_cons pek_int pak_nil se_c) se_c)) (pak_cons (pek_tup (pak_cons pek_int (pak_cons pek_int pak_nil se_c) se_c)) (pak_cons (pek_tup (pak_cons (pek (pv 1)) (pak_cons pek_int pak_nil se_c) se_n)) (pak_cons (pek_tup (pak_cons pek_int (pak_cons pek_int pak_nil se_c) se_c)) (pak_cons (pek_tup (pak_cons pek_int (pak_cons pek_int pak_nil se_c) se_c)) (pak_cons (pek_tup (pak_cons (pek (pv 1)) (pak_cons pek_neg pak_nil se_u) se_n)) (pak_cons (pek_tup (pak_cons pek_int (pak_cons pek_neg pak_nil se_u) se_c)) pak_nil se_t) se_t) se_t) se_t) se_t) se_t) se_l) se_t) se_t) se_c) se_c) se_c) se_c) se_c) se_c)) (by rfl) (by first | exact .inl rfl | exact .inr rfl))
    (@pss_consC _ _ _ _ _ K _ (@ps_setk _ _ _ _ 2 _ _ sc__law_odd.nd rfl (Or.inl rfl) (pek_op op_cat (pek (pv 2)) (pek_lst (pak_cons (pek_tup (pak_cons pek_bl (pak_cons pek_int pak_nil se_c) se_c)) (pak_cons (pek_tup (pak_cons pek_int (pak_cons pek_bl pak_nil se_c) se_c)) (pak_cons (pek_tup (pak_cons pek_str (pak_cons pek_int pak_nil se_c) se_c)) (pak_cons (pek_tup (pak_cons pek_int (pak_cons pek_non pak_nil se_c) se_c)) (pak_cons (pek_tup (pak_cons (pek_tup (pak_cons pek_int (pak_cons pek_int pak_nil se_c) se_c)) (pak_cons pek_int pak_nil se_c) se_t)) (pak_cons (pek_tup (pak_cons pek_int (pak_cons pek_int pak_nil se_c) se_c)) pak_nil se_t) se_t) se_t) se_t) se_t) se_t))) (by rfl) (by first | exact .inl rfl | exact .inr rfl))
    (@pss_one _ _ _ (ps_ret (pe_ix (ixL K) (pv 2) (pe_fn F__law_draw hr rfl (pa_cons (pv 0) (pa_cons (pe_callB (lenK K) rfl b_len bt_len (pa_cons (pv 2) pa_nil)) pa_nil))) (fun u v => rfl)))) (by rfl)) (by rfl)) (by rfl)), ?_⟩
  obtain ⟨p, rfl, pn, q⟩ := h
  have P1 : 1 ≤ sizeLine := by decide
  have P2 : 2 ≤ sizeLine := by decide
  have P3 : 3 ≤ sizeLine := by decide
  have P6 : 6 ≤ sizeLine := by decide
  have P15 : 15 ≤ sizeLine := by decide
  refine ⟨_, rfl, p, 99, rfl, pn, by decide, by decide, fun d H1 d0 d1 o1 pk => ⟨_, _, rfl, rfl, ?_⟩⟩
  generalize d - 49 = tp
  have hA : ∀ y ∈ ([] : List V), NbM K p H1 y := fun y hy => nomatch hy
  have sT : Same H1 H1 := Same.refl _
  have hA := nb_snoc hA (x := .non) (fun _ _ => .no (.of .non) (kit_nt K))
  have hA := nb_snoc hA (x := .bl true) (fun _ _ => .no (.of (.bl true)) (kit_bt K))
  have hA := nb_snoc hA (x := .bl false) (fun _ _ => .no (.of (.bl false)) (kit_bt K))
  have hA := nb_snoc hA (x := .int 0) (fun _ _ => .no (.of (.int 0)) (kit_it K))
  have hA := nb_snoc hA (x := .int 7) (fun _ _ => .no (.of (.int 7)) (kit_it K))
  have hA := nb_snoc hA (x := .str "1") (fun _ _ => .no (.of (.str "1")) (kit_st K))
  refine ⟨P1, fun uA1 e => ?_⟩
  have sN : Same H1 (upd H1 uA1 (.tup [.int 1])) := Same.new e
  have ne := Pen.ne' pk e
  have hA := nb_snoc (nbs_same hA sN) (x := .ref uA1) (fun H' m => .len (SqT.of (m _ _ ne upd_same)) (show 1 ≠ 2 by decide))
  have sT := sT.trans sN
  have pk := pk.sm sN
  generalize upd H1 uA1 (.tup [.int 1]) = A1 at hA sT pk ⊢
  clear sN ne
  refine ⟨P3, fun uA2 e => ?_⟩
  have sN : Same A1 (upd A1 uA2 (.tup [.int 1, .int 2, .int 3])) := Same.new e
  have ne := Pen.ne' pk e
  have hA := nb_snoc (nbs_same hA sN) (x := .ref uA2) (fun H' m => .len (SqT.of (m _ _ ne upd_same)) (show 3 ≠ 2 by decide))
  have sT := sT.trans sN
  have pk := pk.sm sN
  generalize upd A1 uA2 (.tup [.int 1, .int 2, .int 3]) = A2 at hA sT pk ⊢
  clear sN ne
  refine ⟨P2, fun uA3 e => ?_⟩
  have sN : Same A2 (upd A2 uA3 (.lst [.int 1, .int 2])) := Same.new e
  have ne := Pen.ne' pk e
  have hA := nb_snoc (nbs_same hA sN) (x := .ref uA3) (fun H' m => .no (.lst (SqL.of (m _ _ ne upd_same))) (kit_lt K))
  have sT := sT.trans sN
  have pk := pk.sm sN
  generalize upd A2 uA3 (.lst [.int 1, .int 2]) = A3 at hA sT pk ⊢
  clear sN ne
  refine ⟨P2, fun uA4 e => ?_⟩
  have sN : Same A3 (upd A3 uA4 (.tup [.int 2, .int 4])) := Same.new e
  have ne := Pen.ne' pk e
  have hA := nb_snoc (nbs_same hA sN) (x := .ref uA4) (fun H' m => .nums (SqT.of (m _ _ ne upd_same)) (by decide))
  have sT := sT.trans sN
  have pk := pk.sm sN
  generalize upd A3 uA4 (.tup [.int 2, .int 4]) = A4 at hA sT pk ⊢
  clear sN ne
  refine ⟨_, rfl, P2, fun uA5 e => ?_⟩
  have sN : Same A4 (upd A4 uA5 (.tup [.int tp, .int 0])) := Same.new e
  have ne := Pen.ne' pk e
  have hA := nb_snoc (nbs_same hA sN) (x := .ref uA5) (fun H' m => .nums (SqT.of (m _ _ ne upd_same)) (by rw [decide_eq_false (show ¬ (1 : Int) ≤ 0 by decide)]; rfl))
  have sT := sT.trans sN
  have pk := pk.sm sN
  generalize upd A4 uA5 (.tup [.int tp, .int 0]) = A5 at hA sT pk ⊢
  clear sN ne
  refine ⟨P2, fun uA6 e => ?_⟩
  have sN : Same A5 (upd A5 uA6 (.tup [.int 0, .int 2])) := Same.new e
  have ne := Pen.ne' pk e
  have hA := nb_snoc (nbs_same hA sN) (x := .ref uA6) (fun H' m => .nums (SqT.of (m _ _ ne upd_same)) (by decide))
  have sT := sT.trans sN
  have pk := pk.sm sN
  generalize upd A5 uA6 (.tup [.int 0, .int 2]) = A6 at hA sT pk ⊢
  clear sN ne
  refine ⟨P2, fun uA7 e => ?_⟩
  have sN : Same A6 (upd A6 uA7 (.tup [.int 0, .int 0])) := Same.new e
  have ne := Pen.ne' pk e
  have hA := nb_snoc (nbs_same hA sN) (x := .ref uA7) (fun H' m => .nums (SqT.of (m _ _ ne upd_same)) (by decide))
  have sT := sT.trans sN
  have pk := pk.sm sN
  generalize upd A6 uA7 (.tup [.int 0, .int 0]) = A7 at hA sT pk ⊢
  clear sN ne
  refine ⟨_, rfl, _, rfl, P2, fun uA8 e => ?_⟩
  have sN : Same A7 (upd A7 uA8 (.tup [.int tp, .int (-1)])) := Same.new e
  have ne := Pen.ne' pk e
  have hA := nb_snoc (nbs_same hA sN) (x := .ref uA8) (fun H' m => .nums (SqT.of (m _ _ ne upd_same)) (by rw [decide_eq_false (show ¬ (1 : Int) ≤ -1 by decide)]; rfl))
  have sT := sT.trans sN
  have pk := pk.sm sN
  generalize upd A7 uA8 (.tup [.int tp, .int (-1)]) = A8 at hA sT pk ⊢
  clear sN ne
  refine ⟨_, rfl, P2, fun uA9 e => ?_⟩
  have sN : Same A8 (upd A8 uA9 (.tup [.int 3, .int (-2)])) := Same.new e
  have ne := Pen.ne' pk e
  have hA := nb_snoc (nbs_same hA sN) (x := .ref uA9) (fun H' m => .nums (SqT.of (m _ _ ne upd_same)) (by decide))
  have sT := sT.trans sN
  have pk := pk.sm sN
  generalize upd A8 uA9 (.tup [.int 3, .int (-2)]) = A9 at hA sT pk ⊢
  clear sN ne
  refine ⟨P15, fun l1 e => ?_⟩
  have sN := Same.new (o := .lst [.non, .bl true, .bl false, .int 0, .int 7, .str "1", .ref uA1, .ref uA2, .ref uA3, .ref uA4, .ref uA5, .ref uA6, .ref uA7, .ref uA8, .ref uA9]) e
  have ex : (upd A9 l1 (.lst [.non, .bl true, .bl false, .int 0, .int 7, .str "1", .ref uA1, .ref uA2, .ref uA3, .ref uA4, .ref uA5, .ref uA6, .ref uA7, .ref uA8, .ref uA9])) l1 = some (.lst [.non, .bl true, .bl false, .int 0, .int 7, .str "1", .ref uA1, .ref uA2, .ref uA3, .ref uA4, .ref uA5, .ref uA6, .ref uA7, .ref uA8, .ref uA9]) := upd_same
  have hA := nbs_same hA sN
  have sT := sT.trans sN
  have pk := pk.sm sN
  generalize upd A9 l1 (.lst [.non, .bl true, .bl false, .int 0, .int 7, .str "1", .ref uA1, .ref uA2, .ref uA3, .ref uA4, .ref uA5, .ref uA6, .ref uA7, .ref uA8, .ref uA9]) = L1 at hA sT pk ex ⊢
  clear sN
  have hA1 : ∀ y ∈ ([.non, .bl true, .bl false, .int 0, .int 7, .str "1", .ref uA1, .ref uA2, .ref uA3, .ref uA4, .ref uA5, .ref uA6, .ref uA7, .ref uA8, .ref uA9] : List V), NbM K p L1 y := hA
  refine ⟨_, rfl, ?_⟩
  have sT1 := sT
  clear hA sT
  have hA : ∀ y ∈ ([] : List V), NbM K p L1 y := fun y hy => nomatch hy
  have sT : Same L1 L1 := Same.refl _
  refine ⟨P2, fun uB1 e => ?_⟩
  have sN : Same L1 (upd L1 uB1 (.tup [.bl true, .int 1])) := Same.new e
  have ne := Pen.ne' pk e
  have hA := nb_snoc (nbs_same hA sN) (x := .ref uB1) (fun H' m => .one (SqT.of (m _ _ ne upd_same)) (.bl true))
  have sT := sT.trans sN
  have pk := pk.sm sN
  generalize upd L1 uB1 (.tup [.bl true, .int 1]) = B1 at hA sT pk ⊢
  clear sN ne
  refine ⟨P2, fun uB2 e => ?_⟩
  have sN : Same B1 (upd B1 uB2 (.tup [.int 1, .bl true])) := Same.new e
  have ne := Pen.ne' pk e
  have hA := nb_snoc (nbs_same hA sN) (x := .ref uB2) (fun H' m => .two (SqT.of (m _ _ ne upd_same)) (.bl true))
  have sT := sT.trans sN
  have pk := pk.sm sN
  generalize upd B1 uB2 (.tup [.int 1, .bl true]) = B2 at hA sT pk ⊢
  clear sN ne
  refine ⟨P2, fun uB3 e => ?_⟩
  have sN : Same B2 (upd B2 uB3 (.tup [.str "1", .int 2])) := Same.new e
  have ne := Pen.ne' pk e
  have hA := nb_snoc (nbs_same hA sN) (x := .ref uB3) (fun H' m => .one (SqT.of (m _ _ ne upd_same)) (.oth (.of (.str "1")) (kit_si K)))
  have sT := sT.trans sN
  have pk := pk.sm sN
  generalize upd B2 uB3 (.tup [.str "1", .int 2]) = B3 at hA sT pk ⊢
  clear sN ne
  refine ⟨P2, fun uB4 e => ?_⟩
  have sN : Same B3 (upd B3 uB4 (.tup [.int 1, .non])) := Same.new e
  have ne := Pen.ne' pk e
  have hA := nb_snoc (nbs_same hA sN) (x := .ref uB4) (fun H' m => .two (SqT.of (m _ _ ne upd_same)) (.oth (.of .non) (kit_ni K)))
  have sT := sT.trans sN
  have pk := pk.sm sN
  generalize upd B3 uB4 (.tup [.int 1, .non]) = B4 at hA sT pk ⊢
  clear sN ne
  refine ⟨P2, fun wB5 e => ?_⟩
  have sN : Same B4 (upd B4 wB5 (.tup [.int 1, .int 1])) := Same.new e
  have ne := Pen.ne' pk e
  have hw : ∀ H', Mv p (upd B4 wB5 (.tup [.int 1, .int 1])) H' → SqT K H' wB5 [.int 1, .int 1] := fun H' m => SqT.of (m _ _ ne upd_same)
  have hA := nbs_same hA sN
  have sT := sT.trans sN
  have pk := pk.sm sN
  generalize upd B4 wB5 (.tup [.int 1, .int 1]) = B5w at hA sT hw pk ⊢
  clear sN ne
  refine ⟨P2, fun u e => ?_⟩
  have sN : Same B5w (upd B5w u (.tup [.ref wB5, .int 1])) := Same.new e
  have ne := Pen.ne' pk e
  have hA := nb_snoc (nbs_same hA sN) (x := .ref u) (fun H' m => .one (SqT.of (m _ _ ne upd_same)) (.oth (.tup (hw H' fun b o z q => m b o z (sN b o q))) (kit_ti K)))
  have sT := sT.trans sN
  have pk := pk.sm sN
  generalize upd B5w u (.tup [.ref wB5, .int 1]) = B5 at hA sT pk ⊢
  clear sN hw ne
  refine ⟨P2, fun uB6 e => ?_⟩
  have sN : Same B5 (upd B5 uB6 (.tup [.int 6, .int 3])) := Same.new e
  have ne := Pen.ne' pk e
  have hA := nb_snoc (nbs_same hA sN) (x := .ref uB6) (fun H' m => .nums (SqT.of (m _ _ ne upd_same)) (by decide))
  have sT := sT.trans sN
  have pk := pk.sm sN
  generalize upd B5 uB6 (.tup [.int 6, .int 3]) = B6 at hA sT pk ⊢
  clear sN ne
  refine ⟨P6, fun l2 e => ?_⟩
  have sN := Same.new (o := .lst [.ref uB1, .ref uB2, .ref uB3, .ref uB4, .ref u, .ref uB6]) e
  have hA := nbs_same hA sN
  have sT := sT.trans sN
  have pk := pk.sm sN
  have ex2 : (upd B6 l2 (.lst [.ref uB1, .ref uB2, .ref uB3, .ref uB4, .ref u, .ref uB6])) l2 = some (.lst [.ref uB1, .ref uB2, .ref uB3, .ref uB4, .ref u, .ref uB6]) := upd_same
  generalize upd B6 l2 (.lst [.ref uB1, .ref uB2, .ref uB3, .ref uB4, .ref u, .ref uB6]) = L2' at hA sT pk ex2 ⊢
  clear sN
  refine ⟨l1, l2, _, _, rfl, rfl, sT _ _ ex, ex2, (show 21 ≤ sizeLine by decide), fun l3 e => ?_⟩
  have hB : ∀ y ∈ ([.ref uB1, .ref uB2, .ref uB3, .ref uB4, .ref u, .ref uB6] : List V), NbM K p L2' y := hA
  have hC : ∀ y ∈ ([.non, .bl true, .bl false, .int 0, .int 7, .str "1", .ref uA1, .ref uA2, .ref uA3, .ref uA4, .ref uA5, .ref uA6, .ref uA7, .ref uA8, .ref uA9] ++ [.ref uB1, .ref uB2, .ref uB3, .ref uB4, .ref u, .ref uB6] : List V), NbM K p L2' y := fun y hy => by
    rcases List.mem_append.mp (show y ∈ ([.non, .bl true, .bl false, .int 0, .int 7, .str "1", .ref uA1, .ref uA2, .ref uA3, .ref uA4, .ref uA5, .ref uA6, .ref uA7, .ref uA8, .ref uA9] : List V) ++ [.ref uB1, .ref uB2, .ref uB3, .ref uB4, .ref u, .ref uB6] from hy) with z | z
    · exact nbs_same hA1 sT y z
    · exact hB y z
  have sN := Same.new (o := .lst ([.non, .bl true, .bl false, .int 0, .int 7, .str "1", .ref uA1, .ref uA2, .ref uA3, .ref uA4, .ref uA5, .ref uA6, .ref uA7, .ref uA8, .ref uA9] ++ [.ref uB1, .ref uB2, .ref uB3, .ref uB4, .ref u, .ref uB6])) e
  have ne := Pen.ne' pk e
  have hC := nbs_same hC sN
  have pk := pk.sm sN
  have sT := sT.trans sN
  have ex3 : (upd L2' l3 (.lst ([.non, .bl true, .bl false, .int 0, .int 7, .str "1", .ref uA1, .ref uA2, .ref uA3, .ref uA4, .ref uA5, .ref uA6, .ref uA7, .ref uA8, .ref uA9] ++ [.ref uB1, .ref uB2, .ref uB3, .ref uB4, .ref u, .ref uB6]))) l3 = some (.lst ([.non, .bl true, .bl false, .int 0, .int 7, .str "1", .ref uA1, .ref uA2, .ref uA3, .ref uA4, .ref uA5, .ref uA6, .ref uA7, .ref uA8, .ref uA9] ++ [.ref uB1, .ref uB2, .ref uB3, .ref uB4, .ref u, .ref uB6])) := upd_same
  generalize upd L2' l3 (.lst ([.non, .bl true, .bl false, .int 0, .int 7, .str "1", .ref uA1, .ref uA2, .ref uA3, .ref uA4, .ref uA5, .ref uA6, .ref uA7, .ref uA8, .ref uA9] ++ [.ref uB1, .ref uB2, .ref uB3, .ref uB4, .ref u, .ref uB6])) = L3 at hC pk sT ex3 ⊢
  clear hA1 hA hB sN e ex2 ex
  refine ⟨_, rfl, _, rfl, _, rfl, l3, _, rfl, .inl (SqL.of ex3), p, 21, rfl, pk, by decide, by decide, fun i H2 i0 i1 o2 pk2 => ?_⟩
  obtain ⟨x, hx, hxm⟩ := (at_odd hC rfl i0 i1)
  exact ⟨l3, _, _, x, rfl, rfl, SqL.of ((OnlyAt.mv o2) _ _ ne ex3), hx, q x H2 ((((OnlyAt.mv o1).trans fun b o _ z => sT1 b o z).trans fun b o _ z => sT b o z).trans (OnlyAt.mv o2)) pk2 ((hC x hxm).mv (OnlyAt.mv o2))⟩
theorem sc_are_unlike : FnScope ["places"] ["places"] (defScope (top 19)) := ⟨rfl, rfl, rfl, by decide +kernel, rfl, by decide +kernel, by decide +kernel⟩
set_option maxHeartbeats 4000000 in
theorem ok_are_unlike {f : Addr} {fd : FuncData} (F : Fun K "are_unlike" "are_unlike" (top 19) f fd) (b_len : mg "len" = none) (b_set : mg "set" = none) (hT : P.given.tree = none) :
    FnOk P w K mg base CX0 33 f fd ["places"] (spUnlikeD K) := by
  refine F.ok sc_are_unlike (fun vs H Q E h => ?_) (fun cdv A outer s H vs Q E hr h => ?_)
  · obtain ⟨_, _, _, rfl, _⟩ := h; rfl
  refine ⟨_, (pss_one (ps_ret (pe_cmpR op_eq (pe_callB call_lenS rfl b_len bt_len (pa_cons (pe_callTy (setD K rfl hr.units) rfl b_set bt_set (pa_cons (pv 0) pa_nil)) pa_nil)) (pe_callB (lenK K) rfl b_len bt_len (pa_cons (pv 0) pa_nil)) (nomark _)))), ?_⟩
  obtain ⟨l, ys, qs, rfl, hS, hn, h17, q⟩ := h
  have hl := hn.length
  refine ⟨_, rfl, l, ys, qs, rfl, hS, hn, h17, fun p n hle hnd hp => ⟨p, n, rfl, upd_same, by lia, ?_⟩⟩
  have s1 : Same H (upd H p (SetO p n)) := Same.new hp
  refine ⟨_, rfl, l, ys, rfl, .inl (Same.seq s1 hS), rfl, ?_⟩
  have e : decide (V.int ((n : Nat) : Int) = V.int ((ys.length : Nat) : Int)) = decide qs.Nodup := by
    by_cases h : qs.Nodup
    · rw [decide_eq_true h, decide_eq_true (by rw [hl, hnd.mpr h])]
    · rw [decide_eq_false h, decide_eq_false (fun z => h (hnd.mp (by injection z with z; rw [hl] at z; exact Int.ofNat.inj z)))]
  rw [e]
  exact q _ s1
theorem sc_told_in : FnScope ["points", "told", "point", "k"] ["points"] (defScope (top 21)) := ⟨rfl, rfl, rfl, by decide +kernel, rfl, by decide +kernel, by decide +kernel⟩
set_option maxHeartbeats 4000000 in
theorem ok_told_in {f : Addr} {fd : FuncData} (F : Fun K "told_in" "told_in" (top 21) f fd) (b_range : mg "range" = none) (b_len : mg "len" = none) (hT : P.given.tree = none) :
    FnOk P w K mg base CX0 33 f fd ["points"] (spToldT K) := by
  refine F.ok sc_told_in (fun vs H Q E h => ?_) (fun cdv A outer s H vs Q E hr h => ?_)
  · obtain ⟨_, _, _, rfl, _⟩ := h; rfl
  refine ⟨_, (pss_consC (K := K) (ps_set (i := 1) sc_told_in.nd rfl (Or.inl rfl) (pe_lst pa_nil))
    (pss_consC (K := K) (ps_forC (K := K) PassesOwn.never rfl (piT K (pv 0)) (pg_name (i := 2) sc_told_in.nd rfl (Or.inl rfl)) (pss_one (ps_forC (K := K) PassesOwn.never rfl (pi_range1 rfl b_range (pa_cons (pe_op op_sub (pe_callB (lenK K) rfl b_len bt_len (pa_cons (pv 2) pa_nil)) pe_int) pa_nil)) (pg_name (i := 3) sc_told_in.nd rfl (Or.inl rfl)) (pss_one (ps_expr (pe_bmK K PySem.F.plainAttrs_list PySem.F.slot_list_append PySem.F.type_list_append mt_append (pv 1) (pa_cons (pe_tup (pa_cons (pe_ix (ixT K) (pv 2) pe_int (fun u v => rfl)) (pa_cons (pv 3) (pa_cons (pe_ix (ixT K) (pv 2) (pe_op op_add (pv 3) pe_int) (fun u v => rfl)) pa_nil)))) pa_nil)))) (by rfl))) (by rfl))
    (pss_one (ps_ret (pv 1))) (by rfl)) (by rfl)), ?_⟩
  obtain ⟨r, xs, pss, rfl, hS, hp, h23, h100, q⟩ := h
  have P0 : 0 ≤ sizeLine := by decide
  have P3 : 3 ≤ sizeLine := by decide
  have hxl := hp.length
  refine ⟨P0, fun p hp0 => ?_⟩
  refine ⟨_, rfl, r, rfl, ⟨_, SqT.same hS (Same.new hp0)⟩, for_tup (xs := xs) (L5 H r p K pss fun H r p K pss i σ H' => Same H H' ∧ ∃ ys z2 z3, σ = [some (.ref r), some (.ref p), z2, z3] ∧ H' p = some (.lst ys) ∧ TlsT K H' ys (tell (pss.take i))) ⟨Same.new hp0, [], none, none, rfl, upd_same, .nil⟩ (fun i σ H' _ h => hS.same h.1) ?_ ?_⟩
  · rintro i v σ H' hv hR1
    refine anE2 hR1 fun sm hz19 => ?_
    refine exE3 hz19 fun ys z2 z3 hz19' => ?_
    clear hz19
    refine anE3 hz19' fun hq18 ep hys => ?_
    clear hz19'
    obtain rfl := hq18
    try clear hR1
    obtain ⟨ps, hps, a, zs, pp, rfl, hzs, hzn, hz0, hpp⟩ := (Paired.get hp hv)
    have hpl := h23 ps (List.mem_of_getElem? hps)
    have hzl := hzn.length
    have hyl : ys.length ≤ 200 := by
      have h1 := tell_length_le (pss.take i) (h23.take i)
      rw [List.length_take] at h1
      rw [hys.length]; lia
    refine ⟨_, rfl, a, zs, rfl, .inr (hzs.same sm), _, _, rfl, rfl, _, rfl, by lia, by lia, ?_⟩
    rw [show (((zs.length : Nat) : Int) - 1).toNat = ps.length - 1 from nat_pred hzl]
    refine for_range (n := ps.length - 1) (L8 H r p a K pss i ps fun H r p a K pss i ps k σ H2 => Same H H2 ∧ ∃ ys2 z3, σ = [some (.ref r), some (.ref p), some (.ref a), z3] ∧ H2 p = some (.lst ys2) ∧ TlsT K H2 ys2 (tell (pss.take i) ++ (tellP ps).take k)) ⟨sm, ys, z3, rfl, ep, by rw [List.take_zero, List.append_nil]; exact hys⟩ ?_ ?_
    · rintro k σ H2 hk hR2
      refine anE2 hR2 fun sm2 hz23 => ?_
      refine exE2 hz23 fun ys2 z3' hz23' => ?_
      clear hz23
      refine anE3 hz23' fun hq22 ep2 hys2 => ?_
      clear hz23'
      obtain rfl := hq22
      try clear hR2
      have g0 := getD_some (l := ps) (i := 0) (by lia)
      have gk := getD_some (l := ps) (i := k + 1) (by lia)
      obtain ⟨xk, hxk, hnk⟩ := (Paired.get' hzn gk)
      have ak : atI zs (0 + (k : Int) + 1) = some xk := by rw [show 0 + (k : Int) + 1 = ((k + 1 : Nat) : Int) by lia]; exact atI_nat hxk
      have hyl2 : ys2.length ≤ 204 := by
        have h1 := hys.length
        have h2 := tellP_length ps
        rw [hys2.length, List.length_append, List.length_take]; exact nat_204 hyl hk hpl h1
      refine ⟨_, rfl, .inl ⟨rfl, _, SqL.of ep2⟩, _, rfl, a, zs, _, .ref pp, rfl, rfl, hzs.same sm2, atI_nat (j := 0) hz0, _, rfl, _, rfl, _, rfl, _, _, rfl, rfl, a, zs, _, xk, rfl, rfl, hzs.same sm2, ak, P3, fun t ht => ?_⟩
      have s3 : Same H2 (upd H2 t (.tup [.ref pp, .int (0 + (k : Int)), xk])) := Same.new ht
      have tp : t ≠ p := (ne_of_none ep2 ht).symm
      have hp3 : (upd (upd H2 t (.tup [.ref pp, .int (0 + (k : Int)), xk])) p (.lst (ys2 ++ [.ref t]))) pp = some (nT (ps.getD 0 0)) := by
        have z := s3 _ _ (sm2 _ _ hpp)
        rw [upd_ne (ne_of z (s3 _ _ ep2) (fun z => by cases z))]; exact z
      refine ⟨p, ys2, .ref t, rfl, rfl, s3 _ _ ep2, Nat.lt_of_lt_of_le (show ys2.length < 300 by lia) (by decide), (sm2.trans s3).put hp0, ys2 ++ [.ref t], _, rfl, upd_same, ?_⟩
      have gt : (tellP ps)[k]? = some ⟨ps.getD 0 0, (k : Int), ps.getD (k + 1) 0⟩ := by
        unfold tellP
        rw [List.getElem?_map, List.getElem?_range hk]; rfl
      rw [List.take_add_one, gt, ← List.append_assoc]
      refine Paired.snoc (TlsT.put (TlsT.same hys2 s3) (s3 _ _ ep2)) ⟨t, pp, xk, rfl, SqT.of ?_, hp3, ((hnk.same sm2).same s3).put (s3 _ _ ep2)⟩
      rw [upd_ne tp, upd_same, Int.zero_add]
    · rintro σ H2 hR3
      refine anE2 hR3 fun sm2 hz25 => ?_
      refine exE2 hz25 fun ys2 z3' hz25' => ?_
      clear hz25
      refine anE3 hz25' fun hq24 ep2 hys2 => ?_
      clear hz25'
      obtain rfl := hq24
      try clear hR3
      refine ⟨sm2, ys2, _, _, rfl, ep2, ?_⟩
      have e : pss.take (i + 1) = pss.take i ++ [ps] := by rw [List.take_add_one, hps]; rfl
      rw [e, tell_snoc]
      have et : (tellP ps).take (ps.length - 1) = tellP ps := List.take_of_length_le (by rw [tellP_length]; exact Nat.le_refl _)
      rw [et] at hys2
      exact hys2
  · rintro σ H' hR4
    refine anE2 hR4 fun sm hz27 => ?_
    refine exE3 hz27 fun ys z2 z3 hz27' => ?_
    clear hz27
    refine anE3 hz27' fun hq26 ep hys => ?_
    clear hz27'
    obtain rfl := hq26
    try clear hR4
    rw [hxl, List.take_length] at hys
    exact ⟨_, rfl, q p H' ys sm hp0 ep hys⟩
theorem sc_is_whole : FnScope ["thing"] ["thing"] (defScope (top 13)) := ⟨rfl, rfl, rfl, by decide +kernel, rfl, by decide +kernel, by decide +kernel⟩
set_option maxHeartbeats 4000000 in
theorem ok_is_whole {f : Addr} {fd : FuncData} (F : Fun K "is_whole" "is_whole" (top 13) f fd) (b_isinstance : mg "isinstance" = none) (b_int : mg "int" = none) (b_bool : mg "bool" = none) (hT : P.given.tree = none) :
    FnOk P w K mg base CX0 33 f fd ["thing"] (spWhO K) := by
  refine F.ok sc_is_whole (fun vs H Q E h => ?_) (fun cdv A outer s H vs Q E hr h => ?_)
  · obtain ⟨_, _, rfl, _⟩ := h; rfl
  refine ⟨_, (pss_one (ps_ret (pe_and (pe_callB (isiK K) rfl b_isinstance bt_isinstance (pa_cons (pv 0) (pa_cons (pe_bltn (v := .ty "int") rfl b_int bt_int rfl) pa_nil))) (pe_one (pe_not (pe_callB (isiK K) rfl b_isinstance bt_isinstance (pa_cons (pv 0) (pa_cons (pe_bltn (v := .ty "bool") rfl b_bool bt_bool rfl) pa_nil)))))))), ?_⟩
  obtain ⟨x, b, rfl, wx, q⟩ := h
  cases wx with
  | int i => exact ⟨_, rfl, _, _, _, _, rfl, .of (.int i), kit_ii K, true, rfl, iteT ⟨_, rfl, _, _, _, _, rfl, .of (.int i), kit_ib K, false, rfl, q⟩⟩
  | bl y => exact ⟨_, rfl, _, _, _, _, rfl, .of (.bl y), kit_bi K, true, rfl, iteT ⟨_, rfl, _, _, _, _, rfl, .of (.bl y), kit_bb K, true, rfl, q⟩⟩
  | oth ty hk => exact ⟨_, rfl, _, _, _, _, rfl, ty, hk, false, rfl, iteF q⟩
theorem sc_common_measure : FnScope ["one", "other", "great", "small", "rest"] ["one", "other"] (defScope (top 14)) := ⟨rfl, rfl, rfl, by decide +kernel, rfl, by decide +kernel, by decide +kernel⟩
set_option maxHeartbeats 4000000 in
theorem ok_common_measure {f : Addr} {fd : FuncData} (F : Fun K "common_measure" "common_measure" (top 14) f fd) (b_abs : mg "abs" = none) (hT : P.given.tree = none) :
    FnOk P w K mg base CX0 33 f fd ["one", "other"] (spGcd) := by
  refine F.ok sc_common_measure (fun vs H Q E h => ?_) (fun cdv A outer s H vs Q E hr h => ?_)
  · obtain ⟨_, _, rfl, _⟩ := h; rfl
  refine ⟨_, (pss_consC (K := K) (ps_set (i := 2) sc_common_measure.nd rfl (Or.inl rfl) (pe_callB call_abs rfl b_abs bt_abs (pa_cons (pv 0) pa_nil)))
    (pss_consC (K := K) (ps_set (i := 3) sc_common_measure.nd rfl (Or.inl rfl) (pe_callB call_abs rfl b_abs bt_abs (pa_cons (pv 1) pa_nil)))
    (pss_consC (K := K) (ps_while PassesOwn.never (pt_cmpR op_ne (pv 3) pe_int (nomark _)) (pss_consC (K := K) (ps_set (i := 4) sc_common_measure.nd rfl (Or.inl rfl) (pe_op op_mod (pv 2) (pv 3)))
    (pss_consC (K := K) (ps_set (i := 2) sc_common_measure.nd rfl (Or.inl rfl) (pv 3))
    (pss_one (ps_set (i := 3) sc_common_measure.nd rfl (Or.inl rfl) (pv 4))) (by rfl)) (by rfl)))
    (pss_one (ps_ret (pv 2))) (by rfl)) (by rfl)) (by rfl)), ?_⟩
  obtain ⟨a, b, rfl, q⟩ := h
  refine ⟨_, rfl, a, rfl, ?_⟩
  refine ⟨_, rfl, b, rfl, ?_⟩
  refine while_by (L3 H a b fun H a b σ H' => H' = H ∧ ∃ (x y : Int) (r : Option V), σ = [some (.int a), some (.int b), some (.int x), some (.int y), r] ∧ 0 ≤ x ∧ 0 ≤ y ∧ Int.gcd x y = Int.gcd a b) (fun σ _ => mu 3 σ)
    ⟨rfl, _, _, none, rfl, ?_, ?_, ?_⟩ ?_ ?_
  · rw [Nm.abs_if]; exact Int.natCast_nonneg _
  · rw [Nm.abs_if]; exact Int.natCast_nonneg _
  · rw [Nm.abs_if, Nm.abs_if]; rfl
  · rintro σ H' hR1
    refine anE2 hR1 fun hq28 hz30 => ?_
    refine exE3 hz30 fun x y r hz30' => ?_
    clear hz30
    refine anE4 hz30' fun hq29 hx hy hg => ?_
    clear hz30'
    obtain rfl := hq28
    obtain rfl := hq29
    try clear hR1
    refine ⟨_, rfl, rfl, _, rfl, ?_⟩
    by_cases hy0 : y = 0
    · subst hy0
      refine iteFc (by rw [decide_eq_true rfl] <;> rfl) ⟨_, rfl, ?_⟩
      have e : (Int.gcd a b : Int) = x := by rw [← hg, Int.gcd_zero]; lia
      rw [e] at q
      exact q
    · refine iteTc (by rw [decide_eq_false (fun z => hy0 (V.int.inj z))] <;> rfl) ?_
      have hyp : 0 < y := by lia
      refine ⟨_, rfl, _, rfl, _, _, rfl, rfl, hyp, ?_⟩
      refine ⟨_, rfl, _, rfl, ⟨rfl, y, x % y, _, rfl, hy, Int.emod_nonneg _ hy0, ?_⟩, ?_⟩
      · rw [Nm.gcd_turn]; exact hg
      · show (x % y).toNat < y.toNat
        have := Int.emod_lt_of_pos x hyp
        lia
  · rintro σ H' Q1 Q2 hm hR2
    obtain ⟨v, e, s1, k, ek, q1⟩ := hR2
    try clear hR2
    exact ⟨v, e, s1, k, ek, hm _ _ q1⟩
theorem sc_is_number : FnScope ["thing"] ["thing"] (defScope (top 15)) := ⟨rfl, rfl, rfl, by decide +kernel, rfl, by decide +kernel, by decide +kernel⟩
set_option maxHeartbeats 4000000 in
theorem ok_is_number {f : Addr} {fd : FuncData} (F : Fun K "is_number" "is_number" (top 15) f fd) (F_is_whole : Fd P w K mg base 33 "is_whole" ["thing"] (spWhO K)) (F_common_measure : Fd P w K mg base 33 "common_measure" ["one", "other"] (spGcd)) (b_isinstance : mg "isinstance" = none) (b_tuple : mg "tuple" = none) (b_len : mg "len" = none) (hT : P.given.tree = none) :
    FnOk P w K mg base CX0 34 f fd ["thing"] (spNbO K) := by
  refine F.ok sc_is_number (fun vs H Q E h => ?_) (fun cdv A outer s H vs Q E hr h => ?_)
  · obtain ⟨_, _, rfl, _⟩ := h; rfl
  refine ⟨_, (pss_consC (K := K) (ps_ifC (K := K) (PW.pt (pw_or (pt_not (pt_val (pe_callB (isiK K) rfl b_isinstance bt_isinstance (pa_cons (pv 0) (pa_cons (pe_bltn (v := .ty "tuple") rfl b_tuple bt_tuple rfl) pa_nil))))) (pw_or1 (pt_cmpR op_ne (pe_callB (lenK K) rfl b_len bt_len (pa_cons (pv 0) pa_nil)) pe_int (nomark _))))) (pss_one (ps_ret pe_bl)) pss_nil (by rfl) (by rfl))
    (pss_consC (K := K) (ps_ifC (K := K) (PW.pt (pw_or (pt_not (pt_val (pe_fn F_is_whole hr rfl (pa_cons (pe_ix (ixT K) (pv 0) pe_int (fun u v => rfl)) pa_nil)))) (pw_or1 (pt_not (pt_val (pe_fn F_is_whole hr rfl (pa_cons (pe_ix (ixT K) (pv 0) pe_int (fun u v => rfl)) pa_nil))))))) (pss_one (ps_ret pe_bl)) pss_nil (by rfl) (by rfl))
    (pss_one (ps_ret (pe_and (pe_cmpR op_ge (pe_ix (ixT K) (pv 0) pe_int (fun u v => rfl)) pe_int (nomark _)) (pe_one (pe_cmpR op_eq (pe_fn F_common_measure hr rfl (pa_cons (pe_ix (ixT K) (pv 0) pe_int (fun u v => rfl)) (pa_cons (pe_ix (ixT K) (pv 0) pe_int (fun u v => rfl)) pa_nil))) pe_int (nomark _)))))) (by rfl)) (by rfl)), ?_⟩
  obtain ⟨x, b, rfl, nx, q⟩ := h
  cases nx with
  | no ty hk => exact ⟨_, rfl, _, _, _, _, rfl, ty, hk, false, rfl, iteT (iteT q)⟩
  | @len a xs ha hl =>
    refine ⟨_, rfl, _, _, _, _, rfl, .tup ha, kit_tt K, true, rfl, iteF ?_⟩
    refine ⟨_, rfl, a, xs, rfl, .inr ha, rfl, _, rfl, ?_⟩
    have hn : ¬ (V.int (xs.length : Int) = V.int 2) := fun z => hl (by have := V.int.inj z; lia)
    exact iteTc (by rw [decide_eq_false hn] <;> rfl) q
  | @one a p q' ha wp =>
    refine ⟨_, rfl, _, _, _, _, rfl, .tup ha, kit_tt K, true, rfl, iteF ?_⟩
    refine ⟨_, rfl, a, _, rfl, .inr ha, rfl, _, rfl, iteF ?_⟩
    refine ⟨_, rfl, a, _, _, _, rfl, rfl, ha, rfl, _, _, rfl, wp, _, rfl, iteT (iteT q)⟩
  | @two a i q' ha wq =>
    refine ⟨_, rfl, _, _, _, _, rfl, .tup ha, kit_tt K, true, rfl, iteF ?_⟩
    refine ⟨_, rfl, a, _, rfl, .inr ha, rfl, _, rfl, iteF ?_⟩
    refine ⟨_, rfl, a, _, _, _, rfl, rfl, ha, rfl, _, _, rfl, .int i, _, rfl, iteF ?_⟩
    refine ⟨_, rfl, a, _, _, _, rfl, rfl, ha, rfl, _, _, rfl, wq, _, rfl, iteT q⟩
  | @nums a i j _ ha e =>
    refine ⟨_, rfl, _, _, _, _, rfl, .tup ha, kit_tt K, true, rfl, iteF ?_⟩
    refine ⟨_, rfl, a, _, rfl, .inr ha, rfl, _, rfl, iteF ?_⟩
    refine ⟨_, rfl, a, _, _, _, rfl, rfl, ha, rfl, _, _, rfl, .int i, _, rfl, iteF ?_⟩
    refine ⟨_, rfl, a, _, _, _, rfl, rfl, ha, rfl, _, _, rfl, .int j, _, rfl, iteF ?_⟩
    refine ⟨_, rfl, a, _, _, _, rfl, rfl, ha, rfl, _, _, rfl, rfl, _, rfl, ?_⟩
    subst e
    by_cases hj : 1 ≤ j
    · rw [decide_eq_true hj] at q ⊢
      refine iteT ⟨_, rfl, a, _, _, _, rfl, rfl, ha, rfl, _, rfl, a, _, _, _, rfl, rfl, ha, rfl, _, _, rfl, rfl, ?_⟩
      have ev : decide (V.int (Int.gcd i j : Int) = V.int 1) = decide ((Int.gcd i j : Int) = 1) := by
        by_cases z : (Int.gcd i j : Int) = 1
        · rw [z]; rfl
        · rw [decide_eq_false z, decide_eq_false fun y => z (V.int.inj y)]
      rw [Bool.true_and] at q
      rw [ev]
      exact q
    · rw [decide_eq_false hj] at q ⊢
      exact iteF q
theorem sc_is_point : FnScope ["thing"] ["thing"] (defScope (top 18)) := ⟨rfl, rfl, rfl, by decide +kernel, rfl, by decide +kernel, by decide +kernel⟩
set_option maxHeartbeats 4000000 in
theorem ok_is_point {f : Addr} {fd : FuncData} (F : Fun K "is_point" "is_point" (top 18) f fd) (F_is_number : Fd P w K mg base 34 "is_number" ["thing"] (spNbO K)) (b_all : mg "all" = none) (b_isinstance : mg "isinstance" = none) (b_tuple : mg "tuple" = none) (b_len : mg "len" = none) (hT : P.given.tree = none) :
    FnOk P w K mg base CX0 35 f fd ["thing"] (spPbO K) := by
  refine F.ok sc_is_point (fun vs H Q E h => ?_) (fun cdv A outer s H vs Q E hr h => ?_)
  · obtain ⟨_, _, rfl, _⟩ := h; rfl
  refine ⟨_, (pss_consC (K := K) (ps_ifC (K := K) (PW.pt (pw_or (pt_not (pt_val (pe_callB (isiK K) rfl b_isinstance bt_isinstance (pa_cons (pv 0) (pa_cons (pe_bltn (v := .ty "tuple") rfl b_tuple bt_tuple rfl) pa_nil))))) (pw_or1 (pt_cmpR (notInS K) (pe_callB (lenK K) rfl b_len bt_len (pa_cons (pv 0) pa_nil)) (pe_tup (pa_cons pe_int (pa_cons pe_int pa_nil))) (by with_unfolding_all rfl))))) (pss_one (ps_ret pe_bl)) pss_nil (by rfl) (by rfl))
    (pss_one (ps_ret (pe_callB (allB K rfl) rfl b_all bt_all (pa_cons (pe_lc rfl (N := ["each"]) (nt := 1) (js := []) (CompOk.look (NX := ["thing"]) (sc := defScope (top 18)) rfl rfl (by decide +kernel)) (piT K (pv 0)) (fun u1 u2 u3 u4 u5 => (pg_name (i := 0) (show List.Nodup (["each"] : List Str) from by decide +kernel) rfl (Or.inl rfl))) (stays_name (by decide)) (fun u1 u2 u3 u4 u5 => pts_nil) (fun u1 u2 u3 u4 u5 => (pe_fn F_is_number hr rfl (pa_cons (pv 0) pa_nil)))) pa_nil)))) (by rfl)), ?_⟩
  obtain ⟨x, b, rfl, px, q⟩ := h
  have P2 : 2 ≤ sizeLine := by decide
  cases px with
  | no ty hk => exact ⟨_, rfl, _, _, _, _, rfl, ty, hk, false, rfl, iteT (iteT (q _ (Same.refl _)))⟩
  | @len a xs ha l2 l3 =>
    refine ⟨_, rfl, _, _, _, _, rfl, .tup ha, kit_tt K, true, rfl, iteF ?_⟩
    refine ⟨_, rfl, a, xs, rfl, .inr ha, P2, fun t ht => ?_⟩
    have s1 : Same H (upd H t (.tup [.int 2, .int 3])) := Same.new ht
    refine ⟨t, _, rfl, .inr (SqT.of upd_same), rfl, rfl, _, rfl, ?_⟩
    have hin : inV (V.int ((xs.length : Nat) : Int)) [.int 2, .int 3] = false := by
      show (((2 : Int) == ((xs.length : Nat) : Int)) || (((3 : Int) == ((xs.length : Nat) : Int)) || false)) = false
      have e2 : ((2 : Int) == ((xs.length : Nat) : Int)) = false := beq_eq_false_iff_ne.mpr (by lia)
      have e3 : ((3 : Int) == ((xs.length : Nat) : Int)) = false := beq_eq_false_iff_ne.mpr (by lia)
      rw [e2, e3]
      rfl
    rw [hin]
    exact iteT (q _ s1)
  | @all a xs bs ha h23 hb =>
    have hl := hb.length
    refine ⟨_, rfl, _, _, _, _, rfl, .tup ha, kit_tt K, true, rfl, iteF ?_⟩
    refine ⟨_, rfl, a, xs, rfl, .inr ha, P2, fun t ht => ?_⟩
    have s1 : Same H (upd H t (.tup [.int 2, .int 3])) := Same.new ht
    refine ⟨t, _, rfl, .inr (SqT.of upd_same), rfl, rfl, _, rfl, ?_⟩
    have hin : inV (V.int ((xs.length : Nat) : Int)) [.int 2, .int 3] = true := by
      rcases h23 with z | z
      · rw [z]; rfl
      · rw [z]; rfl
    rw [hin]
    refine iteF ?_
    generalize upd H t (.tup [.int 2, .int 3]) = H1 at s1 ⊢
    refine lc_of ⟨_, rfl, a, rfl, ⟨_, SqT.same ha s1⟩, ?_⟩
    refine lc_tup (xs := xs) (fun i zs H' => Same H1 H' ∧ zs = (bs.take i).map V.bl) ⟨Same.refl _, rfl⟩ (fun i zs H' hi p => ⟨SqT.same ha (s1.trans p.1), by rw [p.2, List.length_map, List.length_take]; lia⟩) (Nat.le_of_lt (small1000 (by lia))) ?_ ?_
    · rintro i x zs H' hx ⟨sm, rfl⟩
      obtain ⟨c, hc, hcn⟩ := (Paired.get hb hx)
      refine ⟨_, rfl, x, c, rfl, hcn.same (s1.trans sm), sm, ?_⟩
      rw [List.take_add_one, hc, List.map_append]
      rfl
    rintro zs H' ⟨sm, rfl⟩ p hp
    rw [hl, List.take_length]
    exact ⟨p, bs, rfl, SqL.of upd_same, q _ ((s1.trans sm).trans (Same.new hp))⟩
theorem sc_points_of : FnScope ["thing", "points"] ["thing"] (defScope (top 20)) := ⟨rfl, rfl, rfl, by decide +kernel, rfl, by decide +kernel, by decide +kernel⟩
set_option maxHeartbeats 4000000 in
theorem ok_points_of {f : Addr} {fd : FuncData} (F : Fun K "points_of" "points_of" (top 20) f fd) (F_are_unlike : Fd P w K mg base 33 "are_unlike" ["places"] (spUnlikeD K)) (F_told_in : Fd P w K mg base 33 "told_in" ["points"] (spToldT K)) (F_is_point : Fd P w K mg base 35 "is_point" ["thing"] (spPbO K)) (b_tuple : mg "tuple" = none) (b_all : mg "all" = none) (b_len : mg "len" = none) (b_isinstance : mg "isinstance" = none) (b_list : mg "list" = none) {t_MOST_TOLD : Tok} (c_MOST_TOLD : mg "MOST_TOLD" = some (.int 12 t_MOST_TOLD)) (hT : P.given.tree = none) :
    FnOk P w K mg base CX0 36 f fd ["thing"] (spPtsOf K) := by
  refine F.ok sc_points_of (fun vs H Q E h => ?_) (fun cdv A outer s H vs Q E hr h => ?_)
  · obtain ⟨_, _, _, _, rfl, _⟩ := h; rfl
  refine ⟨_, (pss_consC (K := K) (ps_ifC (K := K) (PW.pt (pw_or (pt_not (pt_val (pe_callB (isiTX K) rfl b_isinstance bt_isinstance (pa_cons (pv 0) (pa_cons (pe_tup (pa_cons (pe_bltn (v := .ty "list") rfl b_list bt_list rfl) (pa_cons (pe_bltn (v := .ty "tuple") rfl b_tuple bt_tuple rfl) pa_nil))) pa_nil))))) (pw_or1 (pt_cmpR op_eq (pe_callB (lenK K) rfl b_len bt_len (pa_cons (pv 0) pa_nil)) pe_int (nomark _))))) (pss_one ps_never) pss_nil (by rfl) (by rfl))
    (pss_consC (K := K) (ps_ifC (K := K) (pt_not (pt_val (pe_callB (allB K rfl) rfl b_all bt_all (pa_cons (pe_lc rfl (N := ["each"]) (nt := 1) (js := []) (CompOk.look (NX := ["thing", "points"]) (sc := defScope (top 20)) rfl rfl (by decide +kernel)) (piS K (pv 0)) (fun u1 u2 u3 u4 u5 => (pg_name (i := 0) (show List.Nodup (["each"] : List Str) from by decide +kernel) rfl (Or.inl rfl))) (stays_name (by decide)) (fun u1 u2 u3 u4 u5 => pts_nil) (fun u1 u2 u3 u4 u5 => (pe_fn F_is_point hr rfl (pa_cons (pv 0) pa_nil)))) pa_nil)))) (pss_one ps_never) pss_nil (by rfl) (by rfl))
    (pss_consC (K := K) (ps_ifC (K := K) (pt_not (pt_val (pe_fn F_are_unlike hr rfl (pa_cons (pe_lc rfl (N := ["point"]) (nt := 1) (js := []) (CompOk.look (NX := ["thing", "points"]) (sc := defScope (top 20)) rfl rfl (by decide +kernel)) (piS K (pv 0)) (fun u1 u2 u3 u4 u5 => (pg_name (i := 0) (show List.Nodup (["point"] : List Str) from by decide +kernel) rfl (Or.inl rfl))) (stays_name (by decide)) (fun u1 u2 u3 u4 u5 => pts_nil) (fun u1 u2 u3 u4 u5 => (pe_ix (ixT K) (pv 0) pe_int (fun u v => rfl)))) pa_nil)))) (pss_one ps_never) pss_nil (by rfl) (by rfl))
    (pss_consC (K := K) (ps_set (i := 1) sc_points_of.nd rfl (Or.inl rfl) (pe_callTy (tupleK K) rfl b_tuple bt_tuple (pa_cons (pv 0) pa_nil)))
    (pss_consC (K := K) (ps_ifC (K := K) (pt_cmpR op_gt (pe_callB (lenK K) rfl b_len bt_len (pa_cons (pe_fn F_told_in hr rfl (pa_cons (pv 1) pa_nil)) pa_nil)) (pe_glob (v := .int 12) rfl c_MOST_TOLD ⟨_, rfl⟩) (nomark _)) (pss_one ps_never) pss_nil (by rfl) (by rfl))
    (pss_one (ps_ret (pv 1))) (by rfl)) (by rfl)) (by rfl)) (by rfl)) (by rfl)), ?_⟩
  obtain ⟨b, r, xs, pss, rfl, hS, hp, h23, h1, hnd, h12, q⟩ := h
  have P2 : 2 ≤ sizeLine := by decide
  have hl := hp.length
  have hge := tell_ge h23
  refine ⟨_, rfl, P2, fun tp htp => ?_⟩
  have s1 : Same H (upd H tp (.tup [.ty "list", .ty "tuple"])) := Same.new htp
  have hS1 := Sq.same hS s1
  refine ⟨_, if b then .type "list" else .type "tuple", tp, [.ty "list", .ty "tuple"], [.type "list", .type "tuple"], true, rfl, ?_, upd_same, rfl, ?_, _, rfl, iteF ?_⟩
  · cases b
    · exact .tup hS1
    · exact .lst hS1
  · cases b
    · exact kitA_t K
    · exact kitA_l K
  generalize upd H tp (.tup [.ty "list", .ty "tuple"]) = H1 at s1 hS1 ⊢
  refine ⟨_, rfl, r, xs, rfl, Sq.len hS1, rfl, _, rfl, ?_⟩
  refine iteFc (by rw [decide_eq_false (show ¬ V.int ((xs.length : Nat) : Int) = V.int 0 from fun z => by have := V.int.inj z; lia)] <;> rfl) ?_
  have hp1 := PtsT.same hp s1
  refine lc_seq (b := b) (a := r) (xs := xs) rfl (fun i zs H' => Same H1 H' ∧ zs = List.replicate i (.bl true)) ⟨Same.refl _, rfl⟩ (fun i zs H' _ p => ⟨Sq.same hS1 p.1, by rw [p.2, List.length_replicate]⟩) (Nat.le_of_lt (small1000 (by lia))) ?_ ?_
  · rintro i x zs H' hx ⟨sm, rfl⟩
    obtain ⟨ps, hps, hpt⟩ := (Paired.get hp1 hx)
    refine ⟨_, rfl, x, true, rfl, Pb.of ((hpt.pt).same sm) (h23 ps (List.mem_of_getElem? hps)), fun H2 s2 => ⟨sm.trans s2, ?_⟩⟩
    rw [← List.replicate_succ']
  rintro zs H2 ⟨s2, rfl⟩ al hal
  have s3 := s2.trans (Same.new (o := .lst (List.replicate xs.length (.bl true))) hal)
  refine ⟨al, List.replicate xs.length true, rfl, SqL.of (by rw [List.map_replicate]; exact upd_same), _, rfl, ?_⟩
  refine iteFc (by rw [all_rep] <;> rfl) ?_
  generalize upd H2 al (.lst (List.replicate xs.length (.bl true))) = H3 at s3 ⊢
  have hS3 := Sq.same hS1 s3
  have hp3 := PtsT.same hp1 s3
  refine lc_seq (b := b) (a := r) (xs := xs) rfl (L2 H3 pss fun H3 pss i zs H' => H' = H3 ∧ zs.length = i ∧ NumsT H3 zs ((pss.take i).map fun ps => ps.getD 0 0)) ⟨rfl, rfl, .nil⟩ (fun i zs H' _ p => ⟨by rw [p.1]; exact hS3, p.2.1⟩) (Nat.le_of_lt (small1000 (by lia))) ?_ ?_
  · rintro i x zs H' hx ⟨rfl, hzl, hzs⟩
    obtain ⟨ps, hps, a, us, pp, rfl, hus, hun, hu0, hpp⟩ := (Paired.get hp3 hx)
    refine ⟨_, rfl, a, us, _, _, rfl, rfl, hus, atI_nat (j := 0) hu0, rfl, by simp [hzl], ?_⟩
    rw [List.take_add_one, hps, List.map_append]
    exact Paired.snoc hzs ⟨pp, rfl, hpp⟩
  rintro zs Hq ⟨hq, hzl, hzs⟩ pl hpl
  obtain rfl : H3 = Hq := hq.symm
  rw [hl, List.take_length] at hzs
  have s4 : Same H3 (upd H3 pl (.lst zs)) := Same.new hpl
  refine ⟨pl, zs, _, rfl, SqL.of upd_same, NumsT.same hzs s4, by rw [List.length_map]; lia, fun H5 s5 => ⟨_, rfl, iteFc (by rw [decide_eq_true hnd]; rfl) ?_⟩⟩
  have s35 := s4.trans s5
  have hS5 := Sq.same hS3 s35
  have hp5 := PtsT.same hp3 s35
  have s15 := (s1.trans s3).trans s35
  have fin : ∀ (t : Addr) (H6 : Hp), Same H5 H6 → SqT K H6 t xs → (b = false → t = r) → (tCons (tVar 1) tNil) [some (.ref r), some (.ref t)] H6 fun vs H7 => True := fun t H6 _ _ _ => ⟨_, rfl, trivial⟩
  clear fin
  refine ⟨_, rfl, r, xs, rfl, ?_⟩
  cases b
  · refine .inr ⟨hS5, ?_⟩
    have sR := Same.refl H5
    refine ⟨_, rfl, r, xs, pss, rfl, (show SqT K H5 r xs from hS5), PtsT.same hp5 sR, h23, by lia, fun tl H7 tys s7 htl etl htls => ?_⟩
    refine ⟨tl, tys, rfl, .inl (SqL.of etl), _, _, rfl, rfl, _, rfl, ?_⟩
    have htyl := htls.length
    refine iteFc (by rw [decide_eq_false (show ¬ ((12 : Int) < ((tys.length : Nat) : Int)) by lia)] <;> rfl) ⟨_, rfl, q r H7 ((s15.trans sR).trans s7) ((show SqT K H5 r xs from hS5).same s7) (fun _ => rfl)⟩
  · refine .inl ⟨hS5, fun t ht => ?_⟩
    have sT : Same H5 (upd H5 t (.tup xs)) := Same.new ht
    have eT : SqT K (upd H5 t (.tup xs)) t xs := SqT.of upd_same
    refine ⟨_, rfl, t, xs, pss, rfl, eT, PtsT.same hp5 sT, h23, by lia, fun tl H7 tys s7 htl etl htls => ?_⟩
    refine ⟨tl, tys, rfl, .inl (SqL.of etl), _, _, rfl, rfl, _, rfl, ?_⟩
    have htyl := htls.length
    refine iteFc (by rw [decide_eq_false (show ¬ ((12 : Int) < ((tys.length : Nat) : Int)) by lia)] <;> rfl) ⟨_, rfl, q t H7 ((s15.trans sT).trans s7) (eT.same s7) (fun z => by cases z)⟩
set_option maxHeartbeats 4000000 in
theorem okx_points_of {f : Addr} {fd : FuncData} (F : Fun K "points_of" "points_of" (top 20) f fd) {a_NoPoints a_TooMany : Addr} (k_NoPoints : XCls K "NoPoints" a_NoPoints) (k_TooMany : XCls K "TooMany" a_TooMany) (F_are_unlike : Fd P w K mg base 33 "are_unlike" ["places"] (spUnlikeD K)) (F_told_in : Fd P w K mg base 33 "told_in" ["points"] (spToldT K)) (F_is_point : Fd P w K mg base 35 "is_point" ["thing"] (spPbO K)) (b_tuple : mg "tuple" = none) (b_all : mg "all" = none) (b_len : mg "len" = none) (b_isinstance : mg "isinstance" = none) (b_list : mg "list" = none) {t_MOST_TOLD : Tok} (c_MOST_TOLD : mg "MOST_TOLD" = some (.int 12 t_MOST_TOLD)) (hT : P.given.tree = none) :
    FnOk P w K mg base (CX2 P w) 36 f fd ["thing"] (spPtsX K a_NoPoints a_TooMany) := by
  refine F.okY sc_points_of (fun vs H Q E h => ?_) (fun cdv A outer s H vs Q E hr h => ?_)
  · obtain ⟨_, rfl, _⟩ := h; rfl
  refine ⟨_, (pss_cons (ps_ifC (K := K) (PW.pt (pw_or (pt_not (pt_val (pe_callB (isiTX K) rfl b_isinstance bt_isinstance (pa_cons (pv 0) (pa_cons (pe_tup (pa_cons (pe_bltn (v := .ty "list") rfl b_list bt_list rfl) (pa_cons (pe_bltn (v := .ty "tuple") rfl b_tuple bt_tuple rfl) pa_nil))) pa_nil))))) (pw_or1 (pt_cmpR op_eq (pe_callB (lenK K) rfl b_len bt_len (pa_cons (pv 0) pa_nil)) pe_int (nomark _))))) (pss_one (ps_raise k_NoPoints rfl makes2 rfl (pa_cons pe_str pa_nil))) pss_nil (by rfl) (by rfl))
    (pss_cons (ps_ifC (K := K) (pt_not (pt_val (pe_callB (allB K rfl) rfl b_all bt_all (pa_cons (pe_lc rfl (N := ["each"]) (nt := 1) (js := []) (CompOk.look (NX := ["thing", "points"]) (sc := defScope (top 20)) rfl rfl (by decide +kernel)) (piS K (pv 0)) (fun u1 u2 u3 u4 u5 => (pg_name (i := 0) (show List.Nodup (["each"] : List Str) from by decide +kernel) rfl (Or.inl rfl))) (stays_name (by decide)) (fun u1 u2 u3 u4 u5 => pts_nil) (fun u1 u2 u3 u4 u5 => (pe_fn F_is_point hr rfl (pa_cons (pv 0) pa_nil)))) pa_nil)))) (pss_one (ps_raise k_NoPoints rfl makes2 rfl (pa_cons pe_str pa_nil))) pss_nil (by rfl) (by rfl))
    (pss_cons (ps_ifC (K := K) (pt_not (pt_val (pe_fn F_are_unlike hr rfl (pa_cons (pe_lc rfl (N := ["point"]) (nt := 1) (js := []) (CompOk.look (NX := ["thing", "points"]) (sc := defScope (top 20)) rfl rfl (by decide +kernel)) (piS K (pv 0)) (fun u1 u2 u3 u4 u5 => (pg_name (i := 0) (show List.Nodup (["point"] : List Str) from by decide +kernel) rfl (Or.inl rfl))) (stays_name (by decide)) (fun u1 u2 u3 u4 u5 => pts_nil) (fun u1 u2 u3 u4 u5 => (pe_ix (ixT K) (pv 0) pe_int (fun u v => rfl)))) pa_nil)))) (pss_one (ps_raise k_NoPoints rfl makes2 rfl (pa_cons pe_str pa_nil))) pss_nil (by rfl) (by rfl))
    (pss_cons (ps_set (i := 1) sc_points_of.nd rfl (Or.inl rfl) (pe_callTy (tupleK K) rfl b_tuple bt_tuple (pa_cons (pv 0) pa_nil)))
    (pss_cons (ps_ifC (K := K) (pt_cmpR op_gt (pe_callB (lenK K) rfl b_len bt_len (pa_cons (pe_fn F_told_in hr rfl (pa_cons (pv 1) pa_nil)) pa_nil)) (pe_glob (v := .int 12) rfl c_MOST_TOLD ⟨_, rfl⟩) (nomark _)) (pss_one (ps_raise k_TooMany rfl makes2 rfl (pa_cons pe_str pa_nil))) pss_nil (by rfl) (by rfl))
    pss_never))))), ?_⟩
  obtain ⟨x, rfl, hx⟩ := h
  have P1 : 1 ≤ sizeLine := by decide
  have P2 : 2 ≤ sizeLine := by decide
  rcases hx with ⟨bad, qE⟩ | ⟨many, qE⟩
  · cases bad with
    | no ty hk =>
      exact ⟨_, rfl, P2, fun tp htp => ⟨_, _, tp, [.ty "list", .ty "tuple"], [.type "list", .type "tuple"], false, rfl, TyP.same ty (Same.new htp), upd_same, rfl, hk, _, rfl, iteTc rfl (iteT ⟨P1, qE _ (Same.new htp)⟩)⟩⟩
    | @nil b r hS =>
      refine ⟨_, rfl, P2, fun tp htp => ?_⟩
      have s1 : Same H (upd H tp (.tup [.ty "list", .ty "tuple"])) := Same.new htp
      have hS1 := Sq.same hS s1
      refine ⟨_, if b then .type "list" else .type "tuple", tp, [.ty "list", .ty "tuple"], [.type "list", .type "tuple"], true, rfl, ?_, upd_same, rfl, ?_, _, rfl, iteFc rfl ?_⟩
      · cases b
        · exact .tup hS1
        · exact .lst hS1
      · cases b
        · exact kitA_t K
        · exact kitA_l K
      generalize upd H tp (.tup [.ty "list", .ty "tuple"]) = H1 at s1 hS1 ⊢
      refine ⟨_, rfl, r, _, rfl, Sq.len hS1, rfl, _, rfl, ?_⟩
      exact iteTc rfl ⟨P1, qE _ s1⟩
    | @pt b r xs bs hS hpb hb h17 =>
      have hne : xs.length ≠ 0 := fun z => by
        have h0 := hpb.length
        rw [z] at h0
        have : bs = [] := List.eq_nil_of_length_eq_zero h0.symm
        rw [this] at hb
        cases hb
      refine ⟨_, rfl, P2, fun tp htp => ?_⟩
      have s1 : Same H (upd H tp (.tup [.ty "list", .ty "tuple"])) := Same.new htp
      have hS1 := Sq.same hS s1
      refine ⟨_, if b then .type "list" else .type "tuple", tp, [.ty "list", .ty "tuple"], [.type "list", .type "tuple"], true, rfl, ?_, upd_same, rfl, ?_, _, rfl, iteFc rfl ?_⟩
      · cases b
        · exact .tup hS1
        · exact .lst hS1
      · cases b
        · exact kitA_t K
        · exact kitA_l K
      generalize upd H tp (.tup [.ty "list", .ty "tuple"]) = H1 at s1 hS1 ⊢
      refine ⟨_, rfl, r, _, rfl, Sq.len hS1, rfl, _, rfl, ?_⟩
      refine iteFc (decide_eq_false (fun z => by have := V.int.inj z; lia)) ?_
      have hpb1 := Paired.mapP hpb fun _ _ z => Pb.same z s1
      have hbl := hpb.length
      refine lc_seq (b := b) (a := r) (xs := xs) rfl (fun i zs H' => Same H1 H' ∧ zs = (bs.take i).map V.bl) ⟨Same.refl _, rfl⟩ (fun i zs H' hi p => ⟨Sq.same hS1 p.1, by rw [p.2, List.length_map, List.length_take]; lia⟩) (Nat.le_of_lt (small1000 (by lia))) ?_ ?_
      · rintro i x zs H' hx ⟨sm, rfl⟩
        obtain ⟨c, hc, hcn⟩ := Paired.get hpb1 hx
        refine ⟨_, rfl, x, c, rfl, Pb.same hcn sm, fun H2 s2 => ⟨sm.trans s2, ?_⟩⟩
        rw [List.take_add_one, hc, List.map_append]
        rfl
      rintro zs H2 ⟨s2, rfl⟩ al hal
      have e2 : bs.take xs.length = bs := by rw [hbl, List.take_length]
      rw [e2]
      refine ⟨al, bs, rfl, SqL.of upd_same, _, rfl, ?_⟩
      have s3 := s2.trans (Same.new (o := .lst (bs.map V.bl)) hal)
      generalize upd H2 al (.lst (bs.map V.bl)) = H3 at s3 ⊢
      exact iteTc (by rw [hb]; rfl) ⟨P1, qE _ (s1.trans s3)⟩
    | @twice b r xs pss hS hp h23 hnd h17 =>
      have hpb := pbs_of hp h23
      have hall := all_true pss.length
      have hxl := hp.length
      have hne : xs.length ≠ 0 := fun z => hnd (by
        have : pss = [] := List.eq_nil_of_length_eq_zero (by lia)
        rw [this]
        exact List.Pairwise.nil)
      generalize List.replicate pss.length true = bs at hpb hall
      refine ⟨_, rfl, P2, fun tp htp => ?_⟩
      have s1 : Same H (upd H tp (.tup [.ty "list", .ty "tuple"])) := Same.new htp
      have hS1 := Sq.same hS s1
      refine ⟨_, if b then .type "list" else .type "tuple", tp, [.ty "list", .ty "tuple"], [.type "list", .type "tuple"], true, rfl, ?_, upd_same, rfl, ?_, _, rfl, iteFc rfl ?_⟩
      · cases b
        · exact .tup hS1
        · exact .lst hS1
      · cases b
        · exact kitA_t K
        · exact kitA_l K
      generalize upd H tp (.tup [.ty "list", .ty "tuple"]) = H1 at s1 hS1 ⊢
      refine ⟨_, rfl, r, _, rfl, Sq.len hS1, rfl, _, rfl, ?_⟩
      refine iteFc (decide_eq_false (fun z => by have := V.int.inj z; lia)) ?_
      have hpb1 := Paired.mapP hpb fun _ _ z => Pb.same z s1
      have hbl := hpb.length
      refine lc_seq (b := b) (a := r) (xs := xs) rfl (fun i zs H' => Same H1 H' ∧ zs = (bs.take i).map V.bl) ⟨Same.refl _, rfl⟩ (fun i zs H' hi p => ⟨Sq.same hS1 p.1, by rw [p.2, List.length_map, List.length_take]; lia⟩) (Nat.le_of_lt (small1000 (by lia))) ?_ ?_
      · rintro i x zs H' hx ⟨sm, rfl⟩
        obtain ⟨c, hc, hcn⟩ := Paired.get hpb1 hx
        refine ⟨_, rfl, x, c, rfl, Pb.same hcn sm, fun H2 s2 => ⟨sm.trans s2, ?_⟩⟩
        rw [List.take_add_one, hc, List.map_append]
        rfl
      rintro zs H2 ⟨s2, rfl⟩ al hal
      have e2 : bs.take xs.length = bs := by rw [hbl, List.take_length]
      rw [e2]
      refine ⟨al, bs, rfl, SqL.of upd_same, _, rfl, ?_⟩
      have s3 := s2.trans (Same.new (o := .lst (bs.map V.bl)) hal)
      generalize upd H2 al (.lst (bs.map V.bl)) = H3 at s3 ⊢
      refine iteFc (by rw [hall]; rfl) ?_
      have hl := hp.length
      have hS3 := Sq.same hS1 s3
      have hp3 := PtsT.same hp (s1.trans s3)
      refine lc_seq (b := b) (a := r) (xs := xs) rfl (fun i zs H' => H' = H3 ∧ zs.length = i ∧ NumsT H3 zs ((pss.take i).map fun ps => ps.getD 0 0)) ⟨rfl, rfl, .nil⟩ (fun i zs H' _ p => ⟨by rw [p.1]; exact hS3, p.2.1⟩) (Nat.le_of_lt (small1000 (by lia))) ?_ ?_
      · rintro i x zs H' hx ⟨rfl, hzl, hzs⟩
        obtain ⟨ps, hps, a, us, pp, rfl, hus, hun, hu0, hpp⟩ := Paired.get hp3 hx
        refine ⟨_, rfl, a, us, _, _, rfl, rfl, hus, atI_nat (j := 0) hu0, rfl, by simp [hzl], ?_⟩
        rw [List.take_add_one, hps, List.map_append]
        exact Paired.snoc hzs ⟨pp, rfl, hpp⟩
      rintro zs Hq ⟨hq, hzl, hzs⟩ pl hpl
      obtain rfl : H3 = Hq := hq.symm
      rw [hl, List.take_length] at hzs
      have s4 : Same H3 (upd H3 pl (.lst zs)) := Same.new hpl
      refine ⟨pl, zs, _, rfl, SqL.of upd_same, NumsT.same hzs s4, by rw [List.length_map]; lia, fun H5 s5 => ⟨_, rfl, ?_⟩⟩
      have s15 := ((s1.trans s3).trans s4).trans s5
      exact iteTc (by rw [decide_eq_false hnd]; rfl) ⟨P1, qE _ s15⟩
  · obtain ⟨b, r, xs, pss, rfl, hS, hp, h23, h1, hnd, h12, h17⟩ := many
    have hpb := pbs_of hp h23
    have hall := all_true pss.length
    have hxl := hp.length
    have hne : xs.length ≠ 0 := by lia
    generalize List.replicate pss.length true = bs at hpb hall
    refine ⟨_, rfl, P2, fun tp htp => ?_⟩
    have s1 : Same H (upd H tp (.tup [.ty "list", .ty "tuple"])) := Same.new htp
    have hS1 := Sq.same hS s1
    refine ⟨_, if b then .type "list" else .type "tuple", tp, [.ty "list", .ty "tuple"], [.type "list", .type "tuple"], true, rfl, ?_, upd_same, rfl, ?_, _, rfl, iteFc rfl ?_⟩
    · cases b
      · exact .tup hS1
      · exact .lst hS1
    · cases b
      · exact kitA_t K
      · exact kitA_l K
    generalize upd H tp (.tup [.ty "list", .ty "tuple"]) = H1 at s1 hS1 ⊢
    refine ⟨_, rfl, r, _, rfl, Sq.len hS1, rfl, _, rfl, ?_⟩
    refine iteFc (decide_eq_false (fun z => by have := V.int.inj z; lia)) ?_
    have hpb1 := Paired.mapP hpb fun _ _ z => Pb.same z s1
    have hbl := hpb.length
    refine lc_seq (b := b) (a := r) (xs := xs) rfl (fun i zs H' => Same H1 H' ∧ zs = (bs.take i).map V.bl) ⟨Same.refl _, rfl⟩ (fun i zs H' hi p => ⟨Sq.same hS1 p.1, by rw [p.2, List.length_map, List.length_take]; lia⟩) (Nat.le_of_lt (small1000 (by lia))) ?_ ?_
    · rintro i x zs H' hx ⟨sm, rfl⟩
      obtain ⟨c, hc, hcn⟩ := Paired.get hpb1 hx
      refine ⟨_, rfl, x, c, rfl, Pb.same hcn sm, fun H2 s2 => ⟨sm.trans s2, ?_⟩⟩
      rw [List.take_add_one, hc, List.map_append]
      rfl
    rintro zs H2 ⟨s2, rfl⟩ al hal
    have e2 : bs.take xs.length = bs := by rw [hbl, List.take_length]
    rw [e2]
    refine ⟨al, bs, rfl, SqL.of upd_same, _, rfl, ?_⟩
    have s3 := s2.trans (Same.new (o := .lst (bs.map V.bl)) hal)
    generalize upd H2 al (.lst (bs.map V.bl)) = H3 at s3 ⊢
    refine iteFc (by rw [hall]; rfl) ?_
    have hl := hp.length
    have hS3 := Sq.same hS1 s3
    have hp3 := PtsT.same hp (s1.trans s3)
    refine lc_seq (b := b) (a := r) (xs := xs) rfl (fun i zs H' => H' = H3 ∧ zs.length = i ∧ NumsT H3 zs ((pss.take i).map fun ps => ps.getD 0 0)) ⟨rfl, rfl, .nil⟩ (fun i zs H' _ p => ⟨by rw [p.1]; exact hS3, p.2.1⟩) (Nat.le_of_lt (small1000 (by lia))) ?_ ?_
    · rintro i x zs H' hx ⟨rfl, hzl, hzs⟩
      obtain ⟨ps, hps, a, us, pp, rfl, hus, hun, hu0, hpp⟩ := Paired.get hp3 hx
      refine ⟨_, rfl, a, us, _, _, rfl, rfl, hus, atI_nat (j := 0) hu0, rfl, by simp [hzl], ?_⟩
      rw [List.take_add_one, hps, List.map_append]
      exact Paired.snoc hzs ⟨pp, rfl, hpp⟩
    rintro zs Hq ⟨hq, hzl, hzs⟩ pl hpl
    obtain rfl : H3 = Hq := hq.symm
    rw [hl, List.take_length] at hzs
    have s4 : Same H3 (upd H3 pl (.lst zs)) := Same.new hpl
    refine ⟨pl, zs, _, rfl, SqL.of upd_same, NumsT.same hzs s4, by rw [List.length_map]; lia, fun H5 s5 => ⟨_, rfl, ?_⟩⟩
    have s15 := ((s1.trans s3).trans s4).trans s5
    refine iteFc (by rw [decide_eq_true hnd]; rfl) ?_
    have hS5 := Sq.same hS s15
    have hp5 := PtsT.same hp s15
    refine ⟨_, rfl, r, xs, rfl, ?_⟩
    cases b
    · refine .inr ⟨hS5, ?_⟩
      refine ⟨_, rfl, r, xs, pss, rfl, hS5, hp5, h23, by lia, fun tl H7 tys s7 htl etl htls => ?_⟩
      have htyl := htls.length
      exact ⟨tl, tys, rfl, .inl (SqL.of etl), _, _, rfl, rfl, _, rfl, iteTc (decide_eq_true (by lia)) ⟨P1, qE _ (s15.trans s7)⟩⟩
    · refine .inl ⟨hS5, fun t ht => ?_⟩
      have sT : Same H5 (upd H5 t (.tup xs)) := Same.new ht
      refine ⟨_, rfl, t, xs, pss, rfl, SqT.of upd_same, PtsT.same hp5 sT, h23, by lia, fun tl H7 tys s7 htl etl htls => ?_⟩
      have htyl := htls.length
      exact ⟨tl, tys, rfl, .inl (SqL.of etl), _, _, rfl, rfl, _, rfl, iteTc (decide_eq_true (by lia)) ⟨P1, qE _ ((s15.trans sT).trans s7)⟩⟩
theorem sc__law_kind : FnScope ["_law_thing", "_law_caught", "e"] ["_law_thing"] (defScope (top 30)) := ⟨rfl, rfl, rfl, by decide +kernel, rfl, by decide +kernel, by decide +kernel⟩
set_option maxHeartbeats 4000000 in
theorem ok__law_kind {f : Addr} {fd : FuncData} (F : Fun K "_law_kind" "_law_kind" (top 30) f fd) {a_CurveError a_TooMany a_NoPoints a_NoPoint a_NoNumber a_NoCurve a_NoStretch a_TooDeep a_TooFew a_NoText a_NoRow : Addr} (c_CurveError : mg "CurveError" = some (.ref a_CurveError)) (c_TooMany : mg "TooMany" = some (.ref a_TooMany)) (c_NoPoints : mg "NoPoints" = some (.ref a_NoPoints)) (c_NoPoint : mg "NoPoint" = some (.ref a_NoPoint)) (c_NoNumber : mg "NoNumber" = some (.ref a_NoNumber)) (c_NoCurve : mg "NoCurve" = some (.ref a_NoCurve)) (c_NoStretch : mg "NoStretch" = some (.ref a_NoStretch)) (c_TooDeep : mg "TooDeep" = some (.ref a_TooDeep)) (c_TooFew : mg "TooFew" = some (.ref a_TooFew)) (c_NoText : mg "NoText" = some (.ref a_NoText)) (c_NoRow : mg "NoRow" = some (.ref a_NoRow)) (X_points_of : FdX P w K mg base 36 "points_of" ["thing"] (spPtsX K a_NoPoints a_TooMany)) (xm_NoPoints : PySem.W.exmOne K (.ref a_NoPoints) (.ref a_CurveError) = some true) (xr_NoPoints : RefK K a_NoPoints [a_TooMany, a_NoPoints, a_NoPoint, a_NoNumber, a_NoCurve, a_NoStretch, a_TooDeep, a_TooFew, a_NoText, a_NoRow] 1) (ka_NoPoints : PySem.W.kitAny K (.ref a_NoPoints) [.ref a_NoCurve, .ref a_NoNumber, .ref a_NoPoint, .ref a_NoRow, .ref a_NoStretch, .ref a_NoText, .ref a_TooDeep, .ref a_TooFew] = some false) (xm_TooMany : PySem.W.exmOne K (.ref a_TooMany) (.ref a_CurveError) = some true) (xr_TooMany : RefK K a_TooMany [a_TooMany, a_NoPoints, a_NoPoint, a_NoNumber, a_NoCurve, a_NoStretch, a_TooDeep, a_TooFew, a_NoText, a_NoRow] 0) (ka_TooMany : PySem.W.kitAny K (.ref a_TooMany) [.ref a_NoCurve, .ref a_NoNumber, .ref a_NoPoint, .ref a_NoRow, .ref a_NoStretch, .ref a_NoText, .ref a_TooDeep, .ref a_TooFew] = some false) (F_points_of : Fd P w K mg base 36 "points_of" ["thing"] (spPtsOf K)) (b_isinstance : mg "isinstance" = none) (b_ValueError : mg "ValueError" = none) (b_int : mg "int" = none) (hT : P.given.tree = none) :
    FnOk P w K mg base CX0 37 f fd ["_law_thing"] (spKind K) := by
  refine F.ok sc__law_kind (fun vs H Q E h => ?_) (fun cdv A outer s H vs Q E hr h => ?_)
  · obtain ⟨_, rfl, _⟩ := h; rfl
  refine ⟨_, (pss_consC (K := K) (ps_set (i := 1) sc__law_kind.nd rfl (Or.inl rfl) pe_non)
    (pss_consC (K := K) (ps_tryFd X_points_of hr rfl (pa_cons (pv 0) pa_nil) rfl c_CurveError sc__law_kind.nd (i := 2) rfl rfl rfl rfl (fun _ => (pss_one (ps_set (i := 1) sc__law_kind.nd rfl (Or.inl rfl) (pv 2)))))
    (pss_consC (K := K) (ps_ifC (K := K) (pt_val (pe_callB (isiX K) rfl b_isinstance bt_isinstance (pa_cons (pv 1) (pa_cons (pe_tup (pa_cons (pe_glob (v := .ref a_NoCurve) rfl c_NoCurve rfl) (pa_cons (pe_glob (v := .ref a_NoNumber) rfl c_NoNumber rfl) (pa_cons (pe_glob (v := .ref a_NoPoint) rfl c_NoPoint rfl) (pa_cons (pe_glob (v := .ref a_NoRow) rfl c_NoRow rfl) (pa_cons (pe_glob (v := .ref a_NoStretch) rfl c_NoStretch rfl) (pa_cons (pe_glob (v := .ref a_NoText) rfl c_NoText rfl) (pa_cons (pe_glob (v := .ref a_TooDeep) rfl c_TooDeep rfl) (pa_cons (pe_glob (v := .ref a_TooFew) rfl c_TooFew rfl) pa_nil))))))))) pa_nil)))) (pss_one (ps_ret pe_str)) pss_nil (by rfl) (by rfl))
    (pss_consC (K := K) (ps_ifC (K := K) (pt_not (pt_val (pe_callB (isiX K) rfl b_isinstance bt_isinstance (pa_cons (pv 1) (pa_cons (pe_bltn (v := .ty "ValueError") rfl b_ValueError bt_ValueError rfl) pa_nil))))) (pss_one (ps_ret pe_str)) pss_nil (by rfl) (by rfl))
    (pss_one (ps_ret (pe_ix (ixL K) (pe_lst (pa_cons pe_str (pa_cons pe_str (pa_cons pe_str (pa_cons pe_str pa_nil))))) (pe_op op_add (pe_callTy call_int1 rfl b_int bt_int (pa_cons (pe_callB (isiX K) rfl b_isinstance bt_isinstance (pa_cons (pv 1) (pa_cons (pe_glob (v := .ref a_NoPoints) rfl c_NoPoints rfl) pa_nil))) pa_nil)) (pe_op op_mulC pe_int (pe_callTy call_int1 rfl b_int bt_int (pa_cons (pe_callB (isiX K) rfl b_isinstance bt_isinstance (pa_cons (pv 1) (pa_cons (pe_glob (v := .ref a_TooMany) rfl c_TooMany rfl) pa_nil))) pa_nil)))) (fun u v => rfl)))) (by rfl)) (by rfl)) (by rfl)) (by rfl)), ?_⟩
  obtain ⟨x, rfl, h⟩ := h
  refine ⟨_, rfl, ?_⟩
  rcases h with ⟨hx, q⟩ | ⟨hx, q⟩
  · refine ⟨x, rfl, .inl ⟨hx, fun H0 s0 => ⟨xm_NoPoints, fun ea hea => ?_⟩⟩⟩
    have s1 : Same H (upd H0 ea (hoX ea (.ref a_NoPoints))) := s0.trans (Same.new hea)
    have ex : (upd H0 ea (hoX ea (.ref a_NoPoints))) ea = some (hoX ea (.ref a_NoPoints)) := upd_same
    generalize upd H0 ea (hoX ea (.ref a_NoPoints)) = H1 at s1 ex ⊢
    refine ⟨_, rfl, ?_⟩
    refine ⟨_, rfl, (by decide : 8 ≤ sizeLine), fun t ht => ?_⟩
    have s2 := s1.trans (Same.new (o := .tup [.ref a_NoCurve, .ref a_NoNumber, .ref a_NoPoint, .ref a_NoRow, .ref a_NoStretch, .ref a_NoText, .ref a_TooDeep, .ref a_TooFew]) ht)
    have ex2 := (Same.new (o := .tup [.ref a_NoCurve, .ref a_NoNumber, .ref a_NoPoint, .ref a_NoRow, .ref a_NoStretch, .ref a_NoText, .ref a_TooDeep, .ref a_TooFew]) ht) _ _ ex
    refine ⟨ea, a_NoPoints, false, ex2, xr_NoPoints.ty, .inr ⟨t, _, _, rfl, upd_same, rfl, ka_NoPoints⟩, _, rfl, iteF ?_⟩
    generalize upd H1 t (.tup [.ref a_NoCurve, .ref a_NoNumber, .ref a_NoPoint, .ref a_NoRow, .ref a_NoStretch, .ref a_NoText, .ref a_TooDeep, .ref a_TooFew]) = H2 at s2 ex2 ⊢
    refine ⟨_, rfl, ea, a_NoPoints, true, ex2, xr_NoPoints.ty, .inl ⟨_, _, rfl, rfl, xr_NoPoints.ve⟩, _, rfl, iteFc rfl ?_⟩
    refine ⟨(by decide : 4 ≤ sizeLine), fun l hl => ?_⟩
    have s3 := s2.trans (Same.new (o := .lst [.str "other", .str "none", .str "many", .str "both"]) hl)
    have ex3 := (Same.new (o := .lst [.str "other", .str "none", .str "many", .str "both"]) hl) _ _ ex2
    refine ⟨_, rfl, ea, a_NoPoints, _, ex3, xr_NoPoints.ty, .inl ⟨_, _, rfl, rfl, xr_NoPoints.of 1 _ rfl⟩, .inr ⟨_, rfl, _, rfl, ea, a_NoPoints, _, ex3, xr_NoPoints.ty, .inl ⟨_, _, rfl, rfl, xr_NoPoints.of 0 _ rfl⟩, .inr ⟨_, rfl, _, _, rfl, rfl, MulC.bd (m := 2) (n := 2) (by unfold Bd; decide) (by unfold Bd; decide), _, _, rfl, rfl, ?_⟩⟩⟩
    exact ⟨l, _, _, _, rfl, rfl, SqL.of upd_same, rfl, q _ s3⟩
  · refine ⟨x, rfl, .inr ⟨hx, fun H0 s0 => ⟨xm_TooMany, fun ea hea => ?_⟩⟩⟩
    have s1 : Same H (upd H0 ea (hoX ea (.ref a_TooMany))) := s0.trans (Same.new hea)
    have ex : (upd H0 ea (hoX ea (.ref a_TooMany))) ea = some (hoX ea (.ref a_TooMany)) := upd_same
    generalize upd H0 ea (hoX ea (.ref a_TooMany)) = H1 at s1 ex ⊢
    refine ⟨_, rfl, ?_⟩
    refine ⟨_, rfl, (by decide : 8 ≤ sizeLine), fun t ht => ?_⟩
    have s2 := s1.trans (Same.new (o := .tup [.ref a_NoCurve, .ref a_NoNumber, .ref a_NoPoint, .ref a_NoRow, .ref a_NoStretch, .ref a_NoText, .ref a_TooDeep, .ref a_TooFew]) ht)
    have ex2 := (Same.new (o := .tup [.ref a_NoCurve, .ref a_NoNumber, .ref a_NoPoint, .ref a_NoRow, .ref a_NoStretch, .ref a_NoText, .ref a_TooDeep, .ref a_TooFew]) ht) _ _ ex
    refine ⟨ea, a_TooMany, false, ex2, xr_TooMany.ty, .inr ⟨t, _, _, rfl, upd_same, rfl, ka_TooMany⟩, _, rfl, iteF ?_⟩
    generalize upd H1 t (.tup [.ref a_NoCurve, .ref a_NoNumber, .ref a_NoPoint, .ref a_NoRow, .ref a_NoStretch, .ref a_NoText, .ref a_TooDeep, .ref a_TooFew]) = H2 at s2 ex2 ⊢
    refine ⟨_, rfl, ea, a_TooMany, true, ex2, xr_TooMany.ty, .inl ⟨_, _, rfl, rfl, xr_TooMany.ve⟩, _, rfl, iteFc rfl ?_⟩
    refine ⟨(by decide : 4 ≤ sizeLine), fun l hl => ?_⟩
    have s3 := s2.trans (Same.new (o := .lst [.str "other", .str "none", .str "many", .str "both"]) hl)
    have ex3 := (Same.new (o := .lst [.str "other", .str "none", .str "many", .str "both"]) hl) _ _ ex2
    refine ⟨_, rfl, ea, a_TooMany, _, ex3, xr_TooMany.ty, .inl ⟨_, _, rfl, rfl, xr_TooMany.of 1 _ rfl⟩, .inr ⟨_, rfl, _, rfl, ea, a_TooMany, _, ex3, xr_TooMany.ty, .inl ⟨_, _, rfl, rfl, xr_TooMany.of 0 _ rfl⟩, .inr ⟨_, rfl, _, _, rfl, rfl, MulC.bd (m := 2) (n := 2) (by unfold Bd; decide) (by unfold Bd; decide), _, _, rfl, rfl, ?_⟩⟩⟩
    exact ⟨l, _, _, _, rfl, rfl, SqL.of upd_same, rfl, q _ s3⟩
theorem sc__law_spoilt : FnScope ["_law_pen_here", "_law_points_here", "_law_way", "_law_at", "_law_point", "_law_bad", "_law_spot", "_law_more"] ["_law_pen_here", "_law_points_here"] (defScope (top 32)) := ⟨rfl, rfl, rfl, by decide +kernel, rfl, by decide +kernel, by decide +kernel⟩
set_option maxHeartbeats 4000000 in
theorem ok__law_spoilt {f : Addr} {fd : FuncData} (F : Fun K "_law_spoilt" "_law_spoilt" (top 32) f fd) (F__law_draw : Fd P w K mg base 33 "_law_draw" ["_law_pen_here", "_law_many"] (spDraw)) (F__law_number : Fd P w K mg base 34 "_law_number" ["_law_pen_here"] (spNum 64)) (F__law_odd : Fd P w K mg base 34 "_law_odd" ["_law_pen_here"] (spOdd K)) (b_len : mg "len" = none) (b_list : mg "list" = none) (hT : P.given.tree = none) :
    FnOk P w K mg base CX0 35 f fd ["_law_pen_here", "_law_points_here"] (spSpoilt K) := by
  refine F.ok sc__law_spoilt (fun vs H Q E h => ?_) (fun cdv A outer s H vs Q E hr h => ?_)
  · obtain ⟨_, _, _, _, rfl, _⟩ := h; rfl
  refine ⟨_, (@pss_consC _ _ _ _ _ K _ (ps_set (i := 2) sc__law_spoilt.nd rfl (Or.inl rfl) (pe_fn F__law_draw hr rfl (pa_cons (pv 0) (pa_cons pe_int pa_nil))))
    (@pss_consC _ _ _ _ _ K _ (ps_set (i := 3) sc__law_spoilt.nd rfl (Or.inl rfl) (pe_fn F__law_draw hr rfl (pa_cons (pv 0) (pa_cons (pe_callB (lenK K) rfl b_len bt_len (pa_cons (pv 1) pa_nil)) pa_nil))))
    (@pss_consC _ _ _ _ _ K _ (ps_set (i := 4) sc__law_spoilt.nd rfl (Or.inl rfl) (pe_ix (ixT K) (pv 1) (pv 3) (fun u v => rfl)))
    (@pss_consC _ _ _ _ _ K _ (@ps_ifC _ _ _ _ _ _ _ _ K _ _ (pt_cmpR op_eq (pv 2) pe_int (nomark _)) (@pss_one _ _ _ (@ps_retk _ _ _ _ (pek_ix (ixL K) (pek_lst (pak_cons pek_non (pak_cons pek_int (pak_cons pek_str (pak_cons (pek pe_dnewK) (pak_cons pek_bl (pak_cons (pek_lst pak_nil) (pak_cons (pek_tup pak_nil) (pak_cons (pek (pe_disp (pps_cons pe_int (pv 1) pps_nil) rfl rfl (fun z => nomatch z) (by decide))) (pak_cons (pek (pe_ix (ixT K) (pe_ix (ixT K) (pv 4) pe_int (fun u v => rfl)) pe_int (fun u v => rfl))) pak_nil se_s) se_d) se_t) se_l) se_c) se_d) se_c) se_c) se_c)) (pek (pe_fn F__law_draw hr rfl (pa_cons (pv 0) (pa_cons pe_int pa_nil)))) (fun u v => rfl)))) pss_nil (by rfl) (by rfl))
    (@pss_consC _ _ _ _ _ K _ (@ps_ifC _ _ _ _ _ _ _ _ K _ _ (pt_cmpR op_eq (pv 2) pe_int (nomark _)) (@pss_consC _ _ _ _ _ K _ (@ps_setk _ _ _ _ 5 _ _ sc__law_spoilt.nd rfl (Or.inl rfl) (pek_ix (ixL K) (pek_lst (pak_cons (pek (pe_callTy (listK K) rfl b_list bt_list (pa_cons (pv 4) pa_nil))) (pak_cons (pek (pe_slice (slTA K) (pv 4) po_none (po_some pe_int))) (pak_cons (pek_tup pak_nil) (pak_cons pek_non (pak_cons (pek (pe_op (catTA K) (pe_op (catTA K) (pe_slice (slTA K) (pv 4) po_none (po_some pe_int)) (pe_slice (slTA K) (pv 4) po_none (po_some pe_int))) (pe_slice (slTA K) (pv 4) po_none (po_some pe_int)))) (pak_cons pek_int (pak_cons pek_str pak_nil se_c) se_c) se_b) se_c) se_t) se_s) se_f)) (pek (pe_fn F__law_draw hr rfl (pa_cons (pv 0) (pa_cons pe_int pa_nil)))) (fun u v => rfl)) (by rfl) (by first | exact .inl rfl | exact .inr rfl))
    (@pss_one _ _ _ (ps_ret (pe_op op_cat (pe_op op_cat (pe_callTy (listK K) rfl b_list bt_list (pa_cons (pe_slice (slTA K) (pv 1) po_none (po_some (pv 3))) pa_nil)) (pe_lst (pa_cons (pv 5) pa_nil))) (pe_callTy (listK K) rfl b_list bt_list (pa_cons (pe_slice (slTA K) (pv 1) (po_some (pe_op op_add (pv 3) pe_int)) po_none) pa_nil))))) (by rfl)) pss_nil (by rfl) (by rfl))
    (@pss_consC _ _ _ _ _ K _ (@ps_ifC _ _ _ _ _ _ _ _ K _ _ (pt_cmpR op_lt (pv 2) pe_int (nomark _)) (@pss_consC _ _ _ _ _ K _ (ps_set (i := 6) sc__law_spoilt.nd rfl (Or.inl rfl) (pe_fn F__law_draw hr rfl (pa_cons (pv 0) (pa_cons (pe_callB (lenK K) rfl b_len bt_len (pa_cons (pv 4) pa_nil)) pa_nil))))
    (@pss_consC _ _ _ _ _ K _ (ps_set (i := 5) sc__law_spoilt.nd rfl (Or.inl rfl) (pe_op (catTA K) (pe_op (catTA K) (pe_slice (slTA K) (pv 4) po_none (po_some (pv 6))) (pe_tup (pa_cons (pe_fn F__law_odd hr rfl (pa_cons (pv 0) pa_nil)) pa_nil))) (pe_slice (slTA K) (pv 4) (po_some (pe_op op_add (pv 6) pe_int)) po_none)))
    (@pss_one _ _ _ (ps_ret (pe_op op_cat (pe_op op_cat (pe_callTy (listK K) rfl b_list bt_list (pa_cons (pe_slice (slTA K) (pv 1) po_none (po_some (pv 3))) pa_nil)) (pe_lst (pa_cons (pv 5) pa_nil))) (pe_callTy (listK K) rfl b_list bt_list (pa_cons (pe_slice (slTA K) (pv 1) (po_some (pe_op op_add (pv 3) pe_int)) po_none) pa_nil))))) (by rfl)) (by rfl)) pss_nil (by rfl) (by rfl))
    (@pss_consC _ _ _ _ _ K _ (ps_set (i := 7) sc__law_spoilt.nd rfl (Or.inl rfl) (pe_ix (ixL K) (pe_lst (pa_cons (pe_tup (pa_cons (pe_ix (ixT K) (pv 4) pe_int (fun u v => rfl)) (pa_cons (pe_fn F__law_number hr rfl (pa_cons (pv 0) pa_nil)) pa_nil))) (pa_cons (pe_tup (pa_cons (pe_ix (ixT K) (pv 4) pe_int (fun u v => rfl)) (pa_cons (pe_fn F__law_number hr rfl (pa_cons (pv 0) pa_nil)) (pa_cons (pe_fn F__law_number hr rfl (pa_cons (pv 0) pa_nil)) pa_nil)))) pa_nil))) (pe_fn F__law_draw hr rfl (pa_cons (pv 0) (pa_cons pe_int pa_nil))) (fun u v => rfl)))
    (@pss_consC _ _ _ _ _ K _ (ps_set (i := 6) sc__law_spoilt.nd rfl (Or.inl rfl) (pe_fn F__law_draw hr rfl (pa_cons (pv 0) (pa_cons (pe_op op_add (pe_callB (lenK K) rfl b_len bt_len (pa_cons (pv 1) pa_nil)) pe_int) pa_nil))))
    (@pss_one _ _ _ (ps_ret (pe_op (catTA K) (pe_op (catTA K) (pe_slice (slTA K) (pv 1) po_none (po_some (pv 6))) (pe_tup (pa_cons (pv 7) pa_nil))) (pe_slice (slTA K) (pv 1) (po_some (pv 6)) po_none)))) (by rfl)) (by rfl)) (by rfl)) (by rfl)) (by rfl)) (by rfl)) (by rfl)) (by rfl)), ?_⟩
  obtain ⟨p, r, xs, pss, rfl, pn, hS, hp, h23, h1, h12, q⟩ := h
  have hl := hp.length
  have P0 : 0 ≤ sizeLine := by decide
  have P1 : 1 ≤ sizeLine := by decide
  have P2 : 2 ≤ sizeLine := by decide
  have P3 : 3 ≤ sizeLine := by decide
  have P7 : 7 ≤ sizeLine := by decide
  have P9 : 9 ≤ sizeLine := by decide
  refine ⟨_, rfl, p, 8, rfl, pn, by decide, by decide, fun w H1 w0 w8 o1 p1 => ?_⟩
  have hS1 := hS.mv pn (OnlyAt.mv o1)
  have hp1 := PtsT.mv hp pn (OnlyAt.mv o1)
  refine ⟨_, rfl, _, rfl, r, xs, rfl, .inr hS1, p, _, rfl, p1, by lia, by lia, fun a H2 a0 a1 o2 p2 => ?_⟩
  have hS2 := hS1.mv p1 (OnlyAt.mv o2)
  have hp2 := PtsT.mv hp1 p1 (OnlyAt.mv o2)
  obtain ⟨A, rfl⟩ : ∃ A : Nat, (A : Int) = a := ⟨a.toNat, by lia⟩
  have hA0 : A < xs.length := by lia
  have hx : xs[A]? = some xs[A] := List.getElem?_eq_getElem hA0
  obtain ⟨ps, hps, b, us, pp, hb, hus, hun, hu0, hpp⟩ := (Paired.get hp2 hx)
  rw [hb] at hx
  have hps23 := h23 ps (List.mem_of_getElem? hps)
  have hul := hun.length
  have M2 := (OnlyAt.mv o1).trans (OnlyAt.mv o2)
  clear hS1 hp1 o1 o2 p1 hS hp pn
  refine ⟨_, rfl, _, rfl, r, xs, _, _, rfl, rfl, hS2, atI_nat hx, ?_⟩
  clear hx hb
  refine ⟨_, rfl, rfl, _, rfl, ?_⟩
  by_cases hw : w = 0
  · refine iteTc (decide_eq_true (by rw [hw])) ?_
    have pk := p2
    have sB := Same.refl H2
    have hA : ∀ y ∈ ([] : List V), BadM K p H2 y := fun y hy => nomatch hy
    have hA := bm_snoc hA (x := .non) (fun _ _ => .no .non (kitA_n K))
    have hA := bm_snoc hA (x := .int 5) (fun _ _ => .no (.int 5) (kitA_i K))
    have hA := bm_snoc hA (x := .str "points") (fun _ _ => .no (.str "points") (kitA_s K))
    intro d1 e
    have sN : Same H2 (upd H2 d1 (.dK [])) := Same.new e
    have ne := Pen.ne' pk e
    have hA := bm_snoc (bads_same hA sN) (x := .ref d1) (fun H' m => .no (.dK (m _ _ ne upd_same)) (kitA_d K))
    have sB := sB.trans sN
    have pk := pk.sm sN
    generalize upd H2 d1 (.dK []) = D1 at hA sB pk ⊢
    clear sN ne
    have hA := bm_snoc hA (x := .bl true) (fun _ _ => .no (.bl true) (kitA_b K))
    refine ⟨P0, fun l1 e => ?_⟩
    have sN : Same D1 (upd D1 l1 (.lst [])) := Same.new e
    have ne := Pen.ne' pk e
    have hA := bm_snoc (bads_same hA sN) (x := .ref l1) (fun H' m => .nil (b := true) (SqL.of (m _ _ ne upd_same)))
    have sB := sB.trans sN
    have pk := pk.sm sN
    generalize upd D1 l1 (.lst []) = D2 at hA sB pk ⊢
    clear sN ne
    refine ⟨P0, fun t1 e => ?_⟩
    have sN : Same D2 (upd D2 t1 (.tup [])) := Same.new e
    have ne := Pen.ne' pk e
    have hA := bm_snoc (bads_same hA sN) (x := .ref t1) (fun H' m => .nil (b := false) (SqT.of (m _ _ ne upd_same)))
    have sB := sB.trans sN
    have pk := pk.sm sN
    generalize upd D2 t1 (.tup []) = D3 at hA sB pk ⊢
    clear sN ne
    intro d2 e
    refine ⟨_, rfl, upd_same, [(.inl 0, .ref r)], rfl, (by decide : 1 ≤ 15), ?_⟩
    have sN : Same D3 (upd (upd D3 d2 (.dK [])) d2 (.dK (mergeK [] [(.inl 0, .ref r)]))) := fun b o z => by
      have hne : b ≠ d2 := ne_of_none z e
      rw [upd_ne hne, upd_ne hne]; exact z
    have ne := Pen.ne' pk e
    have hA := bm_snoc (bads_same hA sN) (x := .ref d2) (fun H' m => .no (.dK (m _ _ ne upd_same)) (kitA_d K))
    have sB := sB.trans sN
    have pk := pk.sm sN
    generalize upd (upd D3 d2 (.dK [])) d2 (.dK (mergeK [] [(.inl 0, .ref r)])) = D4 at hA sB pk ⊢
    clear sN ne
    refine ⟨_, rfl, b, us, _, _, rfl, rfl, hus.same sB, atI_nat (j := 0) hu0, pp, _, _, _, rfl, rfl, SqT.of (sB _ _ hpp), rfl, ?_⟩
    have hA := bm_snoc hA (x := .int (ps.getD 0 0).num) (fun _ _ => .no (.int _) (kitA_i K))
    refine ⟨P9, fun l e => ?_⟩
    have sN := Same.new (o := .lst [.non, .int 5, .str "points", .ref d1, .bl true, .ref l1, .ref t1, .ref d2, .int (ps.getD 0 0).num]) e
    have ne := Pen.ne' pk e
    have ex : (upd D4 l (.lst [.non, .int 5, .str "points", .ref d1, .bl true, .ref l1, .ref t1, .ref d2, .int (ps.getD 0 0).num])) l = some (.lst [.non, .int 5, .str "points", .ref d1, .bl true, .ref l1, .ref t1, .ref d2, .int (ps.getD 0 0).num]) := upd_same
    have hA := bads_same hA sN
    have sB := sB.trans sN
    have pk := pk.sm sN
    generalize upd D4 l (.lst [.non, .int 5, .str "points", .ref d1, .bl true, .ref l1, .ref t1, .ref d2, .int (ps.getD 0 0).num]) = D5 at hA sB pk ex ⊢
    refine ⟨_, rfl, p, 9, rfl, pk, by decide, by decide, fun i H6 i0 i1 o6 p6 => ?_⟩
    obtain ⟨x, hx, hxm⟩ := (at_menuB (n := 9) hA rfl i0 i1)
    exact ⟨l, _, _, x, rfl, rfl, SqL.of ((OnlyAt.mv o6) _ _ ne ex), hx, q x H6 ((M2.trans fun b o _ z => sB b o z).trans (OnlyAt.mv o6)) p6 (hA x hxm _ (OnlyAt.mv o6))⟩
  · refine iteFc (decide_eq_false fun z => hw (V.int.inj z)) ?_
    refine ⟨_, rfl, rfl, _, rfl, ?_⟩
    by_cases hw1 : w = 1
    · refine iteTc (decide_eq_true (by rw [hw1])) ?_
      have pk := p2
      have sB := Same.refl H2
      have hA : ∀ y ∈ ([] : List V), PbM K p H2 y := fun y hy => nomatch hy
      refine ⟨_, rfl, b, us, rfl, .inr hus, fun l1 e => ?_⟩
      have sN : Same H2 (upd H2 l1 (.lst us)) := Same.new e
      have ne := Pen.ne' pk e
      have hA := bm_snoc (pbs_same hA sN) (x := .ref l1) (fun H' m => .no (.lst (SqL.of (m _ _ ne upd_same))) (kit_lt K))
      have sB := sB.trans sN
      have pk := pk.sm sN
      generalize upd H2 l1 (.lst us) = D1 at hA sB pk ⊢
      clear sN ne
      refine ⟨_, rfl, _, rfl, slice_to (v := 1) (hus.same sB) (by lia) fun t1 D2 sN ht1 => ?_⟩
      have pk1 := pk.sm sN
      have hA := bm_snoc (pbs_same hA sN) (x := .ref t1) (fun H' m => .len (SqT.mv ht1 pk1 m) (by rw [List.length_take]; lia) (by rw [List.length_take]; lia))
      have sB := sB.trans sN
      have pk := pk1
      clear sN pk1
      refine ⟨P0, fun t2 e => ?_⟩
      have sN : Same D2 (upd D2 t2 (.tup [])) := Same.new e
      have ne := Pen.ne' pk e
      have hA := bm_snoc (pbs_same hA sN) (x := .ref t2) (fun H' m => .len (xs := []) (SqT.of (m _ _ ne upd_same)) (show 0 ≠ 2 by decide) (show 0 ≠ 3 by decide))
      have sB := sB.trans sN
      have pk := pk.sm sN
      generalize upd D2 t2 (.tup []) = D3 at hA sB pk ⊢
      clear sN ne
      have hA := bm_snoc hA (x := .non) (fun _ _ => .no (.of .non) (kit_nt K))
      refine ⟨_, rfl, _, rfl, slice_to (v := 2) (hus.same sB) (by lia) fun c1 D4 s4 hc1 => ?_⟩
      refine ⟨_, rfl, _, rfl, slice_to (v := 1) (hus.same (sB.trans s4)) (by lia) fun c2 D5 s5 hc2 => ?_⟩
      refine cat_pts (hc1.same s5) hc2 (Nat.le_trans (show _ ≤ 30 by rw [List.length_take, List.length_take]; lia) (by decide)) fun c3 D6 s6 hc3 => ?_
      refine ⟨_, rfl, _, rfl, slice_to (v := 1) (hus.same (((sB.trans s4).trans s5).trans s6)) (by lia) fun c4 D7 s7 hc4 => ?_⟩
      refine cat_pts (hc3.same s7) hc4 (Nat.le_trans (show _ ≤ 30 by rw [List.length_append, List.length_take, List.length_take]; lia) (by decide)) fun c5 D8 s8 hc5 => ?_
      have sN := (((s4.trans s5).trans s6).trans s7).trans s8
      have pk8 := pk.sm sN
      have hA := bm_snoc (pbs_same hA sN) (x := .ref c5) (fun H' m => .len (SqT.mv hc5 pk8 m) (by rw [List.length_append, List.length_append, List.length_take, List.length_take]; lia) (by rw [List.length_append, List.length_append, List.length_take, List.length_take]; lia))
      have sB := sB.trans sN
      have pk := pk8
      clear sN pk8 s4 s5 s6 s7 s8 hc1 hc2 hc3 hc4 hc5
      have hA := bm_snoc hA (x := .int 3) (fun _ _ => .no (.of (.int 3)) (kit_it K))
      have hA := bm_snoc hA (x := .str "x") (fun _ _ => .no (.of (.str "x")) (kit_st K))
      refine ⟨P7, fun l e => ?_⟩
      have sN := Same.new (o := .lst [.ref l1, .ref t1, .ref t2, .non, .ref c5, .int 3, .str "x"]) e
      have ne := Pen.ne' pk e
      have ex : (upd D8 l (.lst [.ref l1, .ref t1, .ref t2, .non, .ref c5, .int 3, .str "x"])) l = some (.lst [.ref l1, .ref t1, .ref t2, .non, .ref c5, .int 3, .str "x"]) := upd_same
      have hA := pbs_same hA sN
      have sB := sB.trans sN
      have pk := pk.sm sN
      generalize upd D8 l (.lst [.ref l1, .ref t1, .ref t2, .non, .ref c5, .int 3, .str "x"]) = D9 at hA sB pk ex ⊢
      refine ⟨_, rfl, p, 7, rfl, pk, by decide, by decide, fun i HX i0 i1 o6 p6 => ?_⟩
      obtain ⟨x, hx, hxm⟩ := (at_menuB (n := 7) hA rfl i0 i1)
      refine ⟨l, _, _, x, rfl, rfl, SqL.of ((OnlyAt.mv o6) _ _ ne ex), hx, ?_⟩
      have hbad : Pb K HX x false := hA x hxm _ (OnlyAt.mv o6)
      have hSx := (hS2.same sB).mv pk (OnlyAt.mv o6)
      have hpx := PtsT.mv (PtsT.same hp2 sB) pk (OnlyAt.mv o6)
      have mB := (M2.trans fun b o _ z => sB b o z).trans (OnlyAt.mv o6)
      have pk := p6
      clear hA sN
      have hA1 : A + 1 ≤ xs.length := hA0
      refine ⟨_, rfl, _, rfl, _, rfl, slice_to hSx (Nat.le_of_lt hA0) fun pa Ha sa hpa => ⟨pa, _, rfl, .inr hpa, fun l1 e1 => ⟨_, rfl, P1, fun l2 e2 => ?_⟩⟩⟩
      have n1 := Same.new (o := .lst (xs.take A)) e1
      have n2 := Same.new (o := .lst [x]) e2
      refine ⟨l1, l2, _, _, rfl, rfl, n2 _ _ upd_same, upd_same, Nat.le_trans (show _ ≤ 30 by rw [List.length_take, List.length_singleton]; lia) (by decide), fun l3 e3 => ?_⟩
      have n3 := Same.new (o := .lst (xs.take A ++ [x])) e3
      have s3 := ((sa.trans n1).trans n2).trans n3
      have ex3 : (upd (upd (upd Ha l1 (.lst (xs.take A))) l2 (.lst [x])) l3 (.lst (xs.take A ++ [x]))) l3 = some (.lst (xs.take A ++ [x])) := upd_same
      generalize upd (upd (upd Ha l1 (.lst (xs.take A))) l2 (.lst [x])) l3 (.lst (xs.take A ++ [x])) = Hb at s3 ex3 ⊢
      refine ⟨_, rfl, _, rfl, _, _, rfl, rfl, _, rfl, slice_from (v := A + 1) (hSx.same s3) hA1 fun pb Hc sc hpb => ⟨pb, _, rfl, .inr hpb, fun l4 e4 => ?_⟩⟩
      have n4 := Same.new (o := .lst (xs.drop (A + 1))) e4
      refine ⟨l3, l4, _, _, rfl, rfl, n4 _ _ (sc _ _ ex3), upd_same, Nat.le_trans (show _ ≤ 30 by rw [List.length_append, List.length_take, List.length_singleton, List.length_drop]; lia) (by decide), fun l5 e5 => ?_⟩
      have n5 := Same.new (o := .lst (xs.take A ++ [x] ++ xs.drop (A + 1))) e5
      have s5 := ((s3.trans sc).trans n4).trans n5
      have hp5 := PtsT.same hpx s5
      refine q _ _ (mB.trans fun b o _ z => s5 b o z) (pk.sm s5) ?_
      exact bad_mid (b := true) (as := xs.take A) (bs := xs.drop (A + 1)) (SqL.of upd_same) (Paired.take A hp5) (paired_drop (A + 1) hp5) (fun ps h => h23 ps (List.mem_of_mem_take h)) (fun ps h => h23 ps (List.mem_of_mem_drop h)) (hbad.same s5) (by rw [List.length_take, List.length_drop]; lia)
    · refine iteFc (decide_eq_false fun z => hw1 (V.int.inj z)) ?_
      refine ⟨_, rfl, _, _, rfl, rfl, _, rfl, ?_⟩
      by_cases hw6 : w < 6
      · refine iteTc (by rw [decide_eq_true (show w < 6 from hw6)] <;> rfl) ?_
        refine ⟨_, rfl, _, rfl, b, us, rfl, .inr hus, p, _, rfl, p2, by lia, by lia, fun d H3 d0 d1 o3 p3 => ?_⟩
        have m3 := OnlyAt.mv o3
        have hus3 := hus.mv p2 m3
        have hun3 := Nums.mv hun p2 m3
        obtain ⟨D, rfl⟩ : ∃ D : Nat, (D : Int) = d := ⟨d.toNat, by lia⟩
        have hD : D < us.length := by lia
        refine ⟨_, rfl, _, rfl, _, rfl, slice_to hus3 (Nat.le_of_lt hD) fun pa H4 s4 hpa => ?_⟩
        have p4 := p3.sm s4
        refine ⟨_, rfl, p, rfl, p4, fun x H5 m5 p5 hxo => ⟨P1, fun t5 e5 => ?_⟩⟩
        have n5 := Same.new (o := .tup [x]) e5
        refine cat_pts ((hpa.mv p4 m5).same n5) (SqT.of upd_same) (Nat.le_trans (show _ ≤ 30 by rw [List.length_take, List.length_singleton]; lia) (by decide)) fun t6 H6 s6 ht6 => ?_
        have m6 : Mv p H2 H6 := (((m3.trans fun b o _ z => s4 b o z).trans m5).trans fun b o _ z => n5 b o z).trans fun b o _ z => s6 b o z
        refine ⟨_, rfl, _, rfl, _, _, rfl, rfl, _, rfl, slice_from (v := D + 1) (hus.mv p2 m6) hD fun t7 H7 s7 ht7 => ?_⟩
        refine cat_pts (ht6.same s7) ht7 (Nat.le_trans (show _ ≤ 30 by rw [List.length_append, List.length_take, List.length_singleton, List.length_drop]; lia) (by decide)) fun t8 HX s8 ht8 => ?_
        have s58 := ((n5.trans s6).trans s7).trans s8
        have m8 : Mv p H2 HX := (m6.trans fun b o _ z => s7 b o z).trans fun b o _ z => s8 b o z
        have hbad : Pb K HX (.ref t8) false := by
          have hun8 := Nb.all (Nums.mv hun p2 m8)
          have hb := Pb.all ht8 (by rw [List.length_append, List.length_append, List.length_take, List.length_singleton, List.length_drop]; lia) (Paired.append (Paired.append (Paired.take D hun8) (.cons (hxo.same s58).now .nil)) (paired_drop (D + 1) hun8))
          rw [List.all_append, List.all_append] at hb
          have e : ∀ b c : Bool, (b && [false].all id && c) = false := by decide
          rw [e] at hb
          exact hb
        have hSx := hS2.mv p2 m8
        have hpx := PtsT.mv hp2 p2 m8
        have mB := M2.trans m8
        have pk := p5.sm s58
        clear hxo hpa hus3 hun3
        have hA1 : A + 1 ≤ xs.length := hA0
        refine ⟨_, rfl, _, rfl, _, rfl, slice_to hSx (Nat.le_of_lt hA0) fun pa Ha sa hpa => ⟨pa, _, rfl, .inr hpa, fun l1 e1 => ⟨_, rfl, P1, fun l2 e2 => ?_⟩⟩⟩
        have n1 := Same.new (o := .lst (xs.take A)) e1
        have n2 := Same.new (o := .lst [.ref t8]) e2
        refine ⟨l1, l2, _, _, rfl, rfl, n2 _ _ upd_same, upd_same, Nat.le_trans (show _ ≤ 30 by rw [List.length_take, List.length_singleton]; lia) (by decide), fun l3 e3 => ?_⟩
        have n3 := Same.new (o := .lst (xs.take A ++ [.ref t8])) e3
        have s3 := ((sa.trans n1).trans n2).trans n3
        have ex3 : (upd (upd (upd Ha l1 (.lst (xs.take A))) l2 (.lst [.ref t8])) l3 (.lst (xs.take A ++ [.ref t8]))) l3 = some (.lst (xs.take A ++ [.ref t8])) := upd_same
        generalize upd (upd (upd Ha l1 (.lst (xs.take A))) l2 (.lst [.ref t8])) l3 (.lst (xs.take A ++ [.ref t8])) = Hb at s3 ex3 ⊢
        refine ⟨_, rfl, _, rfl, _, _, rfl, rfl, _, rfl, slice_from (v := A + 1) (hSx.same s3) hA1 fun pb Hc sc hpb => ⟨pb, _, rfl, .inr hpb, fun l4 e4 => ?_⟩⟩
        have n4 := Same.new (o := .lst (xs.drop (A + 1))) e4
        refine ⟨l3, l4, _, _, rfl, rfl, n4 _ _ (sc _ _ ex3), upd_same, Nat.le_trans (show _ ≤ 30 by rw [List.length_append, List.length_take, List.length_singleton, List.length_drop]; lia) (by decide), fun l5 e5 => ?_⟩
        have n5 := Same.new (o := .lst (xs.take A ++ [.ref t8] ++ xs.drop (A + 1))) e5
        have s5 := ((s3.trans sc).trans n4).trans n5
        have hp5 := PtsT.same hpx s5
        refine q _ _ (mB.trans fun b o _ z => s5 b o z) (pk.sm s5) ?_
        exact bad_mid (b := true) (as := xs.take A) (bs := xs.drop (A + 1)) (SqL.of upd_same) (Paired.take A hp5) (paired_drop (A + 1) hp5) (fun ps h => h23 ps (List.mem_of_mem_take h)) (fun ps h => h23 ps (List.mem_of_mem_drop h)) (hbad.same s5) (by rw [List.length_take, List.length_drop]; lia)
      · refine iteFc (by rw [decide_eq_false (show ¬ w < 6 from hw6)] <;> rfl) ?_
        have x0 : NumT H2 (.ref pp) (ps.getD 0 0) := ⟨pp, rfl, hpp⟩
        refine ⟨_, rfl, b, us, _, _, rfl, rfl, hus, atI_nat (j := 0) hu0, ?_⟩
        refine ⟨_, rfl, p, rfl, p2, fun y1 r1 H3 m3 p3 hr1 _ _ => ⟨P2, fun t1 e1 => ?_⟩⟩
        have n1 := Same.new (o := .tup [.ref pp, .ref r1]) e1
        have ex1 : (upd H3 t1 (.tup [.ref pp, .ref r1])) t1 = some (.tup [.ref pp, .ref r1]) := upd_same
        have m4 : Mv p H2 (upd H3 t1 (.tup [.ref pp, .ref r1])) := m3.trans fun b o _ z => n1 b o z
        have p4 := p3.sm n1
        have hr1 := n1 _ _ hr1
        generalize upd H3 t1 (.tup [.ref pp, .ref r1]) = H4 at n1 ex1 m4 p4 hr1 ⊢
        refine ⟨_, rfl, b, us, _, _, rfl, rfl, hus.mv p2 m4, atI_nat (j := 0) hu0, ?_⟩
        refine ⟨_, rfl, p, rfl, p4, fun y2 r2 H5 m5 p5 hr2 _ _ => ⟨_, rfl, p, rfl, p5, fun y3 r3 H6 m6 p6 hr3 _ _ => ⟨P3, fun t2 e2 => ⟨P2, fun l e3 => ?_⟩⟩⟩⟩
        have n2 := Same.new (o := .tup [.ref pp, .ref r2, .ref r3]) e2
        have n3 := Same.new (o := .lst [.ref t1, .ref t2]) e3
        have ne := Pen.ne' (p6.sm n2) e3
        have m45 := m5.trans m6
        have s67 := n2.trans n3
        have m47 : Mv p H4 (upd (upd H6 t2 (.tup [.ref pp, .ref r2, .ref r3])) l (.lst [.ref t1, .ref t2])) := m45.trans fun b o _ z => s67 b o z
        have p7 := p6.sm s67
        have ex2 := n3 _ _ (upd_same (H := H6) (a := t2) (o := .tup [.ref pp, .ref r2, .ref r3]))
        have ex3 : (upd (upd H6 t2 (.tup [.ref pp, .ref r2, .ref r3])) l (.lst [.ref t1, .ref t2])) l = some (.lst [.ref t1, .ref t2]) := upd_same
        have hr2 := s67 _ _ (m6 _ _ (p5.ne hr2 (nT_ne _)) hr2)
        have hr3 := s67 _ _ hr3
        generalize upd (upd H6 t2 (.tup [.ref pp, .ref r2, .ref r3])) l (.lst [.ref t1, .ref t2]) = H7 at m47 p7 ex2 ex3 hr2 hr3 ⊢
        have m27 := m4.trans m47
        have hr1 : NumT H7 (.ref r1) y1 := NumT.mv ⟨r1, rfl, hr1⟩ p4 m47
        have ht1 := SqT.mv (K := K) (SqT.of ex1) p4 m47
        have x7 := x0.mv p2 m27
        refine ⟨_, rfl, p, 2, rfl, p7, by decide, by decide, fun i H8 i0 i1 o8 p8 => ?_⟩
        have m8 := OnlyAt.mv o8
        have x8 := x7.mv p7 m8
        obtain ⟨t, qs, hat, hpt, hq2, hq0⟩ : ∃ t qs, atI [V.ref t1, .ref t2] i = some (.ref t) ∧ PtT K H8 (.ref t) qs ∧ (qs.length = 2 ∨ qs.length = 3) ∧ qs.getD 0 0 = ps.getD 0 0 := by
          obtain ⟨pr, hpr, hx8⟩ := x8
          rcases (show i = 0 ∨ i = 1 by lia) with rfl | rfl
          · exact ⟨t1, [ps.getD 0 0, y1], rfl, ⟨t1, _, pp, rfl, ht1.mv p7 m8, .cons (NumT.num (x7.mv p7 m8)) (.cons (NumT.num (hr1.mv p7 m8)) .nil), rfl, by cases hpr; exact hx8⟩, .inl rfl, rfl⟩
          · exact ⟨t2, [ps.getD 0 0, y2, y3], rfl, ⟨t2, _, pp, rfl, SqT.mv (SqT.of ex2) p7 m8, .cons (NumT.num (x7.mv p7 m8)) (.cons (NumT.num (NumT.mv ⟨r2, rfl, hr2⟩ p7 m8)) (.cons (NumT.num (NumT.mv ⟨r3, rfl, hr3⟩ p7 m8)) .nil)), rfl, by cases hpr; exact hx8⟩, .inr rfl, rfl⟩
        refine ⟨l, _, _, _, rfl, rfl, SqL.of (m8 _ _ ne ex3), hat, ?_⟩
        have m28 := m27.trans m8
        have hS8 := hS2.mv p2 m28
        have hp8 := PtsT.mv hp2 p2 m28
        refine ⟨_, rfl, _, rfl, r, xs, rfl, .inr hS8, _, _, rfl, rfl, p, _, rfl, p8, by lia, by lia, fun d H9 d0 d1 o9 p9 => ?_⟩
        have m9 := OnlyAt.mv o9
        obtain ⟨D, rfl⟩ : ∃ D : Nat, (D : Int) = d := ⟨d.toNat, by lia⟩
        have hD : D ≤ xs.length := by lia
        have hS9 := hS8.mv p8 m9
        have hp9 := PtsT.mv hp8 p8 m9
        have hpt9 := hpt.mv p8 m9
        refine ⟨_, rfl, _, rfl, _, rfl, slice_to hS9 hD fun pa Ha sa hpa => ⟨_, rfl, P1, fun tb eb => ?_⟩⟩
        have nb := Same.new (o := .tup [.ref t]) eb
        refine cat_pts (hpa.same nb) (SqT.of upd_same) (Nat.le_trans (show _ ≤ 30 by rw [List.length_take, List.length_singleton]; lia) (by decide)) fun tc Hc sc htc => ?_
        have sAc := (sa.trans nb).trans sc
        refine ⟨_, rfl, _, rfl, _, rfl, slice_from (hS9.same sAc) hD fun td Hd sd htd => ?_⟩
        refine cat_pts (htc.same sd) htd (Nat.le_trans (show _ ≤ 30 by rw [List.length_append, List.length_take, List.length_singleton, List.length_drop]; lia) (by decide)) fun te He se hte => ?_
        have sAe := (sAc.trans sd).trans se
        have hpe := PtsT.same hp9 sAe
        refine q _ _ (((M2.trans m28).trans m9).trans fun b o _ z => sAe b o z) (p9.sm sAe) ?_
        have hpD : D ≤ pss.length := by lia
        refine .twice (b := false) (pss := pss.take D ++ [qs] ++ pss.drop D) hte (Paired.append (Paired.append (Paired.take D hpe) (.cons (hpt9.same sAe) .nil)) (paired_drop D hpe)) (fun ys hy => ?_) ?_ (by rw [List.length_append, List.length_append, List.length_take, List.length_singleton, List.length_drop]; lia)
        · rcases List.mem_append.mp hy with z | z
          · rcases List.mem_append.mp z with z | z
            · exact h23 ys (List.mem_of_mem_take z)
            · rw [List.mem_singleton.mp z]; exact hq2
          · exact h23 ys (List.mem_of_mem_drop z)
        · intro hnd
          have pm : (pss.take D ++ [qs] ++ pss.drop D).Perm (qs :: pss) := by
            rw [List.append_assoc, List.singleton_append]
            have := List.perm_middle (a := qs) (l₁ := pss.take D) (l₂ := pss.drop D)
            rw [List.take_append_drop] at this
            exact this
          have hn2 := ((pm.map fun ps => ps.getD 0 0).nodup_iff).mp hnd
          rw [List.map_cons, List.nodup_cons, hq0] at hn2
          exact hn2.1 (List.mem_map_of_mem (List.mem_of_getElem? hps))
theorem sc_law : FnScope ["_law_script", "_law_k", "_law_pen_here", "_law_points_here", "_law_great", "_law_more", "_law_odd_here", "_law_at", "_law_bad"] ["_law_script"] (defScope (top 33)) := ⟨rfl, rfl, rfl, by decide +kernel, rfl, by decide +kernel, by decide +kernel⟩
set_option maxHeartbeats 4000000 in
theorem ok_law {f : Addr} {fd : FuncData} (F : Fun K "law" "law" (top 33) f fd) (F__law_pen : Fd P w K mg base 33 "_law_pen" ["_law_script", "_law_k"] (spPen K)) (F__law_points : Fd P w K mg base 36 "_law_points" ["_law_pen_here", "_law_most"] (spPointsT K 64)) (F__law_odd : Fd P w K mg base 34 "_law_odd" ["_law_pen_here"] (spOdd K)) (F__law_draw : Fd P w K mg base 33 "_law_draw" ["_law_pen_here", "_law_many"] (spDraw)) (F__law_kind : Fd P w K mg base 37 "_law_kind" ["_law_thing"] (spKind K)) (F_points_of : Fd P w K mg base 36 "points_of" ["thing"] (spPtsOf K)) (F__law_spoilt : Fd P w K mg base 35 "_law_spoilt" ["_law_pen_here", "_law_points_here"] (spSpoilt K)) (b_range : mg "range" = none) (b_len : mg "len" = none) (b_tuple : mg "tuple" = none) (b_list : mg "list" = none) (hT : P.given.tree = none) :
    FnOk P w K mg base CX0 38 f fd ["_law_script"] (spLaw K) := by
  refine F.ok sc_law (fun vs H Q E h => ?_) (fun cdv A outer s H vs Q E hr h => ?_)
  · obtain ⟨_, _, rfl, _⟩ := h; rfl
  refine ⟨_, (pss_consC (K := K) (ps_forC (K := K) PassesOwn.never rfl (pi_range1 rfl b_range (pa_cons pe_int pa_nil)) (pg_name (i := 1) sc_law.nd rfl (Or.inr rfl)) (pss_consC (K := K) (ps_set (i := 2) sc_law.nd rfl (Or.inl rfl) (pe_fn F__law_pen hr rfl (pa_cons (pv 0) (pa_cons (pv 1) pa_nil))))
    (pss_consC (K := K) (ps_set (i := 3) sc_law.nd rfl (Or.inl rfl) (pe_fn F__law_points hr rfl (pa_cons (pv 2) (pa_cons pe_int pa_nil))))
    (pss_consC (K := K) (ps_ifC (K := K) (PW.pt (pw_or (pt_cmpR (neD K hr.units) (pe_fn F_points_of hr rfl (pa_cons (pv 3) pa_nil)) (pv 3) (nomark _)) (pw_or1 (pt_cmpR op_ne (pe_fn F__law_kind hr rfl (pa_cons (pe_fn F__law_spoilt hr rfl (pa_cons (pv 2) (pa_cons (pv 3) pa_nil))) pa_nil)) pe_str (nomark _))))) (pss_one (ps_ret pe_bl)) pss_nil (by rfl) (by rfl))
    (pss_consC (K := K) (ps_lc (i := 4) rfl sc_law.nd rfl rfl (N := ["_law_x", "_law_k"]) (nt := 1) (js := [1]) (CompOk.look (NX := ["_law_script", "_law_k", "_law_pen_here", "_law_points_here", "_law_great", "_law_more", "_law_odd_here", "_law_at", "_law_bad"]) (sc := defScope (top 33)) rfl rfl (by decide +kernel)) (pi_range1 rfl b_range (pa_cons pe_int pa_nil)) (fun u1 u2 u3 u4 u5 => (pg_name (i := 0) (show List.Nodup (["_law_x", "_law_k"] : List Str) from by decide +kernel) rfl (Or.inl rfl))) (stays_name (by decide)) (fun u1 u2 u3 u4 u5 => pts_nil) (fun u1 u2 u3 u4 u5 => (pe_tup (pa_cons (pe_tup (pa_cons (pv 0) (pa_cons pe_int pa_nil))) (pa_cons (pe_tup (pa_cons (pv 1) (pa_cons pe_int pa_nil))) (pa_cons (pe_tup (pa_cons (pv 0) (pa_cons pe_int pa_nil))) pa_nil))))) rfl)
    (pss_consC (K := K) (ps_set (i := 5) sc_law.nd rfl (Or.inl rfl) (pe_op op_cat (pv 4) (pe_lc rfl (N := ["_law_x", "_law_k"]) (nt := 1) (js := [1]) (CompOk.look (NX := ["_law_script", "_law_k", "_law_pen_here", "_law_points_here", "_law_great", "_law_more", "_law_odd_here", "_law_at", "_law_bad"]) (sc := defScope (top 33)) rfl rfl (by decide +kernel)) (pi_range1 rfl b_range (pa_cons (pe_op op_add pe_int (pe_fn F__law_draw hr rfl (pa_cons (pv 2) (pa_cons pe_int pa_nil)))) pa_nil)) (fun u1 u2 u3 u4 u5 => (pg_name (i := 0) (show List.Nodup (["_law_x", "_law_k"] : List Str) from by decide +kernel) rfl (Or.inl rfl))) (stays_name (by decide)) (fun u1 u2 u3 u4 u5 => pts_nil) (fun u1 u2 u3 u4 u5 => (pe_tup (pa_cons (pe_tup (pa_cons (pe_op op_add pe_int (pv 0)) (pa_cons pe_int pa_nil))) (pa_cons (pe_tup (pa_cons (pv 1) (pa_cons pe_int pa_nil))) pa_nil)))))))
    (pss_consC (K := K) (ps_ifC (K := K) (PW.pt (pw_or (pt_cmpR op_ne (pe_fn F__law_kind hr rfl (pa_cons (pv 5) pa_nil)) pe_str (nomark _)) (pw_or1 (pt_cmpR op_ne (pe_fn F__law_kind hr rfl (pa_cons (pe_op op_cat (pv 5) (pe_slice (slL K) (pv 5) po_none (po_some pe_int))) pa_nil)) pe_str (nomark _))))) (pss_one (ps_ret pe_bl)) pss_nil (by rfl) (by rfl))
    (pss_consC (K := K) (ps_set (i := 6) sc_law.nd rfl (Or.inl rfl) (pe_fn F__law_odd hr rfl (pa_cons (pv 2) pa_nil)))
    (pss_consC (K := K) (ps_set (i := 7) sc_law.nd rfl (Or.inl rfl) (pe_fn F__law_draw hr rfl (pa_cons (pv 2) (pa_cons (pe_op op_add (pe_callB (lenK K) rfl b_len bt_len (pa_cons (pv 5) pa_nil)) pe_int) pa_nil))))
    (pss_consC (K := K) (ps_set (i := 8) sc_law.nd rfl (Or.inl rfl) (pe_ix (ixL K) (pe_lst (pa_cons (pe_tup (pa_cons (pe_tup (pa_cons pe_int (pa_cons pe_int pa_nil))) (pa_cons (pv 6) pa_nil))) (pa_cons (pe_tup (pa_cons (pv 6) (pa_cons (pe_tup (pa_cons pe_int (pa_cons pe_int pa_nil))) pa_nil))) pa_nil))) (pe_fn F__law_draw hr rfl (pa_cons (pv 2) (pa_cons pe_int pa_nil))) (fun u v => rfl)))
    (pss_consC (K := K) (ps_ifC (K := K) (pt_cmpR op_ne (pe_fn F__law_kind hr rfl (pa_cons (pe_op op_cat (pe_op op_cat (pe_slice (slL K) (pv 5) po_none (po_some (pv 7))) (pe_lst (pa_cons (pv 8) pa_nil))) (pe_slice (slL K) (pv 5) (po_some (pv 7)) po_none)) pa_nil)) pe_str (nomark _)) (pss_one (ps_ret pe_bl)) pss_nil (by rfl) (by rfl))
    (pss_one (ps_ifC (K := K) (PW.pt (pw_or (pt_cmpR (neD K hr.units) (pe_fn F_points_of hr rfl (pa_cons (pe_callTy (listK K) rfl b_list bt_list (pa_cons (pv 3) pa_nil)) pa_nil)) (pv 3) (nomark _)) (pw_or1 (pt_cmpR (neD K hr.units) (pe_fn F_points_of hr rfl (pa_cons (pv 4) pa_nil)) (pe_callTy (tupleK K) rfl b_tuple bt_tuple (pa_cons (pv 4) pa_nil)) (nomark _))))) (pss_one (ps_ret pe_bl)) pss_nil (by rfl) (by rfl))) (by rfl)) (by rfl)) (by rfl)) (by rfl)) (by rfl)) (by rfl)) (by rfl)) (by rfl)) (by rfl)) (by rfl)) (by rfl))
    (pss_one (ps_ret pe_bl)) (by rfl)), ?_⟩
  obtain ⟨a, ns, rfl, hS, h63, q⟩ := h
  have P1 : 1 ≤ sizeLine := by decide
  have P2 : 2 ≤ sizeLine := by decide
  have P3 : 3 ≤ sizeLine := by decide
  refine ⟨8, rfl, by decide, by decide, for_range (n := 8) (L3 K a ns fun K a ns _ σ H' => SqL K H' a (ns.map V.int) ∧ ∃ r1 r2 r3 r4 r5 r6 r7 r8, σ = [some (.ref a), r1, r2, r3, r4, r5, r6, r7, r8]) ⟨hS, none, none, none, none, none, none, none, none, rfl⟩ ?_ ?_⟩
  case refine_2 => exact fun σ H' _ => q H'
  clear hS
  rintro i σ H0 hi hR1
  refine anE2 hR1 fun hS0 hz36 => ?_
  refine exE8 hz36 fun r1 r2 r3 r4 r5 r6 r7 r8 hq35 => ?_
  clear hz36
  obtain rfl := hq35
  try clear hR1
  refine ⟨_, rfl, _, rfl, a, ns, 0 + (i : Int), rfl, hS0, h63, by lia, by lia, fun p c0 c1 hp => ?_⟩
  have pn : Pen (upd H0 p (.lst [.int c0, .int c1, .int 0])) p := .put
  have hSb : ∀ H', Mv p (upd H0 p (.lst [.int c0, .int c1, .int 0])) H' → SqL K H' a (ns.map V.int) := fun H' m => sq_mv hS0 hp m
  generalize upd H0 p (.lst [.int c0, .int c1, .int 0]) = H1 at pn hSb ⊢
  refine ⟨_, rfl, p, 12, rfl, pn, by decide, by decide, fun r H2 xs pss m2 p2 hS hp h23 hb h1 hle htl hnd => ?_⟩
  have hxl := hp.length
  clear hb
  refine ⟨_, rfl, false, r, xs, pss, rfl, hS, hp, h23, h1, hnd, by lia, fun f1 H3 s3 hf1 _ => ⟨_, rfl, ?_⟩⟩
  refine eqTT hf1 (PtsT.same hp s3).pts (hS.same s3) (PtsT.same hp s3).pts ?_
  refine ⟨_, rfl, iteFc (by rw [decide_eq_true rfl] <;> rfl) ?_⟩
  refine ⟨_, rfl, _, rfl, p, r, xs, pss, rfl, p2.sm s3, hS.same s3, PtsT.same hp s3, h23, h1, by lia, fun x H4 m4 p4 bad => ⟨x, rfl, .inl ⟨bad, fun H5 s5 => ⟨rfl, _, rfl, iteFc (by decide) ?_⟩⟩⟩⟩
  have M5 : Mv p H2 H5 := (s3.mv.trans m4).trans s5.mv
  have p5 := p4.sm s5
  have hS5 := hS.mv p2 M5
  have hp5 := PtsT.mv hp p2 M5
  have MM : Mv p H1 H5 := m2.trans M5
  clear hf1 bad M5 m4 s5 s3 hp hS m2 p2 p4
  refine lc_of ⟨6, rfl, by decide, by decide, ?_⟩
  refine lc_itr (n := 6) (L3 H5 K i fun H5 K i j zs G => Same H5 G ∧ zs.length = j ∧ PtsT K G zs ((List.range j).map (gP (0 + (i : Int))))) ⟨Same.refl _, rfl, .nil⟩ (fun j zs G _ h => h.2.1) (by decide) ?_ ?_
  · rintro j zs G hj ⟨sg, hzl, hzn⟩
    refine ⟨_, rfl, P2, fun t1 e1 => ⟨_, rfl, P2, fun t2 e2 => ⟨_, rfl, P2, fun t3 e3 => ⟨P3, fun t e => ?_⟩⟩⟩⟩
    obtain ⟨sn, hn⟩ := (three_pt (K := K) e1 e2 e3 e)
    refine ⟨sg.trans sn, by simp [hzl], ?_⟩
    rw [List.range_succ, List.map_append]
    exact Paired.snoc (PtsT.same hzn sn) hn
  rintro gs G ⟨sg, hgl, hgn⟩ gr hgr
  have hgr := hgr
  have nG := Same.new (o := .lst gs) hgr
  have s6 := sg.trans nG
  have eg : (upd G gr (.lst gs)) gr = some (.lst gs) := upd_same
  have hgn := PtsT.same hgn nG
  have p6 := p5.sm s6
  have grp : gr ≠ p := (p5.sm sg).ne' hgr
  generalize upd G gr (.lst gs) = H6 at s6 eg hgn p6 ⊢
  clear sg hgr nG
  have hgl6 : gs.length = 6 := hgl
  have hS6 := hS5.same s6
  have hp6 := PtsT.same hp5 s6
  have MM := MM.trans s6.mv
  clear s6 hS5 hp5 p5 hgl
  refine ⟨_, rfl, lc_of ⟨_, rfl, p, 9, rfl, p6, by decide, by decide, fun d H7 d0 d1 o7 p7 => ⟨_, _, rfl, rfl, _, rfl, by lia, by lia, ?_⟩⟩⟩
  have m7 := OnlyAt.mv o7
  have eg7 := m7 _ _ grp eg
  have hgn7 := PtsT.mv hgn p6 m7
  have hS7 := hS6.mv p6 m7
  have hp7 := PtsT.mv hp6 p6 m7
  have MM := MM.trans m7
  clear eg hgn hS6 hp6 m7 o7
  have hd : (1 + d).toNat ≤ 9 := by lia
  have hd1 : 1 ≤ (1 + d).toNat := by lia
  generalize (1 + d).toNat = n at hd hd1 ⊢
  refine lc_itr (L3 H7 K i fun H7 K i j zs G => Same H7 G ∧ zs.length = j ∧ PtsT K G zs ((List.range j).map (mP (0 + (i : Int))))) ⟨Same.refl _, rfl, .nil⟩ (fun j zs G _ h => h.2.1) (Nat.le_of_lt (small1000 (by lia))) ?_ ?_
  · rintro j zs G hj ⟨sg, hzl, hzn⟩
    refine ⟨_, rfl, _, _, rfl, rfl, P2, fun t1 e1 => ⟨_, rfl, P2, fun t2 e2 => ⟨P2, fun t e => ?_⟩⟩⟩
    obtain ⟨sn, hn⟩ := (two_pt (K := K) e1 e2 e)
    refine ⟨sg.trans sn, by simp [hzl], ?_⟩
    rw [List.range_succ, List.map_append]
    exact Paired.snoc (PtsT.same hzn sn) hn
  rintro zs G ⟨sg, hzl, hzn⟩ l1 hl1
  have n1 := Same.new (o := .lst zs) hl1
  refine ⟨gr, l1, gs, zs, rfl, rfl, n1 _ _ (sg _ _ eg7), upd_same, Nat.le_trans (show _ ≤ 30 by lia) (by decide), fun mo hmo => ?_⟩
  have n2 := Same.new (o := .lst (gs ++ zs)) hmo
  have s8 := (sg.trans n1).trans n2
  have em : (upd (upd G l1 (.lst zs)) mo (.lst (gs ++ zs))) mo = some (.lst (gs ++ zs)) := upd_same
  have mop : mo ≠ p := (p7.sm (sg.trans n1)).ne' hmo
  have hmn := Paired.append (PtsT.same hgn7 s8) (PtsT.same hzn (n1.trans n2))
  generalize upd (upd G l1 (.lst zs)) mo (.lst (gs ++ zs)) = H8 at s8 em hmn ⊢
  have hms : (gs ++ zs).length = 6 + n := by rw [List.length_append, hgl6, hzl]
  have hnd2 := gm_nd (0 + (i : Int)) n
  have h232 := gm_23 (0 + (i : Int)) n
  have htl2 := gm_tell (0 + (i : Int)) n
  have hml := hmn.length
  have eg8 := s8 _ _ eg7
  have hgn8 := PtsT.same hgn7 s8
  have hS8 := hS7.same s8
  have hp8 := PtsT.same hp7 s8
  have p8 := p7.sm s8
  have MM := MM.trans s8.mv
  clear n1 n2 sg hl1 hmo hzn eg7 hgn7 hS7 hp7 s8 p6 p7
  generalize gs ++ zs = ms at em hmn hms hml ⊢
  generalize (List.range 6).map (gP (0 + (i : Int))) ++ (List.range n).map (mP (0 + (i : Int))) = mss at hmn hnd2 h232 htl2 hml
  refine ⟨_, rfl, _, rfl, .inr ⟨⟨true, mo, ms, mss, rfl, SqL.of em, hmn, h232, by lia, hnd2, by lia, by lia⟩, fun H9 s9 => ⟨rfl, _, rfl, iteFc (by decide) ?_⟩⟩⟩
  have em9 := s9 _ _ em
  refine ⟨_, rfl, _, rfl, _, rfl, mo, ms, rfl, SqL.of em9, fun c hc => ?_⟩
  have n1 := Same.new (o := .lst (cutV ms none (some 1))) hc
  have e1 : cutV ms none (some 1) = ms.take 1 := cut_to ms 1
  rw [e1] at n1 ⊢
  refine ⟨mo, c, _, _, rfl, rfl, n1 _ _ em9, upd_same, Nat.le_trans (show _ ≤ 30 by rw [List.length_take]; lia) (by decide), fun l2 hl2 => ?_⟩
  have n2 := Same.new (o := .lst (ms ++ ms.take 1)) hl2
  have s11 := (s9.trans n1).trans n2
  have hm11 := PtsT.same hmn s11
  refine ⟨_, rfl, .inl ⟨.twice (b := true) (pss := mss ++ mss.take 1) (SqL.of upd_same) (Paired.append hm11 (Paired.take 1 hm11)) (fun ps h => ?_) (twice_first (by lia)) (by rw [List.length_append, List.length_take]; lia), fun H12 s12 => ⟨rfl, _, rfl, iteFc (by decide) ?_⟩⟩⟩
  · rcases List.mem_append.mp h with h | h
    · exact h232 ps h
    · exact h232 ps (List.mem_of_mem_take h)
  have s812 := s11.trans s12
  clear hm11 n1 n2 s11 s12 e1 em9 s9 hc hl2
  have p12 := p8.sm s812
  refine ⟨_, rfl, p, rfl, p12, fun od H13 m13 p13 hod => ?_⟩
  have M13 := s812.mv.trans m13
  have em13 := M13 _ _ mop em
  refine ⟨_, rfl, _, rfl, mo, ms, rfl, .inl (SqL.of em13), _, _, rfl, rfl, p, _, rfl, p13, by lia, by lia, fun d2 H14 d20 d21 o14 p14 => ?_⟩
  have hod := hod.mv (OnlyAt.mv o14)
  obtain ⟨D, rfl⟩ : ∃ D : Nat, (D : Int) = d2 := ⟨d2.toNat, by lia⟩
  have hD : D ≤ ms.length := by lia
  have M14 := M13.trans (OnlyAt.mv o14)
  clear em13 m13 M13 o14 p12 s812 p13
  refine ⟨P2, fun t1 e1 => ⟨_, rfl, P2, fun t2 e2 => ⟨_, rfl, P2, fun t3 e3 => ⟨P2, fun t4 e4 => ⟨P2, fun l3 e5 => ?_⟩⟩⟩⟩⟩
  have n1 := Same.new (o := .tup [.int 99, .int 1]) e1
  have n2 := Same.new (o := .tup [.ref t1, od]) e2
  have n3 := Same.new (o := .tup [.int 1, .int 1]) e3
  have n4 := Same.new (o := .tup [od, .ref t3]) e4
  have n5 := Same.new (o := .lst [.ref t2, .ref t4]) e5
  have s15 := (((n1.trans n2).trans n3).trans n4).trans n5
  have h1' := n5 _ _ (n4 _ _ (n3 _ _ (n2 _ _ (upd_same (H := H14) (a := t1) (o := .tup [.int 99, .int 1])))))
  have h2' := n5 _ _ (n4 _ _ (n3 _ _ (upd_same (H := upd H14 t1 (.tup [.int 99, .int 1])) (a := t2) (o := .tup [.ref t1, od]))))
  have h3' := n5 _ _ (n4 _ _ (upd_same (H := upd (upd H14 t1 (.tup [.int 99, .int 1])) t2 (.tup [.ref t1, od])) (a := t3) (o := .tup [.int 1, .int 1])))
  have h4' := n5 _ _ (upd_same (H := upd (upd (upd H14 t1 (.tup [.int 99, .int 1])) t2 (.tup [.ref t1, od])) t3 (.tup [.int 1, .int 1])) (a := t4) (o := .tup [od, .ref t3]))
  have h5' := upd_same (H := upd (upd (upd (upd H14 t1 (.tup [.int 99, .int 1])) t2 (.tup [.ref t1, od])) t3 (.tup [.int 1, .int 1])) t4 (.tup [od, .ref t3])) (a := l3) (o := .lst [.ref t2, .ref t4])
  have l3p : l3 ≠ p := (p14.sm (((n1.trans n2).trans n3).trans n4)).ne' e5
  generalize upd (upd (upd (upd (upd H14 t1 (.tup [.int 99, .int 1])) t2 (.tup [.ref t1, od])) t3 (.tup [.int 1, .int 1])) t4 (.tup [od, .ref t3])) l3 (.lst [.ref t2, .ref t4]) = H15 at s15 h1' h2' h3' h4' h5' ⊢
  clear n1 n2 n3 n4 n5 e1 e2 e3 e4 e5
  have p15 := p14.sm s15
  have hod := hod.same s15
  refine ⟨_, rfl, p, 2, rfl, p15, by decide, by decide, fun d3 H16 d30 d31 o16 p16 => ?_⟩
  have m16 := OnlyAt.mv o16
  have hod := hod.mv m16
  have hb2 : ∃ t, atI [V.ref t2, .ref t4] d3 = some (.ref t) ∧ Pb K H16 (.ref t) false := by
    have a1 : Nb K H16 (.ref t1) true := Nb.nums (SqT.mv (SqT.of h1') p15 m16) (by decide)
    have a3 : Nb K H16 (.ref t3) true := Nb.nums (SqT.mv (SqT.of h3') p15 m16) (by decide)
    rcases (show d3 = 0 ∨ d3 = 1 by lia) with rfl | rfl
    · exact ⟨t2, rfl, Pb.all (bs := [true, false]) (SqT.mv (SqT.of h2') p15 m16) (.inl rfl) (.cons a1 (.cons hod.now .nil))⟩
    · exact ⟨t4, rfl, Pb.all (bs := [false, true]) (SqT.mv (SqT.of h4') p15 m16) (.inl rfl) (.cons hod.now (.cons a3 .nil))⟩
  obtain ⟨bd, hat, hbd⟩ := hb2
  refine ⟨l3, _, _, _, rfl, rfl, SqL.of (m16 _ _ l3p h5'), hat, ?_⟩
  have M16 := (M14.trans s15.mv).trans m16
  clear hat h1' h2' h3' h4' h5' hod m16 o16 s15 M14 p15 p14
  have em16 := M16 _ _ mop em
  have hm16 := PtsT.mv hmn p8 M16
  refine ⟨_, rfl, _, rfl, _, rfl, mo, ms, rfl, SqL.of em16, fun c1 hc1 => ⟨_, rfl, P1, fun c2 hc2 => ?_⟩⟩
  have q1 : cutV ms none (some (D : Int)) = ms.take D := cut_to ms D
  rw [q1] at hc2 ⊢
  have n1 := Same.new (o := .lst (ms.take D)) hc1
  have n2 := Same.new (o := .lst [.ref bd]) hc2
  refine ⟨c1, c2, _, _, rfl, rfl, n2 _ _ upd_same, upd_same, Nat.le_trans (show _ ≤ 30 by rw [List.length_take, List.length_singleton]; lia) (by decide), fun c3 hc3 => ?_⟩
  have n3 := Same.new (o := .lst (ms.take D ++ [.ref bd])) hc3
  have s17 := (n1.trans n2).trans n3
  have ec3 := upd_same (H := upd (upd H16 c1 (.lst (ms.take D))) c2 (.lst [.ref bd])) (a := c3) (o := .lst (ms.take D ++ [.ref bd]))
  generalize upd (upd (upd H16 c1 (.lst (ms.take D))) c2 (.lst [.ref bd])) c3 (.lst (ms.take D ++ [.ref bd])) = H17 at s17 ec3 ⊢
  clear n1 n2 n3 hc1 hc2 hc3 q1
  refine ⟨_, rfl, _, rfl, _, rfl, mo, ms, rfl, SqL.of (s17 _ _ em16), fun c4 hc4 => ?_⟩
  have q2 : cutV ms (some (D : Int)) none = ms.drop D := cut_from ms D
  rw [q2]
  have n4 := Same.new (o := .lst (ms.drop D)) hc4
  refine ⟨c3, c4, _, _, rfl, rfl, n4 _ _ ec3, upd_same, Nat.le_trans (show _ ≤ 30 by rw [List.length_append, List.length_take, List.length_singleton, List.length_drop]; lia) (by decide), fun c5 hc5 => ?_⟩
  have n5 := Same.new (o := .lst (ms.take D ++ [.ref bd] ++ ms.drop D)) hc5
  have s18 := (s17.trans n4).trans n5
  have hm18 := PtsT.same hm16 s18
  refine ⟨_, rfl, .inl ⟨bad_mid (b := true) (as := ms.take D) (bs := ms.drop D) (SqL.of upd_same) (Paired.take D hm18) (paired_drop D hm18) (fun ps h => h232 ps (List.mem_of_mem_take h)) (fun ps h => h232 ps (List.mem_of_mem_drop h)) (hbd.same s18) (by rw [List.length_take, List.length_drop]; lia), fun H19 s19 => ⟨rfl, _, rfl, iteFc (by decide) ?_⟩⟩⟩
  have M19 := M16.trans (s18.trans s19).mv
  clear s18 s19 n4 n5 hm18 hc4 hc5 q2 s17 ec3 hm16 em16 M16 hbd p16
  have hS19 := hS8.mv p8 M19
  have hp19 := PtsT.mv hp8 p8 M19
  have eg19 := M19 _ _ grp eg8
  have hg19 := PtsT.mv hgn8 p8 M19
  have MM := MM.trans M19
  refine ⟨_, rfl, r, xs, rfl, .inr hS19, fun l4 hl4 => ?_⟩
  have n4 := Same.new (o := .lst xs) hl4
  refine ⟨true, l4, xs, pss, rfl, SqL.of upd_same, PtsT.same hp19 n4, h23, h1, hnd, by lia, fun f3 H20 s20 hf3 _ => ⟨_, rfl, ?_⟩⟩
  have s1920 := n4.trans s20
  refine eqTT hf3 (PtsT.same hp19 s1920).pts (hS19.same s1920) (PtsT.same hp19 s1920).pts ?_
  refine ⟨_, rfl, iteFc (by rw [decide_eq_true rfl] <;> rfl) ?_⟩
  have hg20 := PtsT.same hg19 s1920
  refine ⟨_, rfl, true, gr, gs, _, rfl, SqL.of (s1920 _ _ eg19), hg20, g_23 _, (by rw [List.length_map]; decide), g_nd _, (by rw [g_tell]; decide), fun f4 H21 s21 hf4 _ => ?_⟩
  refine ⟨_, rfl, gr, gs, rfl, .inl ⟨SqL.of (s21 _ _ (s1920 _ _ eg19)), fun tu htu => ?_⟩⟩
  have n5 := Same.new (o := .tup gs) htu
  have hg22 := PtsT.same hg20 (s21.trans n5)
  refine eqTT (hf4.same n5) hg22.pts (SqT.of upd_same) hg22.pts ?_
  exact ⟨_, rfl, iteFc (by rw [decide_eq_true rfl] <;> rfl) ⟨hSb _ (MM.trans ((s1920.trans s21).trans n5).mv), _, _, _, _, _, _, _, _, rfl⟩⟩
end
set_option maxHeartbeats 4000000 in
theorem all_mk {l : PySem.W.OpenLaw} {w : World} {K : PySem.W.Frag} {h : Heap} {mg : Str → Option Value} {fa f1 f2 f3 f4 f5 f6 f7 f8 f9 f10 f11 f12 f13 f14 f15 f16 f17 f18 : Addr} (hT : l.prog.given.tree = none) (X : K.In h) (G : h.Ns mainGlobals mg) (hfa : mg "law" = some (.ref fa))
    {od1 an1 od2 an2 od3 an3 od4 an4 od5 an5 od6 an6 od7 an7 od8 an8 od9 an9 od10 an10 od11 an11 od12 an12 od13 an13 od14 an14 od15 an15 od16 an16 od17 an17 od18 an18 : Option Addr} {sl1 sl2 sl3 sl4 sl5 sl6 sl7 sl8 sl9 sl10 sl11 sl12 sl13 sl14 sl15 sl16 sl17 sl18 : Array (Option Value)} {oc1 kV1 dc1 pm1 cd1 ct1 oc2 kV2 dc2 pm2 cd2 ct2 oc3 kV3 dc3 pm3 cd3 ct3 oc4 kV4 dc4 pm4 cd4 ct4 oc5 kV5 dc5 pm5 cd5 ct5 oc6 kV6 dc6 pm6 cd6 ct6 oc7 kV7 dc7 pm7 cd7 ct7 oc8 kV8 dc8 pm8 cd8 ct8 oc9 kV9 dc9 pm9 cd9 ct9 oc10 kV10 dc10 pm10 cd10 ct10 oc11 kV11 dc11 pm11 cd11 ct11 oc12 kV12 dc12 pm12 cd12 ct12 oc13 kV13 dc13 pm13 cd13 ct13 oc14 kV14 dc14 pm14 cd14 ct14 oc15 kV15 dc15 pm15 cd15 ct15 oc16 kV16 dc16 pm16 cd16 ct16 oc17 kV17 dc17 pm17 cd17 ct17 oc18 kV18 dc18 pm18 cd18 ct18 : Value}
    (a1 : PySem.W.nsIn K mainGlobals "_law_pen" = some (some (.ref f1))) (l1 : K.lookup f1 = some ⟨oc1, od1, .func (PySem.W.fnOf "_law_pen" "_law_pen" (defArgs (top 23)) (defBody (top 23)) (defScope (top 23)) .none kV1 dc1 pm1 an1 cd1 ct1), sl1⟩) (c1 : PySem.W.codeIn K cd1 "_law_pen" = true) (k1 : PySem.W.keepIn K (.ref f1) = true)
    (a2 : PySem.W.nsIn K mainGlobals "_law_draw" = some (some (.ref f2))) (l2 : K.lookup f2 = some ⟨oc2, od2, .func (PySem.W.fnOf "_law_draw" "_law_draw" (defArgs (top 24)) (defBody (top 24)) (defScope (top 24)) .none kV2 dc2 pm2 an2 cd2 ct2), sl2⟩) (c2 : PySem.W.codeIn K cd2 "_law_draw" = true) (k2 : PySem.W.keepIn K (.ref f2) = true)
    (a3 : PySem.W.nsIn K mainGlobals "_law_lowest" = some (some (.ref f3))) (l3 : K.lookup f3 = some ⟨oc3, od3, .func (PySem.W.fnOf "_law_lowest" "_law_lowest" (defArgs (top 25)) (defBody (top 25)) (defScope (top 25)) .none kV3 dc3 pm3 an3 cd3 ct3), sl3⟩) (c3 : PySem.W.codeIn K cd3 "_law_lowest" = true) (k3 : PySem.W.keepIn K (.ref f3) = true)
    (a4 : PySem.W.nsIn K mainGlobals "_law_number" = some (some (.ref f4))) (l4 : K.lookup f4 = some ⟨oc4, od4, .func (PySem.W.fnOf "_law_number" "_law_number" (defArgs (top 27)) (defBody (top 27)) (defScope (top 27)) .none kV4 dc4 pm4 an4 cd4 ct4), sl4⟩) (c4 : PySem.W.codeIn K cd4 "_law_number" = true) (k4 : PySem.W.keepIn K (.ref f4) = true)
    (a5 : PySem.W.nsIn K mainGlobals "_law_plus" = some (some (.ref f5))) (l5 : K.lookup f5 = some ⟨oc5, od5, .func (PySem.W.fnOf "_law_plus" "_law_plus" (defArgs (top 26)) (defBody (top 26)) (defScope (top 26)) .none kV5 dc5 pm5 an5 cd5 ct5), sl5⟩) (c5 : PySem.W.codeIn K cd5 "_law_plus" = true) (k5 : PySem.W.keepIn K (.ref f5) = true)
    (a6 : PySem.W.nsIn K mainGlobals "_law_places" = some (some (.ref f6))) (l6 : K.lookup f6 = some ⟨oc6, od6, .func (PySem.W.fnOf "_law_places" "_law_places" (defArgs (top 28)) (defBody (top 28)) (defScope (top 28)) .none kV6 dc6 pm6 an6 cd6 ct6), sl6⟩) (c6 : PySem.W.codeIn K cd6 "_law_places" = true) (k6 : PySem.W.keepIn K (.ref f6) = true)
    (a7 : PySem.W.nsIn K mainGlobals "_law_points" = some (some (.ref f7))) (l7 : K.lookup f7 = some ⟨oc7, od7, .func (PySem.W.fnOf "_law_points" "_law_points" (defArgs (top 29)) (defBody (top 29)) (defScope (top 29)) .none kV7 dc7 pm7 an7 cd7 ct7), sl7⟩) (c7 : PySem.W.codeIn K cd7 "_law_points" = true) (k7 : PySem.W.keepIn K (.ref f7) = true)
    (a8 : PySem.W.nsIn K mainGlobals "_law_odd" = some (some (.ref f8))) (l8 : K.lookup f8 = some ⟨oc8, od8, .func (PySem.W.fnOf "_law_odd" "_law_odd" (defArgs (top 31)) (defBody (top 31)) (defScope (top 31)) .none kV8 dc8 pm8 an8 cd8 ct8), sl8⟩) (c8 : PySem.W.codeIn K cd8 "_law_odd" = true) (k8 : PySem.W.keepIn K (.ref f8) = true)
    (a9 : PySem.W.nsIn K mainGlobals "are_unlike" = some (some (.ref f9))) (l9 : K.lookup f9 = some ⟨oc9, od9, .func (PySem.W.fnOf "are_unlike" "are_unlike" (defArgs (top 19)) (defBody (top 19)) (defScope (top 19)) .none kV9 dc9 pm9 an9 cd9 ct9), sl9⟩) (c9 : PySem.W.codeIn K cd9 "are_unlike" = true) (k9 : PySem.W.keepIn K (.ref f9) = true)
    (a10 : PySem.W.nsIn K mainGlobals "told_in" = some (some (.ref f10))) (l10 : K.lookup f10 = some ⟨oc10, od10, .func (PySem.W.fnOf "told_in" "told_in" (defArgs (top 21)) (defBody (top 21)) (defScope (top 21)) .none kV10 dc10 pm10 an10 cd10 ct10), sl10⟩) (c10 : PySem.W.codeIn K cd10 "told_in" = true) (k10 : PySem.W.keepIn K (.ref f10) = true)
    (a11 : PySem.W.nsIn K mainGlobals "is_whole" = some (some (.ref f11))) (l11 : K.lookup f11 = some ⟨oc11, od11, .func (PySem.W.fnOf "is_whole" "is_whole" (defArgs (top 13)) (defBody (top 13)) (defScope (top 13)) .none kV11 dc11 pm11 an11 cd11 ct11), sl11⟩) (c11 : PySem.W.codeIn K cd11 "is_whole" = true) (k11 : PySem.W.keepIn K (.ref f11) = true)
    (a12 : PySem.W.nsIn K mainGlobals "common_measure" = some (some (.ref f12))) (l12 : K.lookup f12 = some ⟨oc12, od12, .func (PySem.W.fnOf "common_measure" "common_measure" (defArgs (top 14)) (defBody (top 14)) (defScope (top 14)) .none kV12 dc12 pm12 an12 cd12 ct12), sl12⟩) (c12 : PySem.W.codeIn K cd12 "common_measure" = true) (k12 : PySem.W.keepIn K (.ref f12) = true)
    (a13 : PySem.W.nsIn K mainGlobals "is_number" = some (some (.ref f13))) (l13 : K.lookup f13 = some ⟨oc13, od13, .func (PySem.W.fnOf "is_number" "is_number" (defArgs (top 15)) (defBody (top 15)) (defScope (top 15)) .none kV13 dc13 pm13 an13 cd13 ct13), sl13⟩) (c13 : PySem.W.codeIn K cd13 "is_number" = true) (k13 : PySem.W.keepIn K (.ref f13) = true)
    (a14 : PySem.W.nsIn K mainGlobals "is_point" = some (some (.ref f14))) (l14 : K.lookup f14 = some ⟨oc14, od14, .func (PySem.W.fnOf "is_point" "is_point" (defArgs (top 18)) (defBody (top 18)) (defScope (top 18)) .none kV14 dc14 pm14 an14 cd14 ct14), sl14⟩) (c14 : PySem.W.codeIn K cd14 "is_point" = true) (k14 : PySem.W.keepIn K (.ref f14) = true)
    (a15 : PySem.W.nsIn K mainGlobals "points_of" = some (some (.ref f15))) (l15 : K.lookup f15 = some ⟨oc15, od15, .func (PySem.W.fnOf "points_of" "points_of" (defArgs (top 20)) (defBody (top 20)) (defScope (top 20)) .none kV15 dc15 pm15 an15 cd15 ct15), sl15⟩) (c15 : PySem.W.codeIn K cd15 "points_of" = true) (k15 : PySem.W.keepIn K (.ref f15) = true)
    (a16 : PySem.W.nsIn K mainGlobals "_law_kind" = some (some (.ref f16))) (l16 : K.lookup f16 = some ⟨oc16, od16, .func (PySem.W.fnOf "_law_kind" "_law_kind" (defArgs (top 30)) (defBody (top 30)) (defScope (top 30)) .none kV16 dc16 pm16 an16 cd16 ct16), sl16⟩) (c16 : PySem.W.codeIn K cd16 "_law_kind" = true) (k16 : PySem.W.keepIn K (.ref f16) = true)
    (a17 : PySem.W.nsIn K mainGlobals "_law_spoilt" = some (some (.ref f17))) (l17 : K.lookup f17 = some ⟨oc17, od17, .func (PySem.W.fnOf "_law_spoilt" "_law_spoilt" (defArgs (top 32)) (defBody (top 32)) (defScope (top 32)) .none kV17 dc17 pm17 an17 cd17 ct17), sl17⟩) (c17 : PySem.W.codeIn K cd17 "_law_spoilt" = true) (k17 : PySem.W.keepIn K (.ref f17) = true)
    (a18 : PySem.W.nsIn K mainGlobals "law" = some (some (.ref f18))) (l18 : K.lookup f18 = some ⟨oc18, od18, .func (PySem.W.fnOf "law" "law" (defArgs (top 33)) (defBody (top 33)) (defScope (top 33)) .none kV18 dc18 pm18 an18 cd18 ct18), sl18⟩) (c18 : PySem.W.codeIn K cd18 "law" = true) (k18 : PySem.W.keepIn K (.ref f18) = true)
    (z_len : PySem.W.nsIn K mainGlobals "len" = some none)
    (z_abs : PySem.W.nsIn K mainGlobals "abs" = some none)
    (z_range : PySem.W.nsIn K mainGlobals "range" = some none)
    (z_tuple : PySem.W.nsIn K mainGlobals "tuple" = some none)
    (z_set : PySem.W.nsIn K mainGlobals "set" = some none)
    (z_isinstance : PySem.W.nsIn K mainGlobals "isinstance" = some none)
    (z_int : PySem.W.nsIn K mainGlobals "int" = some none)
    (z_bool : PySem.W.nsIn K mainGlobals "bool" = some none)
    (z_all : PySem.W.nsIn K mainGlobals "all" = some none)
    (z_list : PySem.W.nsIn K mainGlobals "list" = some none)
    (z_ValueError : PySem.W.nsIn K mainGlobals "ValueError" = some none)
    {t_MOST_TOLD : Tok} (x_MOST_TOLD : PySem.W.nsIn K mainGlobals "MOST_TOLD" = some (some (.int 12 t_MOST_TOLD)))
    {a_CurveError : Addr} (nx_CurveError : PySem.W.nsIn K mainGlobals "CurveError" = some (some (.ref a_CurveError)))
    {a_TooMany : Addr} (nx_TooMany : PySem.W.nsIn K mainGlobals "TooMany" = some (some (.ref a_TooMany)))
    {a_NoPoints : Addr} (nx_NoPoints : PySem.W.nsIn K mainGlobals "NoPoints" = some (some (.ref a_NoPoints)))
    {a_NoPoint : Addr} (nx_NoPoint : PySem.W.nsIn K mainGlobals "NoPoint" = some (some (.ref a_NoPoint)))
    {a_NoNumber : Addr} (nx_NoNumber : PySem.W.nsIn K mainGlobals "NoNumber" = some (some (.ref a_NoNumber)))
    {a_NoCurve : Addr} (nx_NoCurve : PySem.W.nsIn K mainGlobals "NoCurve" = some (some (.ref a_NoCurve)))
    {a_NoStretch : Addr} (nx_NoStretch : PySem.W.nsIn K mainGlobals "NoStretch" = some (some (.ref a_NoStretch)))
    {a_TooDeep : Addr} (nx_TooDeep : PySem.W.nsIn K mainGlobals "TooDeep" = some (some (.ref a_TooDeep)))
    {a_TooFew : Addr} (nx_TooFew : PySem.W.nsIn K mainGlobals "TooFew" = some (some (.ref a_TooFew)))
    {a_NoText : Addr} (nx_NoText : PySem.W.nsIn K mainGlobals "NoText" = some (some (.ref a_NoText)))
    {a_NoRow : Addr} (nx_NoRow : PySem.W.nsIn K mainGlobals "NoRow" = some (some (.ref a_NoRow)))
    {bm0NoPoints N0NoPoints nm0NoPoints q0NoPoints bs0NoPoints hd0NoPoints sn0NoPoints sub0NoPoints ab0NoPoints col0NoPoints dd0NoPoints j0NoPoints j1NoPoints j2NoPoints j3NoPoints j5NoPoints} (xl_NoPoints : K.lookup a_NoPoints = some (PySem.excClassObj nm0NoPoints q0NoPoints a_NoPoints N0NoPoints bs0NoPoints bm0NoPoints hd0NoPoints sn0NoPoints sub0NoPoints ab0NoPoints col0NoPoints dd0NoPoints j0NoPoints j1NoPoints j2NoPoints j3NoPoints j5NoPoints "ValueError.__new__"))
    (xex_NoPoints : PySem.W.excIn K a_NoPoints [.type "ValueError", .type "Exception", .type "BaseException", .type "object"] "ValueError.__new__" = true)
    (xga_NoPoints : PySem.W.findIn K (.ref a_NoPoints) "__getattribute__" = some (some (.builtin "BaseException.__getattribute__"))) (xgt_NoPoints : PySem.W.findIn K (.ref a_NoPoints) "__getattr__" = some none) (xca_NoPoints : PySem.W.findIn K (.ref a_NoPoints) "__class__" = some (some (.builtin "object.__class__")))
    (xob_NoPoints : PySem.W.mroIn K a_NoPoints (.type "object") = some true) (xbe_NoPoints : PySem.W.mroIn K a_NoPoints (.type "BaseException") = some true)
    (xm_NoPoints : PySem.W.exmOne K (.ref a_NoPoints) (.ref a_CurveError) = some true) (xv_NoPoints : PySem.W.kitOne K (.ref a_NoPoints) (.type "ValueError") = some true)
    (ka_NoPoints : PySem.W.kitAny K (.ref a_NoPoints) [.ref a_NoCurve, .ref a_NoNumber, .ref a_NoPoint, .ref a_NoRow, .ref a_NoStretch, .ref a_NoText, .ref a_TooDeep, .ref a_TooFew] = some false)
    (xk_NoPoints_0 : PySem.W.kitOne K (.ref a_NoPoints) (.ref a_TooMany) = some false)
    (xk_NoPoints_1 : PySem.W.kitOne K (.ref a_NoPoints) (.ref a_NoPoints) = some true)
    (xk_NoPoints_2 : PySem.W.kitOne K (.ref a_NoPoints) (.ref a_NoPoint) = some false)
    (xk_NoPoints_3 : PySem.W.kitOne K (.ref a_NoPoints) (.ref a_NoNumber) = some false)
    (xk_NoPoints_4 : PySem.W.kitOne K (.ref a_NoPoints) (.ref a_NoCurve) = some false)
    (xk_NoPoints_5 : PySem.W.kitOne K (.ref a_NoPoints) (.ref a_NoStretch) = some false)
    (xk_NoPoints_6 : PySem.W.kitOne K (.ref a_NoPoints) (.ref a_TooDeep) = some false)
    (xk_NoPoints_7 : PySem.W.kitOne K (.ref a_NoPoints) (.ref a_TooFew) = some false)
    (xk_NoPoints_8 : PySem.W.kitOne K (.ref a_NoPoints) (.ref a_NoText) = some false)
    (xk_NoPoints_9 : PySem.W.kitOne K (.ref a_NoPoints) (.ref a_NoRow) = some false)
    {bm0TooMany N0TooMany nm0TooMany q0TooMany bs0TooMany hd0TooMany sn0TooMany sub0TooMany ab0TooMany col0TooMany dd0TooMany j0TooMany j1TooMany j2TooMany j3TooMany j5TooMany} (xl_TooMany : K.lookup a_TooMany = some (PySem.excClassObj nm0TooMany q0TooMany a_TooMany N0TooMany bs0TooMany bm0TooMany hd0TooMany sn0TooMany sub0TooMany ab0TooMany col0TooMany dd0TooMany j0TooMany j1TooMany j2TooMany j3TooMany j5TooMany "ValueError.__new__"))
    (xex_TooMany : PySem.W.excIn K a_TooMany [.type "ValueError", .type "Exception", .type "BaseException", .type "object"] "ValueError.__new__" = true)
    (xga_TooMany : PySem.W.findIn K (.ref a_TooMany) "__getattribute__" = some (some (.builtin "BaseException.__getattribute__"))) (xgt_TooMany : PySem.W.findIn K (.ref a_TooMany) "__getattr__" = some none) (xca_TooMany : PySem.W.findIn K (.ref a_TooMany) "__class__" = some (some (.builtin "object.__class__")))
    (xob_TooMany : PySem.W.mroIn K a_TooMany (.type "object") = some true) (xbe_TooMany : PySem.W.mroIn K a_TooMany (.type "BaseException") = some true)
    (xm_TooMany : PySem.W.exmOne K (.ref a_TooMany) (.ref a_CurveError) = some true) (xv_TooMany : PySem.W.kitOne K (.ref a_TooMany) (.type "ValueError") = some true)
    (ka_TooMany : PySem.W.kitAny K (.ref a_TooMany) [.ref a_NoCurve, .ref a_NoNumber, .ref a_NoPoint, .ref a_NoRow, .ref a_NoStretch, .ref a_NoText, .ref a_TooDeep, .ref a_TooFew] = some false)
    (xk_TooMany_0 : PySem.W.kitOne K (.ref a_TooMany) (.ref a_TooMany) = some true)
    (xk_TooMany_1 : PySem.W.kitOne K (.ref a_TooMany) (.ref a_NoPoints) = some false)
    (xk_TooMany_2 : PySem.W.kitOne K (.ref a_TooMany) (.ref a_NoPoint) = some false)
    (xk_TooMany_3 : PySem.W.kitOne K (.ref a_TooMany) (.ref a_NoNumber) = some false)
    (xk_TooMany_4 : PySem.W.kitOne K (.ref a_TooMany) (.ref a_NoCurve) = some false)
    (xk_TooMany_5 : PySem.W.kitOne K (.ref a_TooMany) (.ref a_NoStretch) = some false)
    (xk_TooMany_6 : PySem.W.kitOne K (.ref a_TooMany) (.ref a_TooDeep) = some false)
    (xk_TooMany_7 : PySem.W.kitOne K (.ref a_TooMany) (.ref a_TooFew) = some false)
    (xk_TooMany_8 : PySem.W.kitOne K (.ref a_TooMany) (.ref a_NoText) = some false)
    (xk_TooMany_9 : PySem.W.kitOne K (.ref a_TooMany) (.ref a_NoRow) = some false)
    (xgg : PySem.W.specialIn K (.builtin "object.__class__") "__get__" = some (some (.builtin "getset_descriptor.__get__"))) (xtk : PySem.W.takesIn K (.builtin "object.__class__") = some true) :
    ∃ fd : FuncData, (∀ (s : Shared) (v : Value), BindsTo s fd ⟨[v], []⟩ [("_law_script", v)]) ∧ ∀ base : Heap, K.In base → base.Ns mainGlobals mg → FnOk l.prog w K mg base CX0 38 fa fd ["_law_script"] (spLaw K) := by
  have e := hfa.symm.trans (PySem.W.mg_of X G a18)
  cases e
  have b_len := PySem.W.mg_none_of X G z_len
  have b_abs := PySem.W.mg_none_of X G z_abs
  have b_range := PySem.W.mg_none_of X G z_range
  have b_tuple := PySem.W.mg_none_of X G z_tuple
  have b_set := PySem.W.mg_none_of X G z_set
  have b_isinstance := PySem.W.mg_none_of X G z_isinstance
  have b_int := PySem.W.mg_none_of X G z_int
  have b_bool := PySem.W.mg_none_of X G z_bool
  have b_all := PySem.W.mg_none_of X G z_all
  have b_list := PySem.W.mg_none_of X G z_list
  have b_ValueError := PySem.W.mg_none_of X G z_ValueError
  have c_MOST_TOLD := PySem.W.mg_of X G x_MOST_TOLD
  have F1 := fun_mk (st := top 23) l1 c1 k1
  have B1 := Fun.binds2 "_law_script" "_law_k" F1 fun _ _ _ _ _ _ _ _ => rfl
  have F2 := fun_mk (st := top 24) l2 c2 k2
  have B2 := Fun.binds2 "_law_pen_here" "_law_many" F2 fun _ _ _ _ _ _ _ _ => rfl
  have F3 := fun_mk (st := top 25) l3 c3 k3
  have B3 := Fun.binds2 "_law_top" "_law_bottom" F3 fun _ _ _ _ _ _ _ _ => rfl
  have F4 := fun_mk (st := top 27) l4 c4 k4
  have B4 := Fun.binds1 "_law_pen_here" F4 fun _ _ _ _ _ _ _ => rfl
  have F5 := fun_mk (st := top 26) l5 c5 k5
  have B5 := Fun.binds2 "_law_a" "_law_b" F5 fun _ _ _ _ _ _ _ _ => rfl
  have F6 := fun_mk (st := top 28) l6 c6 k6
  have B6 := Fun.binds2 "_law_pen_here" "_law_many" F6 fun _ _ _ _ _ _ _ _ => rfl
  have F7 := fun_mk (st := top 29) l7 c7 k7
  have B7 := Fun.binds2 "_law_pen_here" "_law_most" F7 fun _ _ _ _ _ _ _ _ => rfl
  have F8 := fun_mk (st := top 31) l8 c8 k8
  have B8 := Fun.binds1 "_law_pen_here" F8 fun _ _ _ _ _ _ _ => rfl
  have F9 := fun_mk (st := top 19) l9 c9 k9
  have B9 := Fun.binds1 "places" F9 fun _ _ _ _ _ _ _ => rfl
  have F10 := fun_mk (st := top 21) l10 c10 k10
  have B10 := Fun.binds1 "points" F10 fun _ _ _ _ _ _ _ => rfl
  have F11 := fun_mk (st := top 13) l11 c11 k11
  have B11 := Fun.binds1 "thing" F11 fun _ _ _ _ _ _ _ => rfl
  have F12 := fun_mk (st := top 14) l12 c12 k12
  have B12 := Fun.binds2 "one" "other" F12 fun _ _ _ _ _ _ _ _ => rfl
  have F13 := fun_mk (st := top 15) l13 c13 k13
  have B13 := Fun.binds1 "thing" F13 fun _ _ _ _ _ _ _ => rfl
  have F14 := fun_mk (st := top 18) l14 c14 k14
  have B14 := Fun.binds1 "thing" F14 fun _ _ _ _ _ _ _ => rfl
  have F15 := fun_mk (st := top 20) l15 c15 k15
  have B15 := Fun.binds1 "thing" F15 fun _ _ _ _ _ _ _ => rfl
  have F16 := fun_mk (st := top 30) l16 c16 k16
  have B16 := Fun.binds1 "_law_thing" F16 fun _ _ _ _ _ _ _ => rfl
  have F17 := fun_mk (st := top 32) l17 c17 k17
  have B17 := Fun.binds2 "_law_pen_here" "_law_points_here" F17 fun _ _ _ _ _ _ _ _ => rfl
  have F18 := fun_mk (st := top 33) l18 c18 k18
  refine ⟨PySem.W.fnOf "law" "law" (defArgs (top 33)) (defBody (top 33)) (defScope (top 33)) .none kV18 dc18 pm18 an18 cd18 ct18, fun s v => .of_eq rfl, fun base _ _ => ?_⟩
  have c_CurveError := PySem.W.mg_of X G nx_CurveError
  have c_TooMany := PySem.W.mg_of X G nx_TooMany
  have c_NoPoints := PySem.W.mg_of X G nx_NoPoints
  have c_NoPoint := PySem.W.mg_of X G nx_NoPoint
  have c_NoNumber := PySem.W.mg_of X G nx_NoNumber
  have c_NoCurve := PySem.W.mg_of X G nx_NoCurve
  have c_NoStretch := PySem.W.mg_of X G nx_NoStretch
  have c_TooDeep := PySem.W.mg_of X G nx_TooDeep
  have c_TooFew := PySem.W.mg_of X G nx_TooFew
  have c_NoText := PySem.W.mg_of X G nx_NoText
  have c_NoRow := PySem.W.mg_of X G nx_NoRow
  have k_NoPoints : XCls K "NoPoints" a_NoPoints := ⟨nx_NoPoints, ⟨_, _, _, _, _, _, _, _, _, _, _, _, _, _, _, _, xl_NoPoints⟩, xex_NoPoints⟩
  have xr_NoPoints : RefK K a_NoPoints [a_TooMany, a_NoPoints, a_NoPoint, a_NoNumber, a_NoCurve, a_NoStretch, a_TooDeep, a_TooFew, a_NoText, a_NoRow] 1 := ⟨⟨xga_NoPoints, xgt_NoPoints, xca_NoPoints, xgg, xtk, xob_NoPoints, xbe_NoPoints, ⟨_, _, _, _, xl_NoPoints⟩⟩, xv_NoPoints, fun i c h => match i, h with | 0, h => by cases h; exact xk_NoPoints_0 | 1, h => by cases h; exact xk_NoPoints_1 | 2, h => by cases h; exact xk_NoPoints_2 | 3, h => by cases h; exact xk_NoPoints_3 | 4, h => by cases h; exact xk_NoPoints_4 | 5, h => by cases h; exact xk_NoPoints_5 | 6, h => by cases h; exact xk_NoPoints_6 | 7, h => by cases h; exact xk_NoPoints_7 | 8, h => by cases h; exact xk_NoPoints_8 | 9, h => by cases h; exact xk_NoPoints_9 | i + 10, h => nomatch h⟩
  have k_TooMany : XCls K "TooMany" a_TooMany := ⟨nx_TooMany, ⟨_, _, _, _, _, _, _, _, _, _, _, _, _, _, _, _, xl_TooMany⟩, xex_TooMany⟩
  have xr_TooMany : RefK K a_TooMany [a_TooMany, a_NoPoints, a_NoPoint, a_NoNumber, a_NoCurve, a_NoStretch, a_TooDeep, a_TooFew, a_NoText, a_NoRow] 0 := ⟨⟨xga_TooMany, xgt_TooMany, xca_TooMany, xgg, xtk, xob_TooMany, xbe_TooMany, ⟨_, _, _, _, xl_TooMany⟩⟩, xv_TooMany, fun i c h => match i, h with | 0, h => by cases h; exact xk_TooMany_0 | 1, h => by cases h; exact xk_TooMany_1 | 2, h => by cases h; exact xk_TooMany_2 | 3, h => by cases h; exact xk_TooMany_3 | 4, h => by cases h; exact xk_TooMany_4 | 5, h => by cases h; exact xk_TooMany_5 | 6, h => by cases h; exact xk_TooMany_6 | 7, h => by cases h; exact xk_TooMany_7 | 8, h => by cases h; exact xk_TooMany_8 | 9, h => by cases h; exact xk_TooMany_9 | i + 10, h => nomatch h⟩
  have E__law_pen : Fd l.prog w K mg base 33 "_law_pen" ["_law_script", "_law_k"] (spPen K) := ⟨_, _, ok__law_pen F1 b_len hT, B1, k1, PySem.W.mg_of X G a1⟩
  have E__law_draw : Fd l.prog w K mg base 33 "_law_draw" ["_law_pen_here", "_law_many"] (spDraw) := ⟨_, _, ok__law_draw F2 hT, B2, k2, PySem.W.mg_of X G a2⟩
  have E__law_lowest : Fd l.prog w K mg base 33 "_law_lowest" ["_law_top", "_law_bottom"] (spLow) := ⟨_, _, ok__law_lowest F3 b_abs hT, B3, k3, PySem.W.mg_of X G a3⟩
  have E__law_number : Fd l.prog w K mg base 34 "_law_number" ["_law_pen_here"] (spNum 64) := ⟨_, _, ok__law_number F4 E__law_draw E__law_lowest hT, B4, k4, PySem.W.mg_of X G a4⟩
  have E__law_plus : Fd l.prog w K mg base 34 "_law_plus" ["_law_a", "_law_b"] (spBin K (· + ·)) := ⟨_, _, ok__law_plus F5 E__law_lowest hT, B5, k5, PySem.W.mg_of X G a5⟩
  have E__law_places : Fd l.prog w K mg base 35 "_law_places" ["_law_pen_here", "_law_many"] (spPlacesT K 64) := ⟨_, _, ok__law_places F6 E__law_number E__law_plus b_range hT, B6, k6, PySem.W.mg_of X G a6⟩
  have E__law_points : Fd l.prog w K mg base 36 "_law_points" ["_law_pen_here", "_law_most"] (spPointsT K 64) := ⟨_, _, ok__law_points F7 E__law_places E__law_draw E__law_number b_tuple hT, B7, k7, PySem.W.mg_of X G a7⟩
  have E__law_odd : Fd l.prog w K mg base 34 "_law_odd" ["_law_pen_here"] (spOdd K) := ⟨_, _, ok__law_odd F8 E__law_draw b_len hT, B8, k8, PySem.W.mg_of X G a8⟩
  have E_are_unlike : Fd l.prog w K mg base 33 "are_unlike" ["places"] (spUnlikeD K) := ⟨_, _, ok_are_unlike F9 b_len b_set hT, B9, k9, PySem.W.mg_of X G a9⟩
  have E_told_in : Fd l.prog w K mg base 33 "told_in" ["points"] (spToldT K) := ⟨_, _, ok_told_in F10 b_range b_len hT, B10, k10, PySem.W.mg_of X G a10⟩
  have E_is_whole : Fd l.prog w K mg base 33 "is_whole" ["thing"] (spWhO K) := ⟨_, _, ok_is_whole F11 b_isinstance b_int b_bool hT, B11, k11, PySem.W.mg_of X G a11⟩
  have E_common_measure : Fd l.prog w K mg base 33 "common_measure" ["one", "other"] (spGcd) := ⟨_, _, ok_common_measure F12 b_abs hT, B12, k12, PySem.W.mg_of X G a12⟩
  have E_is_number : Fd l.prog w K mg base 34 "is_number" ["thing"] (spNbO K) := ⟨_, _, ok_is_number F13 E_is_whole E_common_measure b_isinstance b_tuple b_len hT, B13, k13, PySem.W.mg_of X G a13⟩
  have E_is_point : Fd l.prog w K mg base 35 "is_point" ["thing"] (spPbO K) := ⟨_, _, ok_is_point F14 E_is_number b_all b_isinstance b_tuple b_len hT, B14, k14, PySem.W.mg_of X G a14⟩
  have E_points_of : Fd l.prog w K mg base 36 "points_of" ["thing"] (spPtsOf K) := ⟨_, _, ok_points_of F15 E_are_unlike E_told_in E_is_point b_tuple b_all b_len b_isinstance b_list c_MOST_TOLD hT, B15, k15, PySem.W.mg_of X G a15⟩
  have XF_points_of := okx_points_of (base := base) (w := w) F15 k_NoPoints k_TooMany E_are_unlike E_told_in E_is_point b_tuple b_all b_len b_isinstance b_list c_MOST_TOLD hT
  have X_points_of : FdY l.prog w K mg base 36 "points_of" ["thing"] (spPtsX K a_NoPoints a_TooMany) := ⟨_, _, XF_points_of, B15, k15, PySem.W.mg_of X G a15⟩
  have E__law_kind : Fd l.prog w K mg base 37 "_law_kind" ["_law_thing"] (spKind K) := ⟨_, _, ok__law_kind F16 c_CurveError c_TooMany c_NoPoints c_NoPoint c_NoNumber c_NoCurve c_NoStretch c_TooDeep c_TooFew c_NoText c_NoRow X_points_of.x xm_NoPoints xr_NoPoints ka_NoPoints xm_TooMany xr_TooMany ka_TooMany E_points_of b_isinstance b_ValueError b_int hT, B16, k16, PySem.W.mg_of X G a16⟩
  have E__law_spoilt : Fd l.prog w K mg base 35 "_law_spoilt" ["_law_pen_here", "_law_points_here"] (spSpoilt K) := ⟨_, _, ok__law_spoilt F17 E__law_draw E__law_number E__law_odd b_len b_list hT, B17, k17, PySem.W.mg_of X G a17⟩
  exact ok_law F18 E__law_pen E__law_points E__law_odd E__law_draw E__law_kind E_points_of E__law_spoilt b_range b_len b_tuple b_list hT
theorem walk {l : PySem.W.OpenLaw} {q : Program} {loose : List Str} {XP : (Str → Option Value) → Heap → Prop} {YP : World → Heap → Prop} {d : DefRec} {K : Params → PySem.W.Frag} (hI : PyProof.Rows.importsNone q = true) (hn : l.most = some 63) (hdf : d.params.defaults = [])
    (hY : ∀ (w : World) (h : Heap), YP w h → (K w.params).In h)
    (F : ∀ (w : World) (mg : Str → Option Value) (fa : Addr) (h : Heap), (K w.params).In h → h.Ns mainGlobals mg → mg d.name = some (.ref fa) →
      ∃ fd : FuncData, (∀ (s : Shared) (u : Value), BindsTo s fd ⟨[u], []⟩ [("_law_script", u)]) ∧ ∀ base : Heap, (K w.params).In base → base.Ns mainGlobals mg → FnOk l.prog w (K w.params) mg base CX0 38 fa fd ["_law_script"] ((fun (K : PySem.W.Frag) => (spLaw K : Sp)) (K w.params))) :
    PySem.W.WalkO q loose XP YP l.row.toRowW d [] (fun f vs => PySem.call f vs) :=
  L2.walk_of (n := 63) (k := 38) (x := "_law_script") (CX := fun _ => CX0) (sp := fun w => (fun (K : PySem.W.Frag) => (spLaw K : Sp)) (K w.params)) hI hn (by decide) hdf ⟨rfl, by decide, by decide⟩ hY F (fun _ _ a ns hl _ hS => ⟨a, ns, rfl, hS, hl, fun _ => rfl⟩) fun _ _ _ _ _ z => z
end Pf
def PySem.W.Fast.tw3173798206066747584 : Unit := ()
def PySem.W.Fast.tw13435461216338247097 : Unit := ()
def PySem.W.Fast.tw14339239774743754923 : Unit := ()
def PySem.W.Fast.tw6509665552022949107 : Unit := ()
def PySem.W.Fast.tw7107887818667699188 : Unit := ()
def PySem.W.Fast.tw8767172020582501492 : Unit := ()
def PySem.W.Fast.tw17471375361662941081 : Unit := ()
def PySem.W.Fast.tw16037911022503708451 : Unit := ()
def PySem.W.Fast.tw11488816793898006163 : Unit := ()
def PySem.W.Fast.tw6108078304602569410 : Unit := ()
def PySem.W.Fast.tw1830104364500691299 : Unit := ()
def PySem.W.Fast.tw5781826021712721007 : Unit := ()
def PySem.W.Fast.tw2232636235376191519 : Unit := ()
def PySem.W.Fast.tw18168628715929680790 : Unit := ()
def PySem.W.Fast.tw17093429328311154141 : Unit := ()
def PySem.W.Fast.tw17519506575763355848 : Unit := ()
def PySem.W.Fast.tw4963634280029050896 : Unit := ()
def PySem.W.Fast.tw17210994919401611792 : Unit := ()
def PySem.W.Fast.tw3969506534228838811 : Unit := ()
def PySem.W.Fast.tw14720311678596420421 : Unit := ()
def PySem.W.Fast.tw17469129948725824657 : Unit := ()
def PySem.W.Fast.tw18286677294752202409 : Unit := ()
def PySem.W.Fast.tw1803174469059810946 : Unit := ()
def PySem.W.Fast.tw9849454397652775964 : Unit := ()
def PySem.W.Fast.tw16625107565041756676 : Unit := ()
def PySem.W.Fast.tw7816380222131298127 : Unit := ()
def PySem.W.Fast.tw2981350280202043101 : Unit := ()
def PySem.W.Fast.tw18366923659112475594 : Unit := ()
def PySem.W.Fast.tw15939400472867367233 : Unit := ()
def PySem.W.Fast.tw12570284619925230372 : Unit := ()
def PySem.W.Fast.tw806774835966812381 : Unit := ()
def PySem.W.Fast.tw16857867836981555536 : Unit := ()
def PySem.W.Fast.tw7308653079320900880 : Unit := ()
def PySem.W.Fast.tw1006529546817477158 : Unit := ()
def PySem.W.Fast.tw12940326928768574243 : Unit := ()
def PySem.W.Fast.tw3965528750943842763 : Unit := ()
def PySem.W.Fast.tw14683283258303427947 : Unit := ()
def PySem.W.Fast.tw9614241471781481161 : Unit := ()
def PySem.W.Fast.tw13342675128095112828 : Unit := ()
def PySem.W.Fast.tw17526549353630778372 : Unit := ()
def PySem.W.Fast.tw12733016635105540518 : Unit := ()
def PySem.W.Fast.tw1746623798413880819 : Unit := ()
def PySem.W.Fast.tw533823400506509774 : Unit := ()
def PySem.W.Fast.tw8080960646149779072 : Unit := ()
def PySem.W.Fast.tw15804496041841088013 : Unit := ()
def PySem.W.Fast.tw3337915816718509900 : Unit := ()
def PySem.W.Fast.tw9003730140900333007 : Unit := ()
def PySem.W.Fast.tw16048428826916604650 : Unit := ()
def PySem.W.Fast.tw11230164757182992932 : Unit := ()
def PySem.W.Fast.tw4353861909063544343 : Unit := ()
def PySem.W.Fast.tw1218609386859370037 : Unit := ()
def PySem.W.Fast.tw11198910938368529030 : Unit := ()
def PySem.W.Fast.tw10470999286466383722 : Unit := ()
def PySem.W.Fast.tw2492845164997001742 : Unit := ()
def PySem.W.Fast.tw3650514234114887145 : Unit := ()
def PySem.W.Fast.tw374482955128989333 : Unit := ()
def PySem.W.Fast.tw7505374679242304446 : Unit := ()
def PySem.W.Fast.tw5873186529778713829 : Unit := ()
def PySem.W.Fast.tw9648409572770406820 : Unit := ()
def PySem.W.Fast.tw13373320115849111178 : Unit := ()
def PySem.W.Fast.tw1106740877394906214 : Unit := ()
def PySem.W.Fast.tw14392600076084735125 : Unit := ()
def PySem.W.Fast.tw12415639814428833027 : Unit := ()
open PySem PySem.W PyProof.Rows
set_option maxRecDepth 100000 in
set_option maxHeartbeats 0 in
theorem PySem.Challenge.cw_onecurve_k11_no_points_holds : PySem.Challenge.rw_onecurve_k11_no_points.Holds := by
  w_on; o_law; k_head; (case hw => w_witness2)
  k_fill
  refine Pf.walk (l := PySem.Challenge.rw_onecurve_k11_no_points) (by decide +kernel) rfl rfl (fun w h Y => PySem.W.kIn_of Y) ?F
  case F =>
    intro w mg fa h KX G hmg
    refine' Pf.all_mk rfl KX G hmg ?a1 ?l1 ?c1 ?k1 ?a2 ?l2 ?c2 ?k2 ?a3 ?l3 ?c3 ?k3 ?a4 ?l4 ?c4 ?k4 ?a5 ?l5 ?c5 ?k5 ?a6 ?l6 ?c6 ?k6 ?a7 ?l7 ?c7 ?k7 ?a8 ?l8 ?c8 ?k8 ?a9 ?l9 ?c9 ?k9 ?a10 ?l10 ?c10 ?k10 ?a11 ?l11 ?c11 ?k11 ?a12 ?l12 ?c12 ?k12 ?a13 ?l13 ?c13 ?k13 ?a14 ?l14 ?c14 ?k14 ?a15 ?l15 ?c15 ?k15 ?a16 ?l16 ?c16 ?k16 ?a17 ?l17 ?c17 ?k17 ?a18 ?l18 ?c18 ?k18 ?z_len ?z_abs ?z_range ?z_tuple ?z_set ?z_isinstance ?z_int ?z_bool ?z_all ?z_list ?z_ValueError ?x_MOST_TOLD ?nx_CurveError ?nx_TooMany ?nx_NoPoints ?nx_NoPoint ?nx_NoNumber ?nx_NoCurve ?nx_NoStretch ?nx_TooDeep ?nx_TooFew ?nx_NoText ?nx_NoRow ?xl_NoPoints ?xex_NoPoints ?xga_NoPoints ?xgt_NoPoints ?xca_NoPoints ?xob_NoPoints ?xbe_NoPoints ?xm_NoPoints ?xv_NoPoints ?ka_NoPoints ?xk_NoPoints_0 ?xk_NoPoints_1 ?xk_NoPoints_2 ?xk_NoPoints_3 ?xk_NoPoints_4 ?xk_NoPoints_5 ?xk_NoPoints_6 ?xk_NoPoints_7 ?xk_NoPoints_8 ?xk_NoPoints_9 ?xl_TooMany ?xex_TooMany ?xga_TooMany ?xgt_TooMany ?xca_TooMany ?xob_TooMany ?xbe_TooMany ?xm_TooMany ?xv_TooMany ?ka_TooMany ?xk_TooMany_0 ?xk_TooMany_1 ?xk_TooMany_2 ?xk_TooMany_3 ?xk_TooMany_4 ?xk_TooMany_5 ?xk_TooMany_6 ?xk_TooMany_7 ?xk_TooMany_8 ?xk_TooMany_9 ?xgg ?xtk
    (case a1 => k_is)
    (case l1 => k_is)
    (case c1 => k_is)
    (case k1 => k_is)
    (case a2 => k_is)
    (case l2 => k_is)
    (case c2 => k_is)
    (case k2 => k_is)
    (case a3 => k_is)
    (case l3 => k_is)
    (case c3 => k_is)
    (case k3 => k_is)
    (case a4 => k_is)
    (case l4 => k_is)
    (case c4 => k_is)
    (case k4 => k_is)
    (case a5 => k_is)
    (case l5 => k_is)
    (case c5 => k_is)
    (case k5 => k_is)
    (case a6 => k_is)
    (case l6 => k_is)
    (case c6 => k_is)
    (case k6 => k_is)
    (case a7 => k_is)
    (case l7 => k_is)
    (case c7 => k_is)
    (case k7 => k_is)
    (case a8 => k_is)
    (case l8 => k_is)
    (case c8 => k_is)
    (case k8 => k_is)
    (case a9 => k_is)
    (case l9 => k_is)
    (case c9 => k_is)
    (case k9 => k_is)
    (case a10 => k_is)
    (case l10 => k_is)
    (case c10 => k_is)
    (case k10 => k_is)
    (case a11 => k_is)
    (case l11 => k_is)
    (case c11 => k_is)
    (case k11 => k_is)
    (case a12 => k_is)
    (case l12 => k_is)
    (case c12 => k_is)
    (case k12 => k_is)
    (case a13 => k_is)
    (case l13 => k_is)
    (case c13 => k_is)
    (case k13 => k_is)
    (case a14 => k_is)
    (case l14 => k_is)
    (case c14 => k_is)
    (case k14 => k_is)
    (case a15 => k_is)
    (case l15 => k_is)
    (case c15 => k_is)
    (case k15 => k_is)
    (case a16 => k_is)
    (case l16 => k_is)
    (case c16 => k_is)
    (case k16 => k_is)
    (case a17 => k_is)
    (case l17 => k_is)
    (case c17 => k_is)
    (case k17 => k_is)
    (case a18 => k_is)
    (case l18 => k_is)
    (case c18 => k_is)
    (case k18 => k_is)
    (case z_len => k_is)
    (case z_abs => k_is)
    (case z_range => k_is)
    (case z_tuple => k_is)
    (case z_set => k_is)
    (case z_isinstance => k_is)
    (case z_int => k_is)
    (case z_bool => k_is)
    (case z_all => k_is)
    (case z_list => k_is)
    (case z_ValueError => k_is)
    (case x_MOST_TOLD => k_is)
    (case nx_CurveError => k_is)
    (case nx_TooMany => k_is)
    (case nx_NoPoints => k_is)
    (case nx_NoPoint => k_is)
    (case nx_NoNumber => k_is)
    (case nx_NoCurve => k_is)
    (case nx_NoStretch => k_is)
    (case nx_TooDeep => k_is)
    (case nx_TooFew => k_is)
    (case nx_NoText => k_is)
    (case nx_NoRow => k_is)
    (case xl_NoPoints => k_is)
    (case xex_NoPoints => k_exc)
    (case xga_NoPoints => k_is)
    (case xgt_NoPoints => k_is)
    (case xca_NoPoints => k_is)
    (case xob_NoPoints => k_is)
    (case xbe_NoPoints => k_is)
    (case xm_NoPoints => kts_exm)
    (case xv_NoPoints => kit_is)
    (case ka_NoPoints => kit_is)
    (case xk_NoPoints_0 => kit_is)
    (case xk_NoPoints_1 => kit_is)
    (case xk_NoPoints_2 => kit_is)
    (case xk_NoPoints_3 => kit_is)
    (case xk_NoPoints_4 => kit_is)
    (case xk_NoPoints_5 => kit_is)
    (case xk_NoPoints_6 => kit_is)
    (case xk_NoPoints_7 => kit_is)
    (case xk_NoPoints_8 => kit_is)
    (case xk_NoPoints_9 => kit_is)
    (case xl_TooMany => k_is)
    (case xex_TooMany => k_exc)
    (case xga_TooMany => k_is)
    (case xgt_TooMany => k_is)
    (case xca_TooMany => k_is)
    (case xob_TooMany => k_is)
    (case xbe_TooMany => k_is)
    (case xm_TooMany => kts_exm)
    (case xv_TooMany => kit_is)
    (case ka_TooMany => kit_is)
    (case xk_TooMany_0 => kit_is)
    (case xk_TooMany_1 => kit_is)
    (case xk_TooMany_2 => kit_is)
    (case xk_TooMany_3 => kit_is)
    (case xk_TooMany_4 => kit_is)
    (case xk_TooMany_5 => kit_is)
    (case xk_TooMany_6 => kit_is)
    (case xk_TooMany_7 => kit_is)
    (case xk_TooMany_8 => kit_is)
    (case xk_TooMany_9 => kit_is)
    (case xgg => k_is)
    (case xtk => k_is)
#print axioms PySem.Challenge.cw_onecurve_k11_no_points_holds
