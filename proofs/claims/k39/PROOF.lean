import PyProof.Rows.All
import Wide.All
import OpenK.AllK
import Wide.FinOn
import Lean
import PyProof.EqAt
import PyProof.EqKinds
import PyProof.TupleCall
import PySem.Challenge.RW_onecurve_k39_lone_parts
set_option Elab.async false
set_option linter.all false
set_option maxRecDepth 100000
/-! THE HAND LAYER, for ints, bools, texts, own classes, LISTS and tuples (index, slices, in, append, pop ..), calls, loops. Paste it whole ahead of your own text; what your proof does not reach may be deleted. -/
namespace L2
open PySem PySem.Spec PyProof.Rows

/-- a key: an int or a str -/
abbrev Key := Sum Int Str
def keyIs : Key → Value → Bool
  | .inl k, v => Value.isInt k v
  | .inr x, v => Value.isStrOf x v
def keyH (w : World) : Key → Int
  | .inl k => hashInt k
  | .inr x => hashStr w x
theorem keyIs_shape : ∀ {k : Key} {v : Value}, keyIs k v = true → (∃ i t, k = Sum.inl i ∧ v = Value.int i t) ∨ (∃ x t, k = Sum.inr x ∧ v = Value.str x t)
  | .inl i, v, h => by
    obtain ⟨t, e⟩ := Value.isInt_shape (k := i) (v := v) h
    exact .inl ⟨i, t, rfl, e⟩
  | .inr x, v, h => by
    obtain ⟨t, e⟩ := Value.isStrOf_shape (x := x) (v := v) h
    exact .inr ⟨x, t, rfl, e⟩
theorem keyIs_int (i : Int) (t : Tok) : keyIs (.inl i) (.int i t) = true := by simp [keyIs, Value.isInt]
theorem keyIs_str (x : Str) (t : Tok) : keyIs (.inr x) (.str x t) = true := by simp [keyIs, Value.isStrOf]
theorem key_ll (a b : Int) : decide ((Sum.inl a : Key) = Sum.inl b) = (a == b) := by
  by_cases e : a = b
  · subst e; simp
  · have h : ¬ (Sum.inl a : Key) = Sum.inl b := fun q => e (Sum.inl.inj q)
    rw [decide_eq_false h]
    exact (beq_eq_false_iff_ne.mpr e).symm
theorem key_rr (a b : Str) : decide ((Sum.inr a : Key) = Sum.inr b) = decide (a = b) := by
  by_cases e : a = b
  · subst e; simp
  · have h : ¬ (Sum.inr a : Key) = Sum.inr b := fun q => e (Sum.inr.inj q)
    rw [decide_eq_false h, decide_eq_false e]
theorem key_lr (a : Int) (b : Str) : decide ((Sum.inl a : Key) = Sum.inr b) = false := decide_eq_false (fun q => nomatch q)
theorem key_rl (a : Str) (b : Int) : decide ((Sum.inr a : Key) = Sum.inl b) = false := decide_eq_false (fun q => nomatch q)

def mixKind (prog : Program) (w : World) : PySem.KeyKind prog w Key where
  is := keyIs
  hash := keyH w
  inj := fun v a b ha hb => by
    rcases keyIs_shape ha with ⟨i, t, rfl, rfl⟩ | ⟨x, t, rfl, rfl⟩
    · rcases keyIs_shape hb with ⟨j, u, rfl, e⟩ | ⟨y, u, rfl, e⟩
      · injection e with e1 _; rw [e1]
      · exact nomatch e
    · rcases keyIs_shape hb with ⟨j, u, rfl, e⟩ | ⟨y, u, rfl, e⟩
      · exact nomatch e
      · injection e with e1 _; rw [e1]
  byValue := fun k v h => by
    rcases keyIs_shape h with ⟨i, t, rfl, rfl⟩ | ⟨x, t, rfl, rfl⟩ <;> rfl
  pyHash := fun hv h => by
    rcases keyIs_shape hv with ⟨i, t, rfl, rfl⟩ | ⟨x, t, rfl, rfl⟩
    · exact wpAny_pyHash_int h
    · exact wpAny_pyHash_str h
  eqBool := fun hu hv h => by
    rcases keyIs_shape hu with ⟨i, t, rfl, rfl⟩ | ⟨x, t, rfl, rfl⟩
    · rcases keyIs_shape hv with ⟨j, u, rfl, rfl⟩ | ⟨y, u, rfl, rfl⟩
      · rw [key_ll] at h; exact wpAny_eqBool_int h
      · rw [key_lr] at h; exact SeqAt.EqAt.int_str i t y u _ _ _ _ h
    · rcases keyIs_shape hv with ⟨j, u, rfl, rfl⟩ | ⟨y, u, rfl, rfl⟩
      · rw [key_rl] at h; exact SeqAt.EqAt.str_int x t j u _ _ _ _ h
      · rw [key_rr] at h; exact wpAny_eqBool_str h
  «strs» := fun k x t v h => by
    rcases keyIs_shape h with ⟨i, u, rfl, e⟩ | ⟨y, u, rfl, e⟩
    · exact nomatch e
    · injection e with e1 _
      subst e1
      cases v <;> rfl

theorem mixKind_int (prog : Program) (w : World) (i : Int) (t : Tok) : (mixKind prog w).is (.inl i) (.int i t) = true := keyIs_int i t
theorem mixKind_str (prog : Program) (w : World) (x : Str) (t : Tok) : (mixKind prog w).is (.inr x) (.str x t) = true := keyIs_str x t
end L2

namespace L2
open PySem PySem.Spec PyProof.Rows

/-- a value, without the heap -/
inductive V where
  | non | bl (b : Bool) | int (i : Int) | str (x : Str) | byt (b : Array UInt8) | flt (b : UInt64) | ref (a : Addr) | ty (n : String)
  deriving DecidableEq

def RelV : V → Value → Prop
  | .non, u => u = Value.none
  | .bl b, u => u = Value.bool b
  | .int i, u => ∃ t, u = Value.int i t
  | .str x, u => ∃ t, u = Value.str x t
  | .byt b, u => ∃ t, u = Value.bytes b t
  | .flt b, u => ∃ t, u = Value.float b t
  | .ref a, u => u = Value.ref a
  | .ty n, u => u = Value.type n

abbrev Vals : List V → List Value → Prop := Paired RelV
theorem Vals.length {xs : List V} {us : List Value} (r : Vals xs us) : xs.length = us.length := Paired.length r
theorem Vals.get : ∀ {xs : List V} {us : List Value} {i : Nat} {x : V}, Vals xs us → xs[i]? = some x → ∃ u, us[i]? = some u ∧ RelV x u
  | _, _, _, _, .nil, e => by simp at e
  | _, _, 0, _, .cons r _, e => by simp at e; subst e; exact ⟨_, rfl, r⟩
  | _, _, i + 1, x, .cons _ t, e => by
    obtain ⟨u, h1, h2⟩ := Vals.get (i := i) (x := x) t (by simpa using e)
    exact ⟨u, by simpa using h1, h2⟩
theorem Vals.set {x : V} {u : Value} (r : RelV x u) : ∀ {xs : List V} {us : List Value} (i : Nat), Vals xs us → Vals (xs.set i x) (us.set i u)
  | _, _, _, .nil => .nil
  | _, _, 0, .cons _ t => .cons r t
  | _, _, i + 1, .cons q t => .cons q (Vals.set r i t)
theorem Vals.append {xs ys : List V} {us ws : List Value} (a : Vals xs us) (b : Vals ys ws) : Vals (xs ++ ys) (us ++ ws) := by
  induction a with
  | nil => exact b
  | cons r t ih => exact .cons r ih
theorem Vals.take : ∀ {xs : List V} {us : List Value} (n : Nat), Vals xs us → Vals (xs.take n) (us.take n)
  | _, _, 0, _ => .nil
  | _, _, _ + 1, .nil => .nil
  | _, _, n + 1, .cons r t => .cons r (Vals.take n t)
theorem Vals.drop : ∀ {xs : List V} {us : List Value} (n : Nat), Vals xs us → Vals (xs.drop n) (us.drop n)
  | _, _, 0, r => r
  | _, _, _ + 1, .nil => .nil
  | _, _, n + 1, .cons _ t => Vals.drop n t
def RelO : Option V → Option Value → Prop
  | some v, some u => RelV v u
  | none, none => True
  | _, _ => False
def KV {κ : Type} : List (κ × V) → List (κ × Value) → Prop := Paired fun (p : κ × V) (q : κ × Value) => p.1 = q.1 ∧ RelV p.2 q.2

/-- a key of a dict (00_mix): an int or a text -/
def kV : Key → V
  | .inl i => .int i
  | .inr x => .str x

/-- what stands at a tracked address -/
inductive HO where
  /-- a list -/
  | lst (xs : List V)
  /-- a tuple (never changes) -/
  | tup (xs : List V)
  /-- a dict whose keys are ints and texts; one whose keys are tuples of ints and texts (the empty one is both) -/
  | dK (kvs : List (Key × V)) | dT (kvs : List (List Key × V))
  /-- a set of ints: its members, its size -/
  | set (S : Int → Bool) (n : Nat)
  /-- an instance of the class at C, its dict at dx, its attributes -/
  | ins (C dx : Addr) (fs : List (Str × V))
  /-- the dict of the instance at x -/
  | own (x : Addr)
  /-- the dict of an exception -/
  | xd (fs : List (Str × V))
  /-- a bound method, f of x -/
  | met (f x : Addr)
  /-- a range object lo, lo + 1, .. below hi -/
  | rng (lo hi : Int)
  /-- a thing that is known to the object (the script; a dict while a loop walks it): read, never written while it is so -/
  | frz (o : Obj) (u : HO)
  /-- a code object's table -/
  | tbl (ps : Array Value)
  /-- any other thing, by what is true of its one object (a def of one's own: SetO a S n := HO.ext fun h => ..) -/
  | ext (φ : Heap → Prop)

abbrev Hp := Addr → Option HO
def upd (H : Hp) (a : Addr) (o : HO) : Hp := fun b => if b = a then some o else H b
theorem upd_same {H : Hp} {a : Addr} {o : HO} : upd H a o a = some o := by unfold upd; rw [if_pos rfl]
theorem upd_ne {H : Hp} {a b : Addr} {o : HO} (h : b ≠ a) : upd H a o b = H b := by unfold upd; rw [if_neg h]
theorem upd_upd {H : Hp} {a : Addr} {o u : HO} : upd (upd H a o) a u = upd H a u := by
  funext b; unfold upd; split <;> rfl
/-- two objects of different content stand apart -/
theorem ne_of {H : Hp} {a b : Addr} {o u : HO} (h : H a = some o) (h' : H b = some u) (d : o ≠ u) : a ≠ b := by
  intro e; subst e; rw [h] at h'; exact d (Option.some.inj h')
theorem ne_of_none {H : Hp} {a b : Addr} {o : HO} (h : H a = some o) (h' : H b = none) : a ≠ b := by
  intro e; subst e; rw [h] at h'; cases h'

section
variable (P : Program) (w : World)
def ObjOk (H : Hp) (h : Heap) (a : Addr) : HO → Prop
  | .lst xs => xs.length ≤ sizeLine ∧ ∃ (its : List Value) (n : Nat), Vals xs its ∧ h.get? a = some { cls := .type "list", data := .seq its.toArray n }
  | .tup xs => xs.length ≤ sizeLine ∧ ∃ its : List Value, Vals xs its ∧ IsTup h a its.toArray
  | .dK kvs => kvs.length ≤ sizeLine ∧ (a == sysModules) = false ∧ ∃ vs, KV kvs vs ∧ h.DictOf (mixKind P w) a vs
  | .dT kvs => kvs.length ≤ sizeLine ∧ (a == sysModules) = false ∧ ∃ xs : List (List Key × Addr × Value),
      Paired (fun (p : List Key × V) (q : List Key × Addr × Value) => p.1 = q.1 ∧ H q.2.1 = some (.tup (p.1.map kV)) ∧ RelV p.2 q.2.2) kvs xs ∧
      ∃ o es ep, h.get? a = some o ∧ o.ExactDict ∧ o.data = .dict es ep ∧ es.toList = xs.map (entryOfKey (tupleKind (mixKind P w))) ∧ (xs.map (·.1)).Nodup
  | .set S n => h.SetOf (intKind P w) a S n
  | .ins C dx fs => H dx = some (.own a) ∧ fs.length ≤ 1000 ∧ dx ≠ a ∧ h.get? a = some (PySem.W.instObj C dx) ∧
      ∃ mA, h.Ns1 dx mA ∧ (∀ f, RelO (fs.lookup f) (mA f)) ∧ PySem.Within mA (fs.map (·.1))
  | .own _ => ∃ o, h.get? a = some o
  | .xd fs => ∃ mA, h.Ns1 a mA ∧ ∀ f, RelO (fs.lookup f) (mA f)
  | .rng lo hi => ∃ t u v, h.get? a = some { cls := .type "range", data := .fields #[.int lo t, .int hi u, .int 1 v] }
  | .frz o u => h.get? a = some o ∧ ObjOk H h a u
  | .tbl ps => h.get? a = some { cls := .none, data := .fields ps }
  | .met f x => h.get? a = some (PySem.W.methodObj (.ref f) (.ref x))
  | .ext φ => φ h ∧ (∃ o, h.get? a = some o) ∧ ∀ h1 h2 : Heap, φ h1 → (∀ o, h1.get? a = some o → h2.get? a = some o) → φ h2
/-- the abstract heap is held -/
def HOk (H : Hp) (h : Heap) : Prop := ∀ a o, H a = some o → ObjOk P w H h a o
end

section
variable {P : Program} {w : World} {H H' : Hp} {h h' : Heap} {a : Addr} {o : HO}
theorem ObjOk.lt (x : ObjOk P w H h a o) : a < h.objs.size := by
  cases o with
  | lst xs => obtain ⟨_, _, _, _, e⟩ := x; exact Heap.lt_size e
  | tup xs => obtain ⟨_, _, _, p⟩ := x; exact p.lt
  | dK kvs => obtain ⟨_, _, _, _, o, _, _, e, _⟩ := x; exact Heap.lt_size e
  | dT kvs => obtain ⟨_, _, _, _, o, _, _, e, _⟩ := x; exact Heap.lt_size e
  | set S n => obtain ⟨o, _, _, _, e, _⟩ := x; exact Heap.lt_size e
  | ins C dx fs => obtain ⟨_, _, _, e, _⟩ := x; exact Heap.lt_size e
  | own y => obtain ⟨_, e⟩ := x; exact Heap.lt_size e
  | xd fs => obtain ⟨_, ⟨_, _, _, e, _⟩, _⟩ := x; exact Heap.lt_size e
  | rng lo hi => obtain ⟨_, _, _, e⟩ := x; exact Heap.lt_size e
  | frz ob u => obtain ⟨e, _⟩ := x; exact Heap.lt_size e
  | tbl ps => exact Heap.lt_size (show h.get? a = some _ from x)
  | met f y => exact Heap.lt_size (show h.get? a = some _ from x)
  | ext φ => obtain ⟨_, ⟨_, e⟩, _⟩ := x; exact Heap.lt_size e
theorem Paired.mapP {α β : Type} {F G : α → β → Prop} {l₁ : List α} {l₂ : List β} (h : Paired F l₁ l₂) (f : ∀ a b, F a b → G a b) : Paired G l₁ l₂ := by
  induction h with
  | nil => exact .nil
  | cons r t ih => exact .cons (f _ _ r) ih
/-- what an object's description leans on: its own object, its own dict, the tuples -/
theorem ObjOk.stay (x : ObjOk P w H h a o) (k : ∀ b u, (b = a ∨ H b = some (.own a)) → h.get? b = some u → h'.get? b = some u)
    (ho : ∀ b, H b = some (.own a) → H' b = some (.own a)) (ht : ∀ b xs, H b = some (.tup xs) → H' b = some (.tup xs)) : ObjOk P w H' h' a o := by
  induction o with
  | lst xs => obtain ⟨z, its, n, r, e⟩ := x; exact ⟨z, its, n, r, k _ _ (.inl rfl) e⟩
  | tup xs => obtain ⟨z, its, r, ob, e, c⟩ := x; exact ⟨z, its, r, ob, k _ _ (.inl rfl) e, c⟩
  | dK kvs => obtain ⟨z, y, vs, r, ob, es, ep, e, c⟩ := x; exact ⟨z, y, vs, r, ob, es, ep, k _ _ (.inl rfl) e, c⟩
  | dT kvs =>
    obtain ⟨z, y, xs, r, ob, es, ep, e, c⟩ := x
    exact ⟨z, y, xs, Paired.mapP r fun p q z => ⟨z.1, ht _ _ z.2.1, z.2.2⟩, ob, es, ep, k _ _ (.inl rfl) e, c⟩
  | set S n => obtain ⟨ob, es, ep, t, e, c⟩ := x; exact ⟨ob, es, ep, t, k _ _ (.inl rfl) e, c⟩
  | ins C dx fs =>
    obtain ⟨d, z, ne, e, mA, ⟨od, es, ep, e2, c⟩, r⟩ := x
    exact ⟨ho _ d, z, ne, k _ _ (.inl rfl) e, mA, ⟨od, es, ep, k _ _ (.inr d) e2, c⟩, r⟩
  | own y => obtain ⟨ob, e⟩ := x; exact ⟨ob, k _ _ (.inl rfl) e⟩
  | xd fs => obtain ⟨mA, ⟨od, es, ep, e, c⟩, r⟩ := x; exact ⟨mA, ⟨od, es, ep, k _ _ (.inl rfl) e, c⟩, r⟩
  | rng lo hi => obtain ⟨t, u, v, e⟩ := x; exact ⟨t, u, v, k _ _ (.inl rfl) e⟩
  | frz ob u ih => obtain ⟨e, q⟩ := x; exact ⟨k _ _ (.inl rfl) e, ih q⟩
  | tbl ps =>
    have e : h.get? a = some { cls := .none, data := .fields ps } := x
    show h'.get? a = some { cls := .none, data := .fields ps }
    exact k a _ (.inl rfl) e
  | met f y =>
    have e : h.get? a = some (PySem.W.methodObj (.ref f) (.ref y)) := x
    show h'.get? a = some (PySem.W.methodObj (.ref f) (.ref y))
    exact k a _ (.inl rfl) e
  | ext φ => obtain ⟨p, ⟨o, e⟩, st⟩ := x; exact ⟨st _ _ p fun o q => k _ _ (.inl rfl) q, ⟨o, k _ _ (.inl rfl) e⟩, st⟩
theorem HOk.lt (x : HOk P w H h) (e : H a = some o) : a < h.objs.size := (x a o e).lt
theorem HOk.fresh (x : HOk P w H h) (e : h.objs.size ≤ a) : H a = none := by
  cases q : H a with
  | none => rfl
  | some u => exact absurd (Nat.lt_of_lt_of_le (x.lt q) e) (Nat.lt_irrefl _)
/-- every object of the heap is kept -/
theorem HOk.kept (x : HOk P w H h) (k : ∀ b u, h.get? b = some u → h'.get? b = some u) : HOk P w H h' := fun a o e =>
  (x a o e).stay (fun b u _ q => k b u q) (fun _ q => q) fun _ _ q => q
/-- a new object is laid and tracked -/
theorem HOk.laid (x : HOk P w H h) (k : ∀ b u, h.get? b = some u → h'.get? b = some u) (hp : h.objs.size ≤ a) (new : ObjOk P w (upd H a o) h' a o) : HOk P w (upd H a o) h' := fun b u e => by
  have hn := x.fresh hp
  by_cases hb : b = a
  · subst hb; rw [upd_same] at e; cases e; exact new
  · rw [upd_ne hb] at e
    exact (x b u e).stay (fun c v _ q => k c v q) (fun c q => by rw [upd_ne (ne_of_none q hn)]; exact q) fun c xs q => by rw [upd_ne (ne_of_none q hn)]; exact q
end

/-- what may be read as u: it is u, or a known u -/
def Rd (H : Hp) (a : Addr) (u : HO) : Prop := H a = some u ∨ ∃ o, H a = some (.frz o u)
theorem Rd.ok {P : Program} {w : World} {H : Hp} {h : Heap} {a : Addr} {u : HO} (r : Rd H a u) (x : HOk P w H h) : ObjOk P w H h a u := by
  rcases r with r | ⟨o, r⟩
  · exact x a u r
  · obtain ⟨_, q⟩ := x a _ r
    exact q
/-- what may be written -/
def Mut : Option HO → Prop
  | some (.lst _) => True
  | some (.dK _) => True
  | some (.dT _) => True
  | some (.set _ _) => True
  | some (.ins _ _ _) => True
  | some (.ext _) => True
  | _ => False
section
variable {P : Program} {w : World} {H : Hp} {h h' : Heap} {x e : Addr} {o' : HO}
/-- the object at e is changed: x itself, or the dict of the instance x -/
theorem HOk.write (ok : HOk P w H h) (mu : Mut (H x)) (he : e = x ∨ H e = some (.own x)) (k : ∀ b u, b ≠ e → h.get? b = some u → h'.get? b = some u) (heo : ∃ u, h'.get? e = some u)
    (new : ObjOk P w (upd H x o') h' x o') : HOk P w (upd H x o') h' := fun b u q => by
  have nown : ∀ c y, H c = some (.own y) → c ≠ x := fun c y r z => by subst z; rw [r] at mu; exact mu
  have ntup : ∀ c xs, H c = some (.tup xs) → c ≠ x := fun c xs r z => by subst z; rw [r] at mu; exact mu
  by_cases hb : b = x
  · subst hb; rw [upd_same] at q; cases q; exact new
  · rw [upd_ne hb] at q
    by_cases hbe : b = e
    · have q' : H b = some (.own x) := by
        rcases he with z | z
        · exact absurd (hbe.trans z) hb
        · rw [hbe]; exact z
      rw [q] at q'; cases q'
      obtain ⟨v, hv⟩ := heo
      exact ⟨v, by rw [hbe]; exact hv⟩
    · refine (ok b u q).stay (fun c v hc r => k c v ?_ r) (fun c r => by rw [upd_ne (nown c b r)]; exact r) fun c xs r => by rw [upd_ne (ntup c xs r)]; exact r
      rcases hc with rfl | hc
      · exact hbe
      · rintro rfl
        rcases he with z | z
        · exact nown c b hc z
        · rw [hc] at z; cases z; exact hb rfl
end

/-! ### kept unless tracked; of the frames at fs (the callers') the slots may change (an exception that passes writes there); of the records at ex (iterators) nothing is said -/
structure Un (fs ex : List Addr) (H H' : Hp) (h h' : Heap) : Prop where
  keep : ∀ b o, h.get? b = some o → H b = none → b ∉ fs → b ∉ ex → h'.get? b = some o
  slot : ∀ b o, h.get? b = some o → H b = none → b ∈ fs → b ∉ ex → ∃ sl, h'.get? b = some { o with slots := sl }
  free : ∀ b o, h.get? b = some o → H b = none → b ∉ ex → H' b = none
  there : ∀ b o, h.get? b = some o → b ∉ ex → ∃ o', h'.get? b = some o'
  tups : ∀ b xs, H b = some (.tup xs) → H' b = some (.tup xs)
  frzs : ∀ b o u, H b = some (.frz o u) → H' b = some (.frz o u)
  tbls : ∀ b ps, H b = some (.tbl ps) → ∃ more, H' b = some (.tbl (ps ++ more))
section
variable {fs fs' ex ex' : List Addr} {H H1 H2 : Hp} {h h1 h2 h' : Heap} {a x e : Addr} {o : HO}
theorem Un.any (u : Un fs ex H H1 h h1) {b : Addr} {ob : Obj} (q : h.get? b = some ob) (n : H b = none) (hx : b ∉ ex) : ∃ sl, h1.get? b = some { ob with slots := sl } := by
  by_cases hb : b ∈ fs
  · exact u.slot b ob q n hb hx
  · exact ⟨ob.slots, u.keep b ob q n hb hx⟩
theorem Un.kept (k : ∀ b u, h.get? b = some u → h'.get? b = some u) : Un fs ex H H h h' :=
  ⟨fun b ob q _ _ _ => k b ob q, fun b ob q _ _ _ => ⟨ob.slots, k b ob q⟩, fun _ _ _ n _ => n, fun b ob q _ => ⟨ob, k b ob q⟩, fun _ _ q => q, fun _ _ _ q => q, fun _ ps q => ⟨#[], by rw [q]; simp⟩⟩
theorem Un.refl : Un fs ex H H h h := Un.kept fun _ _ q => q
theorem Un.laid (k : ∀ b u, h.get? b = some u → h'.get? b = some u) (hp : h.objs.size ≤ a) (hn : H a = none) : Un fs ex H (upd H a o) h h' where
  keep := fun b u q _ _ _ => k b u q
  slot := fun b u q _ _ _ => ⟨u.slots, k b u q⟩
  free := fun b u q n _ => by rw [upd_ne (Nat.ne_of_lt (Nat.lt_of_lt_of_le (Heap.lt_size q) hp))]; exact n
  there := fun b u q _ => ⟨u, k b u q⟩
  tups := fun b xs q => by rw [upd_ne (ne_of_none q hn)]; exact q
  frzs := fun b u xs q => by rw [upd_ne (ne_of_none q hn)]; exact q
  tbls := fun b ps q => ⟨#[], by rw [upd_ne (ne_of_none q hn), q]; simp⟩
theorem Un.write (mu : Mut (H x)) (he : e = x ∨ H e = some (.own x)) (k : ∀ b u, b ≠ e → h.get? b = some u → h'.get? b = some u) (heo : ∃ u, h'.get? e = some u) : Un fs ex H (upd H x o) h h' := by
  have hx : ∀ b, H b = none → b ≠ x := fun b n z => by subst z; rw [n] at mu; exact mu
  have hb : ∀ b, H b = none → b ≠ e := fun b n z => by
    subst z
    rcases he with r | r
    · exact hx b n r
    · rw [n] at r; cases r
  have hm : ∀ b u, H b = some u → ¬ Mut (some u) → b ≠ x := fun b u q nm z => by subst z; rw [q] at mu; exact nm mu
  refine ⟨fun b u q n _ _ => k b u (hb b n) q, fun b u q n _ _ => ⟨u.slots, k b u (hb b n) q⟩, fun b u q n _ => by rw [upd_ne (hx b n)]; exact n, fun b u q _ => ?_,
    fun b xs q => by rw [upd_ne (hm b _ q fun z => z)]; exact q, fun b u xs q => by rw [upd_ne (hm b _ q fun z => z)]; exact q, fun b ps q => ⟨#[], by rw [upd_ne (hm b _ q fun z => z), q]; simp⟩⟩
  by_cases hbe : b = e
  · subst hbe; exact heo
  · exact ⟨u, k b u hbe q⟩
end

/-! ### the heap without what is tracked -/
def trk (h : Heap) (H : Hp) : List Addr := (List.range h.objs.size).filter fun a => (H a).isSome
def hidT (h : Heap) (H : Hp) : Heap := PySem.W.hideAll h (trk h H)
theorem hidT_size (h : Heap) (H : Hp) : (hidT h H).objs.size = h.objs.size := PySem.W.hideAll_size _ _
theorem hidT_get {h : Heap} {H : Hp} {b : Addr} {o : Obj} (e : h.get? b = some o) (n : H b = none) : (hidT h H).get? b = some o :=
  PySem.W.hideAll_get _ e fun hm => by
    have q : (H b).isSome = true := (List.mem_filter.mp hm).2
    rw [n] at q; simp at q
theorem of_hidT {h : Heap} {H : Hp} {b : Addr} {o : Obj} (e : (hidT h H).get? b = some o) : h.get? b = some o ∧ H b = none := by
  have e' : h.get? b = some o := PySem.W.of_hideAll (trk h H) e
  refine ⟨e', ?_⟩
  cases q : H b with
  | none => rfl
  | some x =>
    have hm : b ∈ trk h H := List.mem_filter.mpr ⟨List.mem_range.mpr (Heap.lt_size e'), by simp [q]⟩
    have z : (hidT h H).get? b = none := PySem.W.hideAll_none (trk h H) hm
    rw [z] at e; cases e

/-! ### OpenK's ledger, filled with every new object but one -/
def allNews (g h : Heap) (L : Addr) : List (Addr × Obj) := (List.range h.objs.size).filterMap fun a => if a = L ∨ (g.get? a).isSome = true then none else (h.get? a).map fun o => (a, o)
def rest (g h : Heap) (L d : Addr) : List (Addr × Obj) := (allNews g h L).filter fun p => decide (p.1 ≠ d)
end L2

namespace L2
open PySem PySem.Spec PyProof.Rows

/-- the module's facts, over the base: the heap at the law's entry without what is tracked there -/
structure Mod (K : PySem.W.Frag) (mg : Str → Option Value) (base : Heap) : Prop where
  kin : K.In base
  glob : base.Ns mainGlobals mg
  blt : ∃ mb, base.Ns builtinsNs mb ∧ ∀ x : Str, x ≠ "__name__" → mb x = bootBuiltins x
  nolimit : base.NoLimit
  seer : base.NoSeer

/-- the context: a def's body (or a comprehension's block) running. base: fixed through the whole law; s₀, H₀: the entry; outer: the frames whose slots others may change (a def's callers); stack: all frames that run;
   ex: iterators that were made ahead of the entry and are walked here (a comprehension's); fn: the names whose cells were made at the entry (a def: all; a comprehension's block: its own); calm: not within an except suite; pn: pins that every state bears; xe: what is wanted of an exception that leaves the code -/
structure Cx where
  prog : Program
  w : World
  K : PySem.W.Frag
  mg : Str → Option Value
  base : Heap
  A : Around
  N : List Str
  s₀ : Shared
  H₀ : Hp
  env : Env
  outer : List Env
  stack : List Env
  ex : List Addr
  fn : Str → Bool
  calm : Bool
  pn : List (Addr × Obj)
  xe : Value → Shared → Prop
/-- the callers' frames -/
def frs (l : List Env) : List Addr := l.filterMap (·.frame)
abbrev Cx.fs (X : Cx) : List Addr := frs X.outer

def Vis (sc : Scope) (x : Str) : Prop := sc.names.lookup x = some .local ∨ sc.names.lookup x = some .cell ∨ sc.names.lookup x = some .free
def Loc (sc : Scope) (x : Str) : Prop := sc.names.lookup x = some .local ∨ sc.names.lookup x = some .cell
def Look (env : Env) (h : Heap) (m : Str → Option Value) (x : Str) (u : Value) : Prop :=
  (env.kindOf x = some .local ∧ m x = some u) ∨ ((env.kindOf x = some .cell ∨ env.kindOf x = some .free) ∧ ∃ c, env.cells.lookup x = some c ∧ h.IsCell c (some u))

structure Cx.Ok (X : Cx) : Prop where
  mod : Mod X.K X.mg X.base
  kind : X.env.scope.kind = .function
  glob : X.env.globals = mainGlobals
  blt : X.env.builtins = builtinsNs
  above : X.s₀.heap.objs.size ≤ X.env.locals
  inj : ∀ x y c, X.env.cells.lookup x = some c → X.env.cells.lookup y = some c → x = y
  has : ∀ x, (X.env.kindOf x = some .cell ∨ X.env.kindOf x = some .free) → ∃ c, X.env.cells.lookup x = some c
  cab : ∀ x c, X.fn x = true → X.env.cells.lookup x = some c → X.s₀.heap.objs.size ≤ c
  hd : X.calm = true → X.A.handled = none
  frames : X.A.frames = some X.stack
  stk : X.stack = X.outer ∨ (X.stack = X.env :: X.outer ∧ X.env.frame = some X.env.locals)
  exf : ∀ b ∈ X.ex, b ≠ X.env.locals ∧ ∀ x c, X.env.cells.lookup x = some c → c ≠ b
  bs : ∀ b o, X.base.get? b = some o → X.s₀.heap.get? b = some o ∧ X.H₀ b = none
  bsz : X.base.objs.size ≤ X.s₀.heap.objs.size
  noex : ∀ b o, X.base.get? b = some o → b ∉ X.ex
  exfs : ∀ b ∈ X.ex, b ∉ X.fs
  funs : X.s₀.heap.FunFrames X.base X.outer
  frf : ∀ b ∈ X.fs, X.H₀ b = none

structure Inv (X : Cx) (pins : List (Addr × Obj)) (σ : List (Option V)) (H : Hp) (s : Shared) : Prop where
  ok : X.Ok
  os : s.os = X.s₀.os
  bare : AllBare s.gens
  base : Un X.fs X.ex X.H₀ H X.s₀.heap s.heap
  loc : ∃ m, s.heap.Ns X.env.locals m ∧ ∀ (i : Nat) (x : Str) (v : V), X.N[i]? = some x → σ[i]? = some (some v) → Vis X.env.scope x → ∃ u, RelV v u ∧ Look X.env s.heap m x u
  cell : ∀ x c, X.env.cells.lookup x = some c → ∃ v, s.heap.IsCell c v
  free : H X.env.locals = none
  freeC : ∀ x c, X.env.cells.lookup x = some c → H c = none
  pin : ∀ p ∈ X.pn ++ pins, s.heap.get? p.1 = some p.2 ∧ H p.1 = none ∧ p.1 ≠ X.env.locals ∧ p.1 ∉ X.fs ∧ ∀ v, p.2.data ≠ .cell v
  hok : HOk X.prog X.w H s.heap
  len : σ.length = X.N.length

section
variable {X : Cx} {pins : List (Addr × Obj)} {σ : List (Option V)} {H H' : Hp} {s : Shared} {h' : Heap}

theorem Cx.Ok.nofr (ok : X.Ok) {b : Addr} {o : Obj} (e : X.base.get? b = some o) : b ∉ X.fs := fun hb => by
  have := (ok.funs.mem hb).1
  rw [e] at this; cases this
theorem Inv.bs (I : Inv X pins σ H s) : ∀ b o, X.base.get? b = some o → s.heap.get? b = some o ∧ H b = none := fun b o e =>
  ⟨I.base.keep b o (I.ok.bs b o e).1 (I.ok.bs b o e).2 (I.ok.nofr e) (I.ok.noex b o e), I.base.free b o (I.ok.bs b o e).1 (I.ok.bs b o e).2 (I.ok.noex b o e)⟩
theorem Inv.bk (I : Inv X pins σ H s) : ∀ b o, X.base.get? b = some o → s.heap.get? b = some o := fun b o e => (I.bs b o e).1
theorem Inv.mod (I : Inv X pins σ H s) : Mod X.K X.mg X.base := I.ok.mod
theorem Inv.kIn (I : Inv X pins σ H s) : X.K.In s.heap := I.ok.mod.kin.keeps I.bk
theorem Inv.nolimit (I : Inv X pins σ H s) : s.heap.NoLimit := I.ok.mod.nolimit.keeps I.bk
theorem Inv.lt (I : Inv X pins σ H s) : X.env.locals < s.heap.objs.size := let ⟨_, hn, _⟩ := I.loc; hn.lt
theorem Inv.sz (I : Inv X pins σ H s) : X.s₀.heap.objs.size ≤ s.heap.objs.size := Nat.le_trans I.ok.above (Nat.le_of_lt I.lt)
theorem Inv.nofs (I : Inv X pins σ H s) {a : Addr} (h : s.heap.objs.size ≤ a) : a ∉ X.fs := fun hb => by
  obtain ⟨_, o, ho, _⟩ := I.ok.funs.mem hb
  exact absurd (Nat.lt_of_lt_of_le (Heap.lt_size ho) (Nat.le_trans I.sz h)) (Nat.lt_irrefl _)
theorem Inv.cne (I : Inv X pins σ H s) : ∀ x c, X.env.cells.lookup x = some c → c ≠ X.env.locals := fun x c e z => by
  obtain ⟨v, o, ho, hd⟩ := I.cell x c e
  obtain ⟨m, ⟨o', es, ep, ho', hd', _⟩, _⟩ := I.loc
  rw [z, ho'] at ho; cases ho; rw [hd'] at hd; cases hd
theorem Inv.funs (I : Inv X pins σ H s) : s.heap.FunFrames X.base X.outer := by
  have all : ∀ (l : List Env), (∀ b ∈ frs l, b ∈ X.fs) → X.s₀.heap.FunFrames X.base l → s.heap.FunFrames X.base l := by
    intro l
    induction l with
    | nil => intro _ _; trivial
    | cons env r ih =>
      intro hs hl
      obtain ⟨hk, ⟨L, o, hf, hn, ho, hd⟩, hr⟩ := hl
      have hL : L ∈ X.fs := hs L (by unfold frs; rw [List.filterMap_cons, hf]; exact List.mem_cons_self)
      obtain ⟨sl, e⟩ := I.base.slot L o ho (I.ok.frf L hL) hL fun z => I.ok.exfs L z hL
      exact ⟨hk, ⟨L, _, hf, hn, e, hd⟩, ih (fun b hb => hs b (by unfold frs; rw [List.filterMap_cons, hf]; exact List.mem_cons_of_mem _ hb)) hr⟩
  exact all X.outer (fun _ hb => hb) I.ok.funs

/-- the frames that run, for a call -/
theorem Inv.stack (I : Inv X pins σ H s) : s.heap.FunFrames X.base X.stack := by
  rcases I.ok.stk with e | ⟨e, hf⟩
  · rw [e]; exact I.funs
  · rw [e]
    obtain ⟨m, hn, _⟩ := I.loc
    refine .cons (by rw [I.ok.kind]; decide) hf hn ?_ I.funs
    exact Heap.get?_none_of_le (Nat.le_trans I.ok.bsz I.ok.above)
theorem Inv.stkSub (I : Inv X pins σ H s) : ∀ b ∈ frs X.stack, b ∈ X.env.locals :: X.fs := fun b hb => by
  rcases I.ok.stk with e | ⟨e, hf⟩
  · rw [e] at hb; exact List.mem_cons_of_mem _ hb
  · rw [e] at hb
    unfold frs at hb
    rw [List.filterMap_cons, hf] at hb
    exact hb
theorem Inv.stkFree (I : Inv X pins σ H s) : ∀ b ∈ frs X.stack, H b = none := fun b hb => by
  rcases List.mem_cons.mp (I.stkSub b hb) with e | hb
  · rw [e]; exact I.free
  · obtain ⟨_, o, ho, _⟩ := I.ok.funs.mem hb
    exact I.base.free b o ho (I.ok.frf b hb) fun z => I.ok.exfs b z hb

/-- THE STEP: the untracked objects but the frame and the records at ch are kept (the callers' frames up to slots), the frame's map is kept, the new abstract heap is held -/
theorem Inv.step {g' : Array GenState} {t' : Nat} {d' : Drawn} {ch : List Addr} (I : Inv X pins σ H s)
    (hch : ∀ b ∈ ch, (b ∈ X.ex ∨ X.s₀.heap.objs.size ≤ b) ∧ b ≠ X.env.locals ∧ (∀ x c, X.env.cells.lookup x = some c → c ≠ b) ∧ ∀ p ∈ X.pn ++ pins, p.1 ≠ b)
    (keep : ∀ b o, b ≠ X.env.locals → b ∉ X.fs → b ∉ ch → s.heap.get? b = some o → H b = none → h'.get? b = some o)
    (slot : ∀ b o, b ≠ X.env.locals → b ∈ X.fs → b ∉ ch → s.heap.get? b = some o → H b = none → ∃ sl, h'.get? b = some { o with slots := sl }) (free : ∀ b o, b ∉ ch → s.heap.get? b = some o → H b = none → H' b = none)
    (there : ∀ b o, b ∉ ch → s.heap.get? b = some o → ∃ o', h'.get? b = some o')
    (tups : ∀ b xs, H b = some (.tup xs) → H' b = some (.tup xs)) (frzs : ∀ b o u, H b = some (.frz o u) → H' b = some (.frz o u)) (tbls : ∀ b ps, H b = some (.tbl ps) → ∃ more, H' b = some (.tbl (ps ++ more)))
    (ns : ∀ m, s.heap.Ns X.env.locals m → h'.Ns X.env.locals m) (hok : HOk X.prog X.w H' h') (hg : AllBare g') :
    Inv X pins σ H' { s with heap := h', gens := g', drawn := d', toks := t' } := by
  have neL : ∀ b o, X.s₀.heap.get? b = some o → b ≠ X.env.locals := fun b o e => Nat.ne_of_lt (Nat.lt_of_lt_of_le (Heap.lt_size e) I.ok.above)
  have neC : ∀ b o, X.s₀.heap.get? b = some o → b ∉ X.ex → b ∉ ch := fun b o e hx hb => by
    rcases (hch b hb).1 with z | z
    · exact hx z
    · exact absurd (Nat.lt_of_lt_of_le (Heap.lt_size e) z) (Nat.lt_irrefl _)
  have cellK : ∀ x c, X.env.cells.lookup x = some c → ∀ v, s.heap.IsCell c v → h'.IsCell c v := fun x c e v ⟨o, ho, hd⟩ => by
    have nch : c ∉ ch := fun z => (hch c z).2.2.1 x c e rfl
    by_cases hc : c ∈ X.fs
    · obtain ⟨sl, q⟩ := slot c o (I.cne x c e) hc nch ho (I.freeC x c e)
      exact ⟨_, q, hd⟩
    · exact ⟨o, keep c o (I.cne x c e) hc nch ho (I.freeC x c e), hd⟩
  refine ⟨I.ok, I.os, hg, ⟨fun b o e n hb hx => ?_, fun b o e n hb hx => ?_, fun b o e n hx => ?_, fun b o e hx => ?_, fun b xs e => tups b xs (I.base.tups b xs e), fun b o xs e => frzs b o xs (I.base.frzs b o xs e), fun b ps e => ?_⟩, ?_, fun x c e => ?_, ?_, fun x c e => ?_, fun p hp => ?_, hok, I.len⟩
  · exact keep b o (neL b o e) hb (neC b o e hx) (I.base.keep b o e n hb hx) (I.base.free b o e n hx)
  · obtain ⟨sl, e1⟩ := I.base.slot b o e n hb hx
    obtain ⟨sl', e2⟩ := slot b _ (neL b o e) hb (neC b o e hx) e1 (I.base.free b o e n hx)
    exact ⟨sl', e2⟩
  · obtain ⟨o', e1⟩ := I.base.there b o e hx
    exact free b o' (neC b o e hx) e1 (I.base.free b o e n hx)
  · obtain ⟨o', e1⟩ := I.base.there b o e hx
    exact there b o' (neC b o e hx) e1
  · obtain ⟨m1, e1⟩ := I.base.tbls b ps e
    obtain ⟨m2, e2⟩ := tbls b _ e1
    exact ⟨m1 ++ m2, by rw [e2, Array.append_assoc]⟩
  · obtain ⟨m, hn, hl⟩ := I.loc
    refine ⟨m, ns m hn, fun i x v e1 e2 e3 => ?_⟩
    obtain ⟨u, r, l⟩ := hl i x v e1 e2 e3
    refine ⟨u, r, ?_⟩
    rcases l with l | ⟨k, c, e, z⟩
    · exact .inl l
    · exact .inr ⟨k, c, e, cellK x c e _ z⟩
  · obtain ⟨v, z⟩ := I.cell x c e
    exact ⟨v, cellK x c e v z⟩
  · obtain ⟨m, ⟨o, _, _, ho, _⟩, _⟩ := I.loc
    exact free _ o (fun z => (hch _ z).2.1 rfl) ho I.free
  · obtain ⟨v, o, ho, hd⟩ := I.cell x c e
    exact free c o (fun z => (hch c z).2.2.1 x c e rfl) ho (I.freeC x c e)
  · obtain ⟨e, n, ne, nf, d⟩ := I.pin p hp
    have nch : p.1 ∉ ch := fun z => (hch p.1 z).2.2.2 p hp rfl
    exact ⟨keep p.1 p.2 ne nf nch e n, free p.1 p.2 nch e n, ne, nf, d⟩
/-- .. where the frame's own object is kept too -/
theorem Inv.un {t' : Nat} (I : Inv X pins σ H s) (u : Un X.fs [] H H' s.heap h') (hok : HOk X.prog X.w H' h') : Inv X pins σ H' { s with heap := h', toks := t' } := by
  obtain ⟨m, ⟨o, es, ep, ho, r⟩, _⟩ := id I.loc
  obtain ⟨sl, hL⟩ := u.any ho I.free (by simp)
  exact I.step (g' := s.gens) (d' := s.drawn) (ch := []) (fun _ z => nomatch z) (fun b o _ hb _ e n => u.keep b o e n hb (by simp)) (fun b o _ hb _ e n => u.slot b o e n hb (by simp)) (fun b o _ e n => u.free b o e n (by simp)) (fun b o _ e => u.there b o e (by simp)) u.tups u.frzs u.tbls (fun m' hm => by
    obtain ⟨o', es', ep', ho', r'⟩ := hm
    rw [ho] at ho'; cases ho'
    exact ⟨_, es', ep', hL, r'⟩) hok I.bare
/-- behind a call (or a comprehension's block): the slots of this frame may have changed too, the records at ch may have turned -/
theorem Inv.call {g' : Array GenState} {t' : Nat} {d' : Drawn} {ch : List Addr} (I : Inv X pins σ H s) (u : Un (frs X.stack) ch H H' s.heap h') (hok : HOk X.prog X.w H' h') (hg : AllBare g')
    (hch : ∀ b ∈ ch, (b ∈ X.ex ∨ X.s₀.heap.objs.size ≤ b) ∧ b ≠ X.env.locals ∧ (∀ x c, X.env.cells.lookup x = some c → c ≠ b) ∧ ∀ p ∈ X.pn ++ pins, p.1 ≠ b) :
    Inv X pins σ H' { s with heap := h', gens := g', drawn := d', toks := t' } := by
  obtain ⟨m, ⟨o, es, ep, ho, r⟩, _⟩ := id I.loc
  obtain ⟨sl, hL⟩ := u.any ho I.free fun z => (hch _ z).2.1 rfl
  exact I.step (ch := ch) hch (fun b o hL hb hc e n => u.keep b o e n (fun z => (List.mem_cons.mp (I.stkSub b z)).elim hL hb) hc) (fun b o _ _ hc e n => u.any e n hc) (fun b o hc e n => u.free b o e n hc) (fun b o hc e => u.there b o e hc) u.tups u.frzs u.tbls (fun m' hm => by
    obtain ⟨o', es', ep', ho', r'⟩ := hm
    rw [ho] at ho'; cases ho'
    exact ⟨_, es', ep', hL, r'⟩) hok hg
/-- an untracked record of ours (an iterator) has turned -/
theorem Inv.turned {t' : Nat} {it : Addr} (I : Inv X pins σ H s) (k : ∀ b o, b ≠ it → s.heap.get? b = some o → h'.get? b = some o) (hn : H it = none) (hL : it ≠ X.env.locals)
    (h1 : it ∈ X.ex ∨ X.s₀.heap.objs.size ≤ it) (h2 : ∀ x c, X.env.cells.lookup x = some c → c ≠ it) (h3 : ∀ p ∈ X.pn ++ pins, p.1 ≠ it) : Inv X pins σ H { s with heap := h', toks := t' } := by
  have nit : ∀ b u, H b = some u → b ≠ it := fun b u e z => by rw [z, hn] at e; cases e
  refine I.step (g' := s.gens) (d' := s.drawn) (ch := [it]) (fun b hb => ?_) (fun b o _ _ hc e _ => k b o (fun z => hc (by simp [z])) e) (fun b o _ _ hc e _ => ⟨o.slots, k b o (fun z => hc (by simp [z])) e⟩) (fun _ _ _ _ n => n)
    (fun b o hc e => ⟨o, k b o (fun z => hc (by simp [z])) e⟩) (fun _ _ e => e) (fun _ _ _ e => e) (fun b ps e => ⟨#[], by rw [e]; simp⟩) (fun m hm => ?_) (fun b u e => ?_) I.bare
  · have e : b = it := by simpa using hb
    subst e
    exact ⟨h1, hL, h2, h3⟩
  · obtain ⟨o, es, ep, ho, r⟩ := hm
    exact ⟨o, es, ep, k _ o (Ne.symm hL) ho, r⟩
  · refine (I.hok b u e).stay (fun c v hc q => k c v ?_ q) (fun _ q => q) fun _ _ q => q
    rcases hc with z | z
    · rw [z]; exact nit b u e
    · exact nit c _ z
theorem Inv.tok (I : Inv X pins σ H s) (t : Nat) : Inv X pins σ H { s with toks := t } := I.un (h' := s.heap) (t' := t) Un.refl I.hok
/-- all objects kept -/
theorem Inv.kept {t' : Nat} (I : Inv X pins σ H s) (k : ∀ b u, s.heap.get? b = some u → h'.get? b = some u) : Inv X pins σ H { s with heap := h', toks := t' } := I.un (Un.kept k) (I.hok.kept k)
/-- a new object laid and tracked -/
theorem Inv.laid {a : Addr} {o : HO} {t' : Nat} (I : Inv X pins σ H s) (k : ∀ b u, s.heap.get? b = some u → h'.get? b = some u) (hp : s.heap.objs.size ≤ a) (new : ObjOk X.prog X.w (upd H a o) h' a o) :
    Inv X pins σ (upd H a o) { s with heap := h', toks := t' } := I.un (Un.laid k hp (I.hok.fresh hp)) (I.hok.laid k hp new)
/-- an object written -/
theorem Inv.write {x e : Addr} {o : HO} {t' : Nat} (I : Inv X pins σ H s) (mu : Mut (H x)) (he : e = x ∨ H e = some (.own x)) (k : ∀ b u, b ≠ e → s.heap.get? b = some u → h'.get? b = some u) (heo : ∃ u, h'.get? e = some u)
    (new : ObjOk X.prog X.w (upd H x o) h' x o) : Inv X pins σ (upd H x o) { s with heap := h', toks := t' } := I.un (Un.write mu he k heo) (I.hok.write mu he k heo new)
/-- forgetting slots, pins -/
theorem Inv.weak {σ' : List (Option V)} (I : Inv X pins σ H s) (hl : σ'.length = σ.length) (w : ∀ (i : Nat) v, σ'[i]? = some (some v) → σ[i]? = some (some v)) : Inv X pins σ' H s :=
  ⟨I.ok, I.os, I.bare, I.base, let ⟨m, hn, hl'⟩ := I.loc; ⟨m, hn, fun i x v e1 e2 e3 => hl' i x v e1 (w i v e2) e3⟩, I.cell, I.free, I.freeC, I.pin, I.hok, hl.trans I.len⟩
theorem Inv.pins_of {pins' : List (Addr × Obj)} (I : Inv X pins σ H s) (h : ∀ p ∈ pins', s.heap.get? p.1 = some p.2 ∧ H p.1 = none ∧ p.1 ≠ X.env.locals ∧ p.1 ∉ X.fs ∧ ∀ v, p.2.data ≠ .cell v) : Inv X pins' σ H s :=
  ⟨I.ok, I.os, I.bare, I.base, I.loc, I.cell, I.free, I.freeC, fun p hp => (List.mem_append.mp hp).elim (fun z => I.pin p (List.mem_append_left _ z)) (h p), I.hok, I.len⟩

theorem nodup_ix {N : List Str} (hN : N.Nodup) {i j : Nat} {x : Str} (a : N[i]? = some x) (b : N[j]? = some x) : i = j := by
  obtain ⟨h1, e1⟩ := List.getElem?_eq_some_iff.mp a
  obtain ⟨h2, e2⟩ := List.getElem?_eq_some_iff.mp b
  exact (List.getElem_inj hN).mp (e1.trans e2.symm)

/-- a name is stored; what changed -/
theorem store_ok2 {M : Model} {A : Around} {E : Value → Shared → Prop} {i : Nat} {x : Str} {v : V} {u : Value} {Q : Unit → Shared → Prop} (I : Inv X pins σ H s) (hN : X.N.Nodup) (hi : X.N[i]? = some x) (hx : Loc X.env.scope x) (r : RelV v u)
    (h : ∀ s', Inv X pins (σ.set i (some v)) H s' → (∃ a, Heap.SameBut a s.heap s'.heap ∧ (a = X.env.locals ∨ X.env.cells.lookup x = some a)) → Q () s') (hf : X.fn x = true ∨ X.env.scope.names.lookup x = some .local := by first | exact .inl rfl | exact .inr rfl | assumption) : wpAny M A (storeName X.env x u) Q E s := by
  obtain ⟨m, hn, hl⟩ := id I.loc
  have hcls : (X.env.scope.kind == .class || (X.env.scope.kind == .module && X.env.locals != X.env.globals)) = false := by rw [I.ok.kind]; rfl
  have hiσ : i < σ.length := by rw [I.len]; exact (List.getElem?_eq_some_iff.mp hi).1
  have cne := I.cne
  have tracked : ∀ {a : Addr} {h' : Heap}, (∃ o, s.heap.get? a = some o ∧ H a = none) → Heap.SameBut a s.heap h' → HOk X.prog X.w H h' := fun {a h'} ha hs b ob e => by
    obtain ⟨_, _, hfree⟩ := ha
    refine (I.hok b ob e).stay (fun c w' hc q => (hs.2 c ?_).trans q) (fun _ q => q) fun _ _ q => q
    rintro rfl
    rcases hc with rfl | hc
    · rw [hfree] at e; cases e
    · rw [hfree] at hc; cases hc
  rcases hx with hk | hk
  · refine wpAny_storeName_local hk hn (fun h' hn' hs => ?_) hcls
    obtain ⟨oL, _, _, hoL, _⟩ := id hn
    refine h _ ⟨I.ok, I.os, I.bare, ⟨fun b o e n hb hx => ?_, fun b o e n hb hx => ?_, I.base.free, fun b o e hx => ?_, I.base.tups, I.base.frzs, I.base.tbls⟩, ⟨_, hn', fun j y v' e1 e2 e3 => ?_⟩, fun y c e => ?_, I.free, I.freeC, fun p hp => ?_, tracked ⟨oL, hoL, I.free⟩ hs, by simpa using I.len⟩ ⟨_, hs, .inl rfl⟩
    · exact (hs.2 b (Nat.ne_of_lt (Nat.lt_of_lt_of_le (Heap.lt_size e) I.ok.above))).trans (I.base.keep b o e n hb hx)
    · obtain ⟨sl, e1⟩ := I.base.slot b o e n hb hx
      exact ⟨sl, (hs.2 b (Nat.ne_of_lt (Nat.lt_of_lt_of_le (Heap.lt_size e) I.ok.above))).trans e1⟩
    · obtain ⟨o', e1⟩ := I.base.there b o e hx
      exact ⟨o', (hs.2 b (Nat.ne_of_lt (Nat.lt_of_lt_of_le (Heap.lt_size e) I.ok.above))).trans e1⟩
    · by_cases hj : j = i
      · subst hj
        rw [hi] at e1; cases e1
        rw [List.getElem?_set_self hiσ] at e2
        cases e2
        exact ⟨u, r, .inl ⟨hk, by simp⟩⟩
      · rw [List.getElem?_set_ne (Ne.symm hj)] at e2
        obtain ⟨u', r', q⟩ := hl j y v' e1 e2 e3
        refine ⟨u', r', ?_⟩
        rcases q with ⟨k, e⟩ | ⟨k, c, e, z⟩
        · refine .inl ⟨k, ?_⟩
          have : y ≠ x := fun e => hj (nodup_ix hN e1 (e ▸ hi))
          simp [this, e]
        · exact .inr ⟨k, c, e, z.sameBut hs (cne y c e)⟩
    · obtain ⟨w', z⟩ := I.cell y c e
      exact ⟨w', z.sameBut hs (cne y c e)⟩
    · obtain ⟨e, n, ne, nf, d⟩ := I.pin p hp
      exact ⟨(hs.2 p.1 ne).trans e, n, ne, nf, d⟩
  · have hfn : X.fn x = true := by
      rcases hf with z | z
      · exact z
      · rw [z] at hk; cases hk
    obtain ⟨c, hc⟩ := I.ok.has x (.inl hk)
    obtain ⟨w', z⟩ := I.cell x c hc
    refine wpAny_storeName_cell I.ok.kind hk hc z (fun h' hc' hs => ?_)
    obtain ⟨oc, hoc, hocd⟩ := id z
    refine h { s with heap := h' } ⟨I.ok, I.os, I.bare, ⟨fun b o e n hb hx => ?_, fun b o e n hb hx => ?_, I.base.free, fun b o e hx => ?_, I.base.tups, I.base.frzs, I.base.tbls⟩, ⟨m, hn.sameBut hs (Ne.symm (cne x c hc)), fun j y v' e1 e2 e3 => ?_⟩, fun y c' e => ?_, I.free, I.freeC, fun p hp => ?_, tracked ⟨oc, hoc, I.freeC x c hc⟩ hs, by simpa using I.len⟩ ⟨c, hs, .inr hc⟩
    · exact (hs.2 b (Nat.ne_of_lt (Nat.lt_of_lt_of_le (Heap.lt_size e) (I.ok.cab x c hfn hc)))).trans (I.base.keep b o e n hb hx)
    · obtain ⟨sl, e1⟩ := I.base.slot b o e n hb hx
      exact ⟨sl, (hs.2 b (Nat.ne_of_lt (Nat.lt_of_lt_of_le (Heap.lt_size e) (I.ok.cab x c hfn hc)))).trans e1⟩
    · obtain ⟨o', e1⟩ := I.base.there b o e hx
      exact ⟨o', (hs.2 b (Nat.ne_of_lt (Nat.lt_of_lt_of_le (Heap.lt_size e) (I.ok.cab x c hfn hc)))).trans e1⟩
    · by_cases hj : j = i
      · subst hj
        rw [hi] at e1; cases e1
        rw [List.getElem?_set_self hiσ] at e2
        cases e2
        exact ⟨u, r, .inr ⟨.inl hk, c, hc, hc'⟩⟩
      · rw [List.getElem?_set_ne (Ne.symm hj)] at e2
        obtain ⟨u', r', q⟩ := hl j y v' e1 e2 e3
        refine ⟨u', r', ?_⟩
        rcases q with q | ⟨k, c', e, z'⟩
        · exact .inl q
        · refine .inr ⟨k, c', e, z'.sameBut hs ?_⟩
          rintro rfl
          exact hj (nodup_ix hN e1 (I.ok.inj _ _ _ e hc ▸ hi))
    · by_cases hcc : c' = c
      · subst hcc; exact ⟨_, hc'⟩
      · obtain ⟨w2, z2⟩ := I.cell y c' e
        exact ⟨w2, z2.sameBut hs hcc⟩
    · obtain ⟨e, n, ne, nf, d⟩ := I.pin p hp
      refine ⟨(hs.2 p.1 ?_).trans e, n, ne, nf, d⟩
      intro q
      rw [q, hoc] at e
      have q' : oc = p.2 := Option.some.inj e
      exact d w' (by rw [← q']; exact hocd)
theorem store_ok {M : Model} {A : Around} {E : Value → Shared → Prop} {i : Nat} {x : Str} {v : V} {u : Value} {Q : Unit → Shared → Prop} (I : Inv X pins σ H s) (hN : X.N.Nodup) (hi : X.N[i]? = some x) (hx : Loc X.env.scope x) (r : RelV v u)
    (h : ∀ s', Inv X pins (σ.set i (some v)) H s' → Q () s') (hf : X.fn x = true ∨ X.env.scope.names.lookup x = some .local := by first | exact .inl rfl | exact .inr rfl | assumption) : wpAny M A (storeName X.env x u) Q E s :=
  store_ok2 I hN hi hx r (fun s' I' _ => h s' I') hf
/-- behind a call or a block, the state as it is -/
theorem Inv.call' {s' : Shared} {ch : List Addr} (I : Inv X pins σ H s) (ho : s'.os = s.os) (u : Un (frs X.stack) ch H H' s.heap s'.heap) (hok : HOk X.prog X.w H' s'.heap) (hg : AllBare s'.gens)
    (hch : ∀ b ∈ ch, (b ∈ X.ex ∨ X.s₀.heap.objs.size ≤ b) ∧ b ≠ X.env.locals ∧ (∀ x c, X.env.cells.lookup x = some c → c ≠ b) ∧ ∀ p ∈ X.pn ++ pins, p.1 ≠ b) : Inv X pins σ H' s' := by
  obtain ⟨h', g', d', t', o'⟩ := s'
  have e : o' = s.os := ho
  subst e
  exact I.call (g' := g') (t' := t') (d' := d') u hok hg hch
end

/-! ### the judgements -/
/-- an exception: its class, its own dict's address (where it has one), the abstract heap behind it -/
abbrev XK := Value → Option Addr → Hp → Prop
abbrev St := List (Option V)
abbrev VK := V → Hp → Prop
/-- an expression's reading; a test's; an argument list's -/
abbrev TE := St → Hp → VK → Prop
abbrev TT := St → Hp → (Bool → Hp → Prop) → Prop
abbrev TA := St → Hp → (List V → Hp → Prop) → Prop
/-- what is wanted behind a statement -/
structure Ends where
  nx : St → Hp → Prop
  rt : VK
  bk : St → Hp → Prop := fun _ _ => False
  ct : St → Hp → Prop := fun _ _ => False
abbrev TS := Ends → St → Hp → Prop

inductive EP (X : Cx) (pins : List (Addr × Obj)) (σ : St) (Q : VK) (u : Value) (s' : Shared) : Prop
  | mk (v : _) (H' : _) (h1 : Inv X pins σ H' s') (h2 : RelV v u) (h3 : Q v H') : EP X pins σ Q u s'
def TP (X : Cx) (pins : List (Addr × Obj)) (σ : St) (Q : Bool → Hp → Prop) (b : Bool) (s' : Shared) : Prop := ∃ H', Inv X pins σ H' s' ∧ Q b H'
inductive AP (X : Cx) (pins : List (Addr × Obj)) (σ : St) (Q : List V → Hp → Prop) (us : List Value) (s' : Shared) : Prop
  | mk (vs : _) (H' : _) (h1 : Inv X pins σ H' s') (h2 : Vals vs us) (h3 : Q vs H') : AP X pins σ Q us s'
def SP (X : Cx) (pins : List (Addr × Obj)) (D : Ends) (f : Flow) (s' : Shared) : Prop :=
  match f with
  | .next => ∃ σ' H', Inv X pins σ' H' s' ∧ D.nx σ' H'
  | .brk => ∃ σ' H', Inv X pins σ' H' s' ∧ D.bk σ' H'
  | .cont => ∃ σ' H', Inv X pins σ' H' s' ∧ D.ct σ' H'
  | .ret u => ∃ v σ' H', Inv X pins σ' H' s' ∧ RelV v u ∧ D.rt v H'

def PE (X : Cx) (e : Expr) (t : TE) : Prop :=
  ∀ (pins : List (Addr × Obj)) (s : Shared) (σ : St) (H : Hp) (Q : VK), Inv X pins σ H s → t σ H Q → wpAny (model X.prog X.w) X.A (eval e X.env) (EP X pins σ Q) X.xe s
def PT (X : Cx) (e : Expr) (t : TT) : Prop :=
  ∀ (pins : List (Addr × Obj)) (s : Shared) (σ : St) (H : Hp) (Q : Bool → Hp → Prop), Inv X pins σ H s → t σ H Q → wpAny (model X.prog X.w) X.A (isTrue e X.env (eval e X.env)) (TP X pins σ Q) X.xe s
/-- a test whatever its 'whole' is (and, or) -/
def PW (X : Cx) (e : Expr) (t : TT) : Prop :=
  ∀ (whole : Sem Value) (pins : List (Addr × Obj)) (s : Shared) (σ : St) (H : Hp) (Q : Bool → Hp → Prop), Inv X pins σ H s → t σ H Q → wpAny (model X.prog X.w) X.A (isTrue e X.env whole) (TP X pins σ Q) X.xe s
theorem PW.pt {X : Cx} {e : Expr} {t : TT} (h : PW X e t) : PT X e t := h _
/-- an argument list (no star), from the left -/
def PA (X : Cx) (es : List Expr) (t : TA) : Prop :=
  ∀ (pos : Pos) (pins : List (Addr × Obj)) (s : Shared) (σ : St) (H : Hp) (Q : List V → Hp → Prop), Inv X pins σ H s → t σ H Q → wpAny (model X.prog X.w) X.A (spliced (backTo pos (starEach es X.env))) (AP X pins σ Q) X.xe s
def PS (X : Cx) (st : Stmt) (t : TS) : Prop :=
  ∀ (pins : List (Addr × Obj)) (s : Shared) (σ : St) (H : Hp) (D : Ends), Inv X pins σ H s → t D σ H → wpAny (model X.prog X.w) X.A (exec st X.env) (SP X pins D) X.xe s
def PSs (X : Cx) (st : List Stmt) (t : TS) : Prop :=
  ∀ (pins : List (Addr × Obj)) (s : Shared) (σ : St) (H : Hp) (D : Ends), Inv X pins σ H s → t D σ H → wpAny (model X.prog X.w) X.A (execs st X.env) (SP X pins D) X.xe s
/-- weaken the end -/
theorem thn {α : Type} {t : Sem α} {Q Q' : α → Shared → Prop} {M : Model} {A : Around} {E : Value → Shared → Prop} {s : Shared} (h : wpAny M A t Q E s) (hQ : ∀ a s, Q a s → Q' a s) : wpAny M A t Q' E s := wpAny_mono h hQ fun _ _ x => x
end L2

namespace L2
open PySem PySem.Spec PyProof.Rows
section
variable {X : Cx}

/-! ### names and constants -/
inductive tVar (i : Nat) (σ : St) (H : Hp) (Q : VK) : Prop
  | mk (v : _) (h1 : σ[i]? = some (some v)) (h2 : Q v H) : tVar i σ H Q
def tC (v : V) : TE := fun _ H Q => Q v H
theorem pe_var {i : Nat} {x : Str} {pos : Pos} (hN : X.N[i]? = some x) (hv : Vis X.env.scope x) (hd : (x == ("__debug__" : Str)) = false := by decide) (hcd : (x == ("__classdict__" : Str)) = false := by decide) : PE X (.Name x pos) (tVar i) := by
  intro pins s σ H Q I h
  obtain ⟨v, e, h⟩ := h
  obtain ⟨m, hn, hl⟩ := I.loc
  obtain ⟨u, r, l⟩ := hl i x v hN e hv
  have fin : EP X pins σ Q u s := ⟨v, H, I, r, h⟩
  rcases l with ⟨hk, hm⟩ | ⟨hk, c, hc, hcell⟩
  · exact wpAny_Name (wpAny_loadName_local I.ok.kind hk hn hm fin) hd
  · rcases hk with hk | hk
    · exact wpAny_Name (wpAny_loadName_cell I.ok.kind hk hc hcell fin) hd
    · exact wpAny_Name (wpAny_loadName_free I.ok.kind hk hc hcell fin hcd) hd
theorem pe_int {i j pos} : PE X (.Constant (.int i) j pos) (tC (.int i)) := fun _ _ _ H _ I h => wpAny_Constant_int ⟨.int i, H, I.tok _, ⟨_, rfl⟩, h⟩
theorem pe_bl {b j pos} : PE X (.Constant (.bool b) j pos) (tC (.bl b)) := fun _ _ _ H _ I h => Constant_bool ⟨.bl b, H, I, rfl, h⟩
theorem pe_non {j pos} : PE X (.Constant .none j pos) (tC .non) := fun _ _ _ H _ I h => Constant_none ⟨.non, H, I, rfl, h⟩
theorem pe_str {x j pos} : PE X (.Constant (.str x) j pos) (tC (.str x)) := fun _ _ _ H _ I h => Calls.Constant_str ⟨.str x, H, I.tok _, ⟨_, rfl⟩, h⟩

/-- a global name of the def -/
def Gl (X : Cx) (x : Str) : Prop := X.env.kindOf x = some .globalImplicit
theorem ld_glob {E : Value → Shared → Prop} {pins : List (Addr × Obj)} {s : Shared} {σ : St} {H : Hp} {x : Str} {u : Value} {pos : Pos} {Q : Value → Shared → Prop} (I : Inv X pins σ H s) (hg : Gl X x) (hm : X.mg x = some u) (h : Q u s)
    (hd : (x == ("__debug__" : Str)) = false := by decide) : wpAny (model X.prog X.w) X.A (eval (.Name x pos) X.env) Q E s :=
  Calls.Name_function_global I.ok.kind hg (Calls.loadGlobal_global (by rw [I.ok.glob]; exact I.mod.glob.keeps I.bk) hm h) hd
theorem ld_blt {E : Value → Shared → Prop} {pins : List (Addr × Obj)} {s : Shared} {σ : St} {H : Hp} {x : Str} {u : Value} {pos : Pos} {Q : Value → Shared → Prop} (I : Inv X pins σ H s) (hg : Gl X x) (hm : X.mg x = none) (hv : bootBuiltins x = some u) (h : Q u s)
    (hn : x ≠ "__name__" := by decide) (hd : (x == ("__debug__" : Str)) = false := by decide) : wpAny (model X.prog X.w) X.A (eval (.Name x pos) X.env) Q E s := by
  obtain ⟨mb, h1, h2⟩ := I.mod.blt
  exact Calls.Name_function_global I.ok.kind hg (Calls.loadGlobal_builtin (by rw [I.ok.glob]; exact I.mod.glob.keeps I.bk) hm (by rw [I.ok.blt]; exact h1.keeps I.bk) ((h2 x hn).trans hv) h) hd
/-- a module's constant, a class, a function, as a value -/
theorem pe_glob {x : Str} {v : V} {u : Value} {pos : Pos} (hg : Gl X x) (hm : X.mg x = some u) (r : RelV v u) (hd : (x == ("__debug__" : Str)) = false := by decide) : PE X (.Name x pos) (tC v) :=
  fun _ _ _ H _ I h => ld_glob I hg hm ⟨v, H, I, r, h⟩ hd
theorem pe_bltn {x : Str} {v : V} {u : Value} {pos : Pos} (hg : Gl X x) (hm : X.mg x = none) (hv : bootBuiltins x = some u) (r : RelV v u) (hn : x ≠ "__name__" := by decide) (hd : (x == ("__debug__" : Str)) = false := by decide) : PE X (.Name x pos) (tC v) :=
  fun _ _ _ H _ I h => ld_blt I hg hm hv ⟨v, H, I, r, h⟩ hn hd

/-! ### arithmetic -/
variable {a b : Expr} {ta tb : TE} {pos : Pos}
/-! ### comparisons -/
def PC (X : Cx) (op : CmpOp) (a b : Expr) (t : TE) : Prop :=
  ∀ (pins : List (Addr × Obj)) (s : Shared) (σ : St) (H : Hp) (Q : VK), Inv X pins σ H s → t σ H Q →
    wpAny (model X.prog X.w) X.A (eval a X.env) (fun v s₁ => wpAny (model X.prog X.w) X.A (eval b X.env) (fun u s₂ => wpAny (model X.prog X.w) X.A (compareOp op v u) (EP X pins σ Q) X.xe s₂) X.xe s₁) X.xe s
/-- a comparison as a value, as a test -/
def tB (t : TE) : TT := fun σ H Q => t σ H fun x H1 => ∃ c, x = .bl c ∧ Q c H1
theorem pt_cmp {op : CmpOp} {t : TE} (h : PC X op a b t) (h1 : behindInMarks op b = false := by first | exact nobehind _ (by decide) (by decide) | rfl) : PT X (.Compare a [op] [b] pos) (tB t) := by
  intro pins s σ H Q I hw
  refine wpAny_isTrue_Compare1 (thn (h pins s σ H _ I hw) fun v s1 h1 => thn h1 fun u s2 h2 => thn h2 fun c s3 ⟨x, H1, I1, r1, q1⟩ => ?_) h1
  obtain ⟨d, rfl, q⟩ := q1
  cases r1
  exact wpAny_truthy_bool ⟨H1, I1, q⟩
/-- an expression whose value is a bool, as a test -/
theorem pt_val {e : Expr} {t : TE} (h : PE X e t) (he : ∀ whole, isTrue e X.env whole = (do let v ← whole; standAt e.pos; holding [v] (truthy v)) := by intro _; rfl) : PT X e (tB t) := by
  intro pins s σ H Q I hw
  refine isTrue_plain (thn (h pins s σ H _ I hw) fun v s1 ⟨x, H1, I1, r1, q1⟩ => ?_) (he _)
  obtain ⟨d, rfl, q⟩ := q1
  cases r1
  exact wpAny_truthy_bool ⟨H1, I1, q⟩

/-! ### and, or, not -/
variable {tA tB' : TT} {rest : List Expr}
def tAnd (t u : TT) : TT := fun σ H Q => t σ H fun c H1 => if c = true then u σ H1 Q else Q false H1
def tOr (t u : TT) : TT := fun σ H Q => t σ H fun c H1 => if c = true then Q true H1 else u σ H1 Q
def tNot (t : TT) : TT := fun σ H Q => t σ H fun c H1 => Q (!c) H1
theorem pw_and1 (ha : PT X a tA) : PW X (.BoolOp .And [a] pos) tA := by
  intro wh pins s σ H Q I h
  refine isTrue_and (thn (ha pins s σ H Q I h) fun c s1 e => ?_)
  cases c with
  | true => exact isTrue_and_nil e
  | false => exact e
theorem pw_or1 (ha : PT X a tA) : PW X (.BoolOp .Or [a] pos) tA := by
  intro wh pins s σ H Q I h
  refine isTrue_or (thn (ha pins s σ H Q I h) fun c s1 e => ?_)
  cases c with
  | false => exact isTrue_or_nil e
  | true => exact e
theorem pw_and (ha : PT X a tA) (hb : PW X (.BoolOp .And (b :: rest) pos) tB') : PW X (.BoolOp .And (a :: b :: rest) pos) (tAnd tA tB') := by
  intro wh pins s σ H Q I h
  refine isTrue_and (thn (ha pins s σ H _ I h) fun c s1 ⟨H1, I1, q1⟩ => ?_)
  cases c with
  | true => exact hb wh pins s1 σ H1 Q I1 q1
  | false => exact ⟨H1, I1, q1⟩
theorem pw_or (ha : PT X a tA) (hb : PW X (.BoolOp .Or (b :: rest) pos) tB') : PW X (.BoolOp .Or (a :: b :: rest) pos) (tOr tA tB') := by
  intro wh pins s σ H Q I h
  refine isTrue_or (thn (ha pins s σ H _ I h) fun c s1 ⟨H1, I1, q1⟩ => ?_)
  cases c with
  | true => exact ⟨H1, I1, q1⟩
  | false => exact hb wh pins s1 σ H1 Q I1 q1
theorem pt_not (ha : PT X a tA) : PT X (.UnaryOp .Not a pos) (tNot tA) := by
  intro pins s σ H Q I h
  exact isTrue_not (ha pins s σ H (fun c H1 => Q (!c) H1) I h)
/-- .. as values (bools) -/
def tAndV (ta tb : TE) : TE := fun σ H Q => ta σ H fun x H1 => ∃ c, x = .bl c ∧ if c = true then tb σ H1 Q else Q (.bl false) H1
def tOrV (ta tb : TE) : TE := fun σ H Q => ta σ H fun x H1 => ∃ c, x = .bl c ∧ if c = true then Q (.bl true) H1 else tb σ H1 Q
def tNotV (ta : TE) : TE := fun σ H Q => ta σ H fun x H1 => ∃ c, x = .bl c ∧ Q (.bl (!c)) H1
theorem pe_one {op} {t : TE} (h : PE X a t) : PE X (.BoolOp op [a] pos) t := fun pins s σ H Q I hw => BoolOp_one (h pins s σ H Q I hw)
theorem pe_and (ha : PE X a ta) (hb : PE X (.BoolOp .And (b :: rest) pos) tb) : PE X (.BoolOp .And (a :: b :: rest) pos) (tAndV ta tb) := by
  intro pins s σ H Q I h
  refine BoolOp_and (thn (ha pins s σ H _ I h) fun v s1 ⟨x, H1, I1, r1, q1⟩ => ?_)
  obtain ⟨c, rfl, q1⟩ := q1
  cases r1
  refine wpAny_truthy_bool ?_
  cases c with
  | true => exact hb pins s1 σ H1 Q I1 q1
  | false => exact ⟨.bl false, H1, I1, rfl, q1⟩
theorem pe_or (ha : PE X a ta) (hb : PE X (.BoolOp .Or (b :: rest) pos) tb) : PE X (.BoolOp .Or (a :: b :: rest) pos) (tOrV ta tb) := by
  intro pins s σ H Q I h
  refine BoolOp_or (thn (ha pins s σ H _ I h) fun v s1 ⟨x, H1, I1, r1, q1⟩ => ?_)
  obtain ⟨c, rfl, q1⟩ := q1
  cases r1
  refine wpAny_truthy_bool ?_
  cases c with
  | false => exact hb pins s1 σ H1 Q I1 q1
  | true => exact ⟨.bl true, H1, I1, rfl, q1⟩
theorem pe_not (ha : PE X a ta) : PE X (.UnaryOp .Not a pos) (tNotV ta) := by
  intro pins s σ H Q I h
  refine UnaryOp_ (thn (ha pins s σ H _ I h) fun v s1 ⟨x, H1, I1, r1, q1⟩ => ?_)
  obtain ⟨c, rfl, q1⟩ := q1
  cases r1
  exact not_of (wpAny_truthy_bool ⟨.bl (!c), H1, I1, rfl, q1⟩)
end
end L2

namespace L2
open PySem PySem.Spec PyProof.Rows

/-! ### a list, a tuple that is read: tracked, frozen, or an object of the module -/
def SqL (K : PySem.W.Frag) (H : Hp) (a : Addr) (xs : List V) : Prop :=
  Rd H a (.lst xs) ∨
    ∃ (o : Obj) (its : Array Value) (n : Nat), K.lookup a = some o ∧ o.cls = .type "list" ∧ o.dict = none ∧ o.data = .seq its n ∧ its.size ≤ sizeLine ∧ Vals xs its.toList
def SqT (K : PySem.W.Frag) (H : Hp) (a : Addr) (xs : List V) : Prop :=
  Rd H a (.tup xs) ∨
    ∃ (o : Obj) (its : Array Value) (n : Nat), K.lookup a = some o ∧ o.cls = .type "tuple" ∧ o.data = .seq its n ∧ its.size ≤ sizeLine ∧ Vals xs its.toList
def absV : Value → Option V
  | .none => some .non
  | .bool b => some (.bl b)
  | .int i _ => some (.int i)
  | .str x _ => some (.str x)
  | .bytes b _ => some (.byt b)
  | .float b _ => some (.flt b)
  | .ref a => some (.ref a)
  | .type n => some (.ty n)
  | _ => none
theorem RelV.abs {x : V} {u : Value} (r : RelV x u) : absV u = some x := by
  cases x with
  | non => cases r; rfl
  | bl _ => cases r; rfl
  | int _ => obtain ⟨t, rfl⟩ := r; rfl
  | str _ => obtain ⟨t, rfl⟩ := r; rfl
  | byt _ => obtain ⟨t, rfl⟩ := r; rfl
  | flt _ => obtain ⟨t, rfl⟩ := r; rfl
  | ref _ => cases r; rfl
  | ty _ => cases r; rfl
theorem RelV.inj {x y : V} {u : Value} (r : RelV x u) (q : RelV y u) : x = y := Option.some.inj (r.abs.symm.trans q.abs)
theorem Vals.inj {xs ys : List V} {us : List Value} (a : Vals xs us) (b : Vals ys us) : xs = ys := by
  induction a generalizing ys with
  | nil => cases b; rfl
  | cons r t ih => cases b with | cons r' t' => rw [r.inj r', ih t']
section
variable {X : Cx} {pins : List (Addr × Obj)} {σ : St} {H : Hp} {s : Shared} {a : Addr} {xs ys : List V}
theorem SqL.of {K : PySem.W.Frag} (h : H a = some (.lst xs)) : SqL K H a xs := .inl (.inl h)
theorem SqT.of {K : PySem.W.Frag} (h : H a = some (.tup xs)) : SqT K H a xs := .inl (.inl h)
theorem Inv.list (I : Inv X pins σ H s) (h : SqL X.K H a xs) : ∃ its : List Value, Vals xs its ∧ PlainL s.heap a its.toArray ∧ xs.length ≤ sizeLine := by
  rcases h with h | ⟨o, its, n, hk, hc, hd, hs, hz, r⟩
  · obtain ⟨z, its, n, r, e⟩ := h.ok I.hok
    exact ⟨its, r, ⟨_, n, e, rfl, rfl, rfl⟩, z⟩
  · refine ⟨its.toList, r, ⟨o, n, I.kIn a o hk, hc, hd, by simpa using hs⟩, ?_⟩
    have e := r.length
    simp only [Array.length_toList] at e
    lia
theorem Inv.tuple (I : Inv X pins σ H s) (h : SqT X.K H a xs) : ∃ its : List Value, Vals xs its ∧ IsTup s.heap a its.toArray ∧ xs.length ≤ sizeLine := by
  rcases h with h | ⟨o, its, n, hk, hc, hs, hz, r⟩
  · obtain ⟨z, its, r, p⟩ := h.ok I.hok
    exact ⟨its, r, p, z⟩
  · refine ⟨its.toList, r, ⟨o, I.kIn a o hk, hc, n, by simpa using hs⟩, ?_⟩
    have e := r.length
    simp only [Array.length_toList] at e
    lia
theorem Inv.list_inj (I : Inv X pins σ H s) (h : SqL X.K H a xs) (h' : SqL X.K H a ys) : xs = ys := by
  obtain ⟨its, r, ⟨o, n, e, _, _, d⟩, _⟩ := I.list h
  obtain ⟨its', r', ⟨o', n', e', _, _, d'⟩, _⟩ := I.list h'
  rw [e] at e'; cases e'
  rw [d] at d'
  injection d' with d1 _
  have : its = its' := by simpa using congrArg Array.toList d1
  subst this
  exact r.inj r'
theorem Inv.tuple_inj (I : Inv X pins σ H s) (h : SqT X.K H a xs) (h' : SqT X.K H a ys) : xs = ys := by
  obtain ⟨its, r, ⟨o, e, _, n, d⟩, _⟩ := I.tuple h
  obtain ⟨its', r', ⟨o', e', _, n', d'⟩, _⟩ := I.tuple h'
  rw [e] at e'; cases e'
  rw [d] at d'
  injection d' with d1 _
  have : its = its' := by simpa using congrArg Array.toList d1
  subst this
  exact r.inj r'
end

/-! ### another wish about exceptions -/
abbrev Cx.wish (X : Cx) (E : Value → Shared → Prop) : Cx := { X with xe := E }
/-- no exception leaves -/
abbrev Cx.nox (X : Cx) : Cx := X.wish fun _ _ => False
theorem Cx.Ok.wish {X : Cx} (ok : X.Ok) (E : Value → Shared → Prop) : (X.wish E).Ok :=
  ⟨ok.mod, ok.kind, ok.glob, ok.blt, ok.above, ok.inj, ok.has, ok.cab, ok.hd, ok.frames, ok.stk, ok.exf, ok.bs, ok.bsz, ok.noex, ok.exfs, ok.funs, ok.frf⟩
theorem Cx.Ok.unwish {X : Cx} {E : Value → Shared → Prop} (ok : (X.wish E).Ok) : X.Ok :=
  ⟨ok.mod, ok.kind, ok.glob, ok.blt, ok.above, ok.inj, ok.has, ok.cab, ok.hd, ok.frames, ok.stk, ok.exf, ok.bs, ok.bsz, ok.noex, ok.exfs, ok.funs, ok.frf⟩
section
variable {X : Cx} {pins : List (Addr × Obj)} {σ : St} {H : Hp} {s : Shared} {E : Value → Shared → Prop}
theorem Inv.wish (I : Inv X pins σ H s) (E : Value → Shared → Prop) : Inv (X.wish E) pins σ H s := ⟨I.ok.wish E, I.os, I.bare, I.base, I.loc, I.cell, I.free, I.freeC, I.pin, I.hok, I.len⟩
theorem Inv.unwish (I : Inv (X.wish E) pins σ H s) : Inv X pins σ H s := ⟨I.ok.unwish, I.os, I.bare, I.base, I.loc, I.cell, I.free, I.freeC, I.pin, I.hok, I.len⟩
theorem SP.unwish {D : Ends} {f : Flow} {s' : Shared} (h : SP (X.wish E) pins D f s') : SP X pins D f s' := by
  cases f with
  | next => obtain ⟨σ', H', I, q⟩ := h; exact ⟨σ', H', I.unwish, q⟩
  | brk => obtain ⟨σ', H', I, q⟩ := h; exact ⟨σ', H', I.unwish, q⟩
  | cont => obtain ⟨σ', H', I, q⟩ := h; exact ⟨σ', H', I.unwish, q⟩
  | ret u => obtain ⟨v, σ', H', I, r, q⟩ := h; exact ⟨v, σ', H', I.unwish, r, q⟩
theorem PSs.nox {st : List Stmt} {t : TS} (h : PSs X.nox st t) : PSs X st t := fun pins s σ H D I hw =>
  wpAny_mono (h pins s σ H D (I.wish _) hw) (fun _ _ q => q.unwish) fun _ _ z => False.elim z
end

/-! ### blocks and small statements -/
section
variable {X : Cx} {st : Stmt} {rest : List Stmt} {t u : TS} {e : Expr} {te : TE} {pos : Pos}
def tNext : TS := fun D σ H => D.nx σ H
@[reducible] def Ends.to (D : Ends) (n : St → Hp → Prop) : Ends := { D with nx := n }
def tSeq (t u : TS) : TS := fun D σ H => t (D.to (u D)) σ H
theorem pss_nil : PSs X [] tNext := fun _ _ σ H _ I h => wpAny_execs_nil ⟨σ, H, I, h⟩
theorem pss_cons (h1 : PS X st t) (h2 : PSs X rest u) : PSs X (st :: rest) (tSeq t u) := by
  intro pins s σ H D I h
  refine wpAny_execs_cons (thn (h1 pins s σ H { D with nx := u D } I h) fun f s1 q => ?_)
  cases f with
  | next =>
    obtain ⟨σ', H', I', q⟩ := q
    exact h2 pins s1 σ' H' D I' q
  | ret v => exact q
  | brk => exact q
  | cont => exact q
theorem pss_one (h1 : PS X st t) : PSs X [st] t := by
  intro pins s σ H D I h
  refine wpAny_execs_cons (thn (h1 pins s σ H D I h) fun f s1 q => ?_)
  cases f with
  | next => exact wpAny_execs_nil q
  | ret v => exact q
  | brk => exact q
  | cont => exact q
/-- in a def's body nothing is shown -/
theorem Inv.quiet {pins : List (Addr × Obj)} {σ : St} {H : Hp} {s : Shared} (I : Inv X pins σ H s) : interactive X.env = false := by simp [interactive, I.ok.kind]
/-- an expression whose value is dropped -/
def tDrop (te : TE) : TS := fun D σ H => te σ H fun _ H1 => D.nx σ H1
theorem ps_expr (he : PE X e te) (hs : swapsWith e none pos.line X.env = pure false := by rfl) : PS X (.Expr e pos) (tDrop te) := by
  intro pins s σ H D I h
  exact wpAny_Expr_any (thn (he pins s σ H _ I h) fun v s1 ⟨x, H1, I1, r1, q1⟩ => ⟨σ, H1, I1, q1⟩) I.quiet hs
def tRet (te : TE) : TS := fun D σ H => te σ H D.rt
theorem ps_ret (he : PE X e te) : PS X (.Return (some e) pos) (tRet te) := by
  intro pins s σ H D I h
  exact wpAny_Return_some (thn (he pins s σ H _ I h) fun v s1 ⟨x, H1, I1, r1, q1⟩ => ⟨x, σ, H1, I1, r1, q1⟩)
def tIfS (c : TT) (t u : TS) : TS := fun D σ H => c σ H fun b H1 => if b = true then t D σ H1 else u D σ H1
theorem ps_if {c : Expr} {a b : List Stmt} {tc : TT} (hc : PT X c tc) (ha : PSs X a t) (hb : PSs X b u) : PS X (.If c a b pos) (tIfS tc t u) := by
  intro pins s σ H D I h
  refine wpAny_If (thn (hc pins s σ H _ I h) fun d s1 ⟨H1, I1, q1⟩ => ?_)
  cases d with
  | true => exact ha pins s1 σ H1 D I1 q1
  | false => exact hb pins s1 σ H1 D I1 q1
/-- code that the proof never comes to -/
def tNever : TS := fun _ _ _ => False
theorem ps_never : PS X st tNever := fun _ _ _ _ _ _ h => h.elim
theorem pss_never {sts : List Stmt} : PSs X sts tNever := fun _ _ _ _ _ _ h => h.elim
end

/-! ### targets -/
abbrev TG := V → St → Hp → (St → Hp → Prop) → Prop
abbrev TGs := List V → St → Hp → (St → Hp → Prop) → Prop
def PG (X : Cx) (target : Expr) (t : TG) : Prop :=
  ∀ (pins : List (Addr × Obj)) (s : Shared) (σ : St) (H : Hp) (v : V) (u : Value) (Q : St → Hp → Prop), Inv X pins σ H s → RelV v u → t v σ H Q →
    wpAny (model X.prog X.w) X.A (assign target X.env u) (fun _ s' => ∃ σ' H', Inv X pins σ' H' s' ∧ Q σ' H') X.xe s
/-- several targets, one after another -/
def PGs (X : Cx) (ts : List Expr) (t : TGs) : Prop :=
  ∀ (pins : List (Addr × Obj)) (s : Shared) (σ : St) (H : Hp) (vs : List V) (us : List Value) (Q : St → Hp → Prop), Inv X pins σ H s → Vals vs us → t vs σ H Q →
    wpAny (model X.prog X.w) X.A (assignInOrder ((assignEach ts X.env).map (·.2)) us) (fun _ s' => ∃ σ' H', Inv X pins σ' H' s' ∧ Q σ' H') X.xe s
/-- o[i] = v, by values -/
abbrev TSet := V → V → V → Hp → (Hp → Prop) → Prop
def PSet (X : Cx) (t : TSet) : Prop :=
  ∀ (pins : List (Addr × Obj)) (s : Shared) (σ : St) (H : Hp) (o i v : V) (ov iv u : Value) (Q : Hp → Prop), Inv X pins σ H s → RelV o ov → RelV i iv → RelV v u → t o i v H Q →
    wpAny (model X.prog X.w) X.A (setItem ov iv u) (fun _ s' => ∃ H', Inv X pins σ H' s' ∧ Q H') X.xe s
section
variable {X : Cx} {pos : Pos}
def gName (i : Nat) : TG := fun v σ H Q => Q (σ.set i (some v)) H
theorem pg_name {i : Nat} {x : Str} (hN : X.N.Nodup) (hi : X.N[i]? = some x) (hx : Loc X.env.scope x) (hf : X.fn x = true ∨ X.env.scope.names.lookup x = some .local := by first | exact .inl rfl | exact .inr rfl | assumption) : PG X (.Name x pos) (gName i) := by
  intro pins s σ H v u Q I r h
  exact wpAny_assign_Name (store_ok I hN hi hx r (fun s' I' => ⟨_, H, I', h⟩) hf)
def gNil : TGs := fun vs σ H Q => vs = [] ∧ Q σ H
inductive gCons (t : TG) (u : TGs) (vs : List V) (σ : St) (H : Hp) (Q : (St → Hp → Prop)) : Prop
  | mk (v : _) (r : _) (h1 : vs = v :: r) (h2 : t v σ H fun σ' H' => u r σ' H' Q) : gCons t u vs σ H Q
theorem pgs_nil : PGs X [] gNil := by
  intro pins s σ H vs us Q I r h
  obtain ⟨e, h⟩ := h
  subst e
  cases r
  exact assignInOrder_nil ⟨σ, H, I, h⟩
theorem pgs_cons {e : Expr} {es : List Expr} {t : TG} {u : TGs} (h1 : PG X e t) (h2 : PGs X es u)
    (hs : (assignEach (e :: es) X.env).map (·.2) = assign e X.env :: (assignEach es X.env).map (·.2) := by rfl) : PGs X (e :: es) (gCons t u) := by
  intro pins s σ H vs us Q I r h
  obtain ⟨v, vr, e1, h⟩ := h
  subst e1
  cases r with
  | cons r rr =>
    rw [hs]
    refine assignInOrder_cons (thn (h1 pins s σ H _ _ _ I r h) fun _ s1 ⟨σ1, H1, I1, q1⟩ => ?_)
    exact h2 pins s1 σ1 H1 _ _ Q I1 rr q1
/-- (a, b, ..) = a tuple of that length -/
inductive gTup (K : PySem.W.Frag) (n : Nat) (t : TGs) (v : V) (σ : St) (H : Hp) (Q : (St → Hp → Prop)) : Prop
  | mk (a : _) (xs : _) (h1 : v = .ref a) (h2 : SqT K H a xs) (h3 : xs.length = n) (h4 : t xs σ H Q) : gTup K n t v σ H Q
theorem pg_tup {es : List Expr} {k : Nat} {t : TGs} {n : Nat} (hc : X.calm = true) (h : PGs X es t)
    (hn : (assignEach es X.env).length = n := by rfl) (hst : (assignEach es X.env).findIdx? (·.1) = none := by rfl) : PG X (.Tuple es k pos) (gTup X.K n t) := by
  intro pins s σ H v u Q I r hw
  obtain ⟨a, xs, e1, hq, hl, hw⟩ := hw
  subst e1
  cases r
  obtain ⟨its, rv, ht, hz⟩ := I.tuple hq
  refine assign_Tuple_tuple (I.ok.hd hc) ht (by simp [hn, ← hl, rv.length]) hst fun h' hx => ?_
  have I1 : Inv X pins σ H { s with heap := h' } := I.kept (t' := s.toks) fun b o e => hx b o (Nat.ne_of_lt (Heap.lt_size e)) e
  exact h pins _ σ H xs _ Q I1 (by simpa using rv) hw
/-- o[i] = .. -/
def gSub (to ti : TE) (t : TSet) : TG := fun v σ H Q => to σ H fun o H1 => ti σ H1 fun i H2 => t o i v H2 fun H3 => Q σ H3
theorem pg_sub {o i : Expr} {to ti : TE} {t : TSet} (ho : PE X o to) (hi : PE X i ti) (hs : PSet X t)
    (ha : ∀ v, assign (.Subscript o i pos) X.env v = (do
      let ov ← holding [v] (eval o X.env)
      let iv ← holding [v, ov] (eval i X.env)
      standAt pos
      holding [v, ov, iv] (setItem ov iv v)
      release [v, ov, iv] []) := by intro _; rfl) : PG X (.Subscript o i pos) (gSub to ti t) := by
  intro pins s σ H v u Q I r h
  rw [ha]
  refine wpAny_bind (wpAny_holding (thn (ho pins s σ H _ I h) fun ov s1 ⟨x, H1, I1, r1, q1⟩ => ?_))
  refine wpAny_bind (wpAny_holding (thn (hi pins s1 σ H1 _ I1 q1) fun iv s2 ⟨y, H2, I2, r2, q2⟩ => ?_))
  refine wpAny_bind (wpAny_standAt (wpAny_bind (wpAny_holding (thn (hs pins s2 σ H2 x y v ov iv u _ I2 r1 r2 r q2) fun _ s3 ⟨H3, I3, q3⟩ => ?_))))
  exact wpAny_release ⟨σ, H3, I3, q3⟩
/-- target = value -/
def tAsg (te : TE) (g : TG) : TS := fun D σ H => te σ H fun x H1 => g x σ H1 D.nx
theorem ps_asg {tg e : Expr} {te : TE} {g : TG} (he : PE X e te) (hg : PG X tg g) (hs : swapsWithSole [tg] e pos.line X.env = pure false := by rfl) (hw : swappedStores [tg] e X.env = pure none := by rfl)
    (h1 : (assignEach [tg] X.env).map (·.2) = [assign tg X.env] := by rfl) : PS X (.Assign [tg] e pos) (tAsg te g) := by
  intro pins s σ H D I h
  refine wpAny_Assign_stores (thn (he pins s σ H _ I h) fun v s1 ⟨x, H1, I1, r1, q1⟩ => ?_) hs hw
  rw [h1]
  exact thn (hg pins s1 σ H1 x v _ I1 r1 q1) fun _ s2 q => q
/-- name = value -/
theorem ps_set {i : Nat} {x : Str} {e : Expr} {te : TE} {pos' : Pos} (hN : X.N.Nodup) (hi : X.N[i]? = some x) (hx : Loc X.env.scope x) (he : PE X e te) (hs : swapsWith e (some (.Name x pos')) pos.line X.env = pure false := by rfl) (hf : X.fn x = true ∨ X.env.scope.names.lookup x = some .local := by first | exact .inl rfl | exact .inr rfl | assumption) :
    PS X (.Assign [.Name x pos'] e pos) (tAsg te (gName i)) := by
  intro pins s σ H D I h
  refine wpAny_Assign_Name (thn (he pins s σ H _ I h) fun v s1 ⟨y, H1, I1, r1, q1⟩ => ?_) hs
  exact store_ok I1 hN hi hx r1 (fun s2 I2 => ⟨_, H1, I2, q1⟩) hf
/-- a, b = x, y with plain local names: stored from the right; the pair itself is not tracked (the opening rows as in PyProof/Rows/TupAssign.lean:23) -/
def tPar (i j : Nat) (ta : TA) : TS := fun D σ H => ta σ H fun vs H1 => ∃ v w, vs = [v, w] ∧ D.nx ((σ.set i (some v)).set j (some w)) H1
theorem ps_par {i j : Nat} {x y : Str} {a b : Expr} {ta : TA} {px py pt : Pos} {kt k2 pt2} (hc : X.calm = true) (hN : X.N.Nodup) (hi : X.N[i]? = some x) (hj : X.N[j]? = some y) (hij : i ≠ j)
    (hx : X.env.scope.names.lookup x = some .local) (hy : X.env.scope.names.lookup y = some .local) (ha : PA X [a, b] ta)
    (hw : swappedStores [.Tuple [.Name x px, .Name y py] kt pt] (.Tuple [a, b] k2 pt2) X.env = pure (some [x, y]))
    (hs : swapsWithSole [.Tuple [.Name x px, .Name y py] kt pt] (.Tuple [a, b] k2 pt2) pos.line X.env = pure false := by rfl) :
    PS X (.Assign [.Tuple [.Name x px, .Name y py] kt pt] (.Tuple [a, b] k2 pt2) pos) (tPar i j ta) := by
  intro pins s σ H D I h
  rw [exec_Assign_arm]
  refine wpAny_bind (wpAny_standAt ?_)
  rw [hs]
  refine wpAny_bind (wpAny_pure ?_)
  rw [if_neg (by decide)]
  refine wpAny_bind (Tuple_ (thn (ha _ pins s σ H _ I h) fun us s1 ⟨vs, H1, I1, r1, q1⟩ => ?_))
  obtain ⟨v, w, e1, q1⟩ := q1
  subst e1
  obtain ⟨u1, u2, rfl, rv, rw'⟩ : ∃ u1 u2, us = [u1, u2] ∧ RelV v u1 ∧ RelV w u2 := by
    cases r1 with
    | cons p q =>
      cases q with
      | cons p' q' =>
        cases q'
        exact ⟨_, _, rfl, p, p'⟩
  refine wpAny_newObj_type ?_ (by show 2 ≤ sizeLine; decide)
  have I2 : Inv X pins σ H1 { s1 with heap := s1.heap.push { cls := .type "tuple", data := .seq [u1, u2].toArray } } := I1.kept (t' := s1.toks) fun b o e => Heap.get?_push_of_some _ e
  rw [hw]
  refine wpAny_bind (wpAny_pure ?_)
  show wpAny (model X.prog X.w) X.A (do rule "assign.swapped-stores"; let items ← unpackItems (.ref s1.heap.objs.size) 2 none; assignInOrder [fun v => bindName X.env y v, fun v => bindName X.env x v] items.reverse; pure Flow.next) _ _ _
  refine wpAny_bind (wpAny_rule (wpAny_bind (unpackItems_tuple (items := #[u1, u2]) (I.ok.hd hc) (IsTup.new s1.heap _) fun h' hx' => ?_)))
  have I3 := I2.kept (h' := h') (t' := s1.toks) fun b o e => hx' b o (Nat.ne_of_lt (Heap.lt_size e)) e
  show wpAny _ _ (assignInOrder [fun v => bindName X.env y v, fun v => bindName X.env x v] [u2, u1] >>= fun _ => pure Flow.next) _ _ _
  refine wpAny_bind (assignInOrder_cons (wpAny_bindName (store_ok I3 hN hj (.inl hy) rw' (fun s2 I4 => ?_) (.inr hy))))
  refine assignInOrder_cons (wpAny_bindName (store_ok I4 hN hi (.inl hx) rv (fun s3 I5 => assignInOrder_nil (wpAny_pure ?_)) (.inr hx)))
  rw [List.set_comm _ _ (Ne.symm hij)] at I5
  exact ⟨_, H1, I5, q1⟩
end

/-! ### while -/
section
variable {X : Cx} {pos : Pos}
/-- the invariant W with its measure -/
def tWhile (c : TT) (tb : TS) : TS := fun D σ H => ∃ W : Nat → St → Hp → Prop, (∃ m, W m σ H) ∧ ∀ m σ H, W m σ H →
  c σ H fun b H1 => if b = true then ∃ N : St → Hp → Prop, (∀ σ' H', N σ' H' → ∃ m', m' < m ∧ W m' σ' H') ∧ tb { D with nx := N, ct := N, bk := D.nx } σ H1 else D.nx σ H1
theorem ps_while {c : Expr} {body : List Stmt} {tc : TT} {tb : TS} (hp : PassesOwn (model X.prog X.w) X.A X.env X.xe) (hc : PT X c tc) (hb : PSs X body tb) : PS X (.While c body [] pos) (tWhile tc tb) := by
  intro pins s σ H D I h
  obtain ⟨W, ⟨m0, w0⟩, turn⟩ := h
  refine wpAny_While (codeAny_whileLoop (fun n s' => ∃ σ' H', Inv X pins σ' H' s' ∧ W n σ' H') ?_ m0 ⟨σ, H, I, w0⟩)
  rintro n s1 ⟨σ1, H1, I1, w1⟩
  refine wpAny_passesOwn hp (thn (hc pins s1 σ1 H1 _ I1 (turn n σ1 H1 w1)) fun b s2 ⟨H2, I2, q2⟩ => ?_)
  cases b with
  | true =>
    obtain ⟨N, hN, q2⟩ := q2
    rw [if_pos rfl]
    refine wpAny_passesOwn hp (thn (hb pins s2 σ1 H2 _ I2 q2) fun f s3 q3 => ?_)
    cases f with
    | next =>
      obtain ⟨σ3, H3, I3, n3⟩ := q3
      obtain ⟨m', hm, w3⟩ := hN σ3 H3 n3
      exact ⟨m', hm, σ3, H3, I3, w3⟩
    | cont =>
      obtain ⟨σ3, H3, I3, n3⟩ := q3
      obtain ⟨m', hm, w3⟩ := hN σ3 H3 n3
      exact ⟨m', hm, σ3, H3, I3, w3⟩
    | brk => exact q3
    | ret v => exact q3
  | false =>
    rw [if_neg Bool.false_ne_true]
    exact wpAny_execs_nil ⟨σ1, H2, I2, q2⟩
end

/-! ### what a loop or a comprehension walks -/
/-- at turn i: it yields x (the heap may grow), or it stops -/
structure It where
  go : Nat → Hp → Prop
  yld : Nat → Hp → V → Hp → Prop
  stop : Nat → Hp → Prop
/-- the iterator's own objects may turn: they are not the frame's, not pinned, younger than the entry (or a comprehension's own) -/
def FpOk (X : Cx) (pins : List (Addr × Obj)) (H : Hp) (b : Addr) : Prop :=
  H b = none ∧ b ≠ X.env.locals ∧ b ∉ X.fs ∧ (b ∈ X.ex ∨ X.s₀.heap.objs.size ≤ b) ∧ (∀ x c, X.env.cells.lookup x = some c → c ≠ b) ∧ ∀ p ∈ X.pn ++ pins, p.1 ≠ b
theorem Inv.fpOk {X : Cx} {pins : List (Addr × Obj)} {σ : St} {H H' : Hp} {s : Shared} {b : Addr} (I : Inv X pins σ H s) (hb : s.heap.objs.size ≤ b) (hn : H' b = none) : FpOk X pins H' b := by
  refine ⟨hn, Nat.ne_of_gt (Nat.lt_of_lt_of_le I.lt hb), I.nofs hb, .inr (Nat.le_trans I.sz hb), fun x c e z => ?_, fun p hp z => ?_⟩
  · obtain ⟨v, q⟩ := I.cell x c e
    exact absurd (Nat.lt_of_lt_of_le q.lt (by rw [z]; exact hb)) (Nat.lt_irrefl _)
  · exact absurd (Nat.lt_of_lt_of_le (Heap.lt_size (I.pin p hp).1) (by rw [z]; exact hb)) (Nat.lt_irrefl _)
structure Turn (P : Program) (w : World) (K : PySem.W.Frag) (tg : Expr) (J : It) (fp : List Addr) (it : Addr) (tn : Nat → Heap → Prop) : Prop where
  mem : it ∈ fp
  obj : ∀ i h, tn i h → ∀ b ∈ fp, ∃ o, h.get? b = some o ∧ ∀ v, o.data ≠ .cell v
  keep : ∀ i h h', tn i h → (∀ b ∈ fp, ∀ o, h.get? b = some o → h'.get? b = some o) → tn i h'
  item : ∀ (X : Cx), X.prog = P → X.w = w → X.K = K → X.calm = true → ∀ (i : Nat) (pins : List (Addr × Obj)) (s : Shared) (σ : St) (H : Hp) (E : Value → Shared → Prop), Inv X pins σ H s → (∀ b ∈ fp, FpOk X pins H b) → tn i s.heap → J.go i H →
    wpAny (model P w) X.A (pyNext (.ref it)) (fun r s1 => ∃ u, r = some u ∧
      wpAny (model P w) X.A (letOwnedTupleGo tg (.ref it) u) (fun _ s2 => ∃ x H', Inv X pins σ H' s2 ∧ RelV x u ∧ J.yld i H x H' ∧ tn (i + 1) s2.heap ∧ ∀ b ∈ fp, H' b = none) E s1) E s
  done : ∀ (X : Cx), X.prog = P → X.w = w → X.K = K → X.calm = true → ∀ (i : Nat) (pins : List (Addr × Obj)) (s : Shared) (σ : St) (H : Hp) (E : Value → Shared → Prop), Inv X pins σ H s → (∀ b ∈ fp, FpOk X pins H b) → tn i s.heap → J.stop i H →
    wpAny (model P w) X.A (pyNext (.ref it)) (fun r s1 => r = none ∧ Inv X pins σ H s1) E s
  self : ∀ (A : Around) (i : Nat) (s : Shared) (Q : Value → Shared → Prop) (E : Value → Shared → Prop), tn i s.heap → Q (.ref it) s → wpAny (model P w) A (pyIter (.ref it)) Q E s
abbrev TI := St → Hp → (It → Hp → Prop) → Prop
/-- an iterator has come -/
def PIE (X : Cx) (pins : List (Addr × Obj)) (σ : St) (tg : Expr) (R : It → Hp → Prop) (itv : Value) (s2 : Shared) : Prop :=
  ∃ (it : Addr) (fp : List Addr) (tn : Nat → Heap → Prop) (J : It) (H' : Hp), itv = .ref it ∧ Inv X pins σ H' s2 ∧ Turn X.prog X.w X.K tg J fp it tn ∧ tn 0 s2.heap ∧ (∀ b ∈ fp, FpOk X pins H' b) ∧ R J H'
def PI (X : Cx) (tg iter : Expr) (wi : TI) : Prop :=
  ∀ (pins : List (Addr × Obj)) (s : Shared) (σ : St) (H : Hp) (R : It → Hp → Prop), Inv X pins σ H s → wi σ H R →
    wpAny (model X.prog X.w) X.A (eval iter X.env) (fun v s1 => wpAny (model X.prog X.w) X.A (pyIter v) (PIE X pins σ tg R) X.xe s1) X.xe s

/-- the step ahead of the store is nothing for an iterator that keeps no tuple -/
theorem go_of {M : Model} {A : Around} {E : Value → Shared → Prop} {s : Shared} {tg : Expr} {it : Addr} {u : Value} {o : Obj} {n : String} {vs : Array Value} {Q : Unit → Shared → Prop} (ho : s.heap.get? it = some o) (hc : o.cls = .type n) (hd : o.data = .fields vs)
    (hn : ["enumerate", "zip", "dict_itemiterator", "dict_reverseitemiterator", "odict_iterator", "itertools.zip_longest", "itertools.pairwise"].contains n = false) (hQ : Q () s) : wpAny M A (letOwnedTupleGo tg (.ref it) u) Q E s := by
  unfold letOwnedTupleGo
  cases tg <;> first
    | exact wpAny_pure hQ
    | (cases u <;> first
        | exact wpAny_pure hQ
        | (refine wpAny_bind (wpAny_load ho ?_)
           rw [hc, hd]
           show wpAny M A (if (["enumerate", "zip", "dict_itemiterator", "dict_reverseitemiterator", "odict_iterator", "itertools.zip_longest", "itertools.pairwise"].contains n && vs[0]? == some (rawInt _)) = true then _ else _) Q E s
           rw [if_neg (by intro h; rw [hn, Bool.false_and] at h; cases h)]
           exact wpAny_pure hQ))

/-- the list at a, as it stands at each turn (a loop may append to it) -/
def Itl (K : PySem.W.Frag) (a : Addr) : It :=
  ⟨fun i H => ∃ xs x, SqL K H a xs ∧ xs[i]? = some x, fun i H x H' => H' = H ∧ ∀ xs, SqL K H a xs → xs[i]? = some x, fun i H => ∃ xs, SqL K H a xs ∧ xs.length ≤ i⟩
def Itt (K : PySem.W.Frag) (a : Addr) : It :=
  ⟨fun i H => ∃ xs x, SqT K H a xs ∧ xs[i]? = some x, fun i H x H' => H' = H ∧ ∀ xs, SqT K H a xs → xs[i]? = some x, fun i H => ∃ xs, SqT K H a xs ∧ xs.length ≤ i⟩
/-- lo, lo + 1, .. (n of them) -/
def Itr (lo : Int) (n : Nat) : It := ⟨fun i _ => i < n, fun i H x H' => H' = H ∧ x = .int (lo + i), fun i _ => n ≤ i⟩
theorem turn_list {P : Program} {w : World} {K : PySem.W.Frag} {tg : Expr} (a it : Addr) : Turn P w K tg (Itl K a) [it] it (fun i h => h.IsListIter it a i) where
  mem := by simp
  obj := fun i h st b hb => by
    have e : b = it := by simpa using hb
    subst e
    obtain ⟨o, e, c, d⟩ := st
    exact ⟨o, e, fun v z => by rw [d] at z; cases z⟩
  keep := fun i h h' st k => st.at fun o e => k it (by simp) o e
  item := by
    intro X hP hw hK hc i pins s σ H E I hf st hg
    subst hP hw hK
    obtain ⟨xs, x, hq, hx⟩ := hg
    obtain ⟨its, rv, p, hz⟩ := I.list hq
    obtain ⟨u, hu, ru⟩ := rv.get hx
    obtain ⟨f0, f1, f2, f3, f4, f5⟩ := hf it (by simp)
    refine wpAny_pyNext_list_item st p.isList (x := u) (by simpa using hu) fun h' st' sb => ?_
    have I1 : Inv X pins σ H { s with heap := h' } := I.turned (t' := s.toks) (fun b o hb e => (sb.2 b hb).trans e) f0 f1 f3 f4 f5
    obtain ⟨o, e, c, d⟩ := id st'
    exact ⟨u, rfl, go_of (s := { s with heap := h' }) e c d (by decide) ⟨x, H, I1, ru, ⟨rfl, fun ys hy => by rw [I.list_inj hy hq]; exact hx⟩, st', fun b hb => (hf b hb).1⟩⟩
  done := by
    intro X hP hw hK hc i pins s σ H E I hf st hg
    subst hP hw hK
    obtain ⟨xs, hq, hx⟩ := hg
    obtain ⟨its, rv, p, hz⟩ := I.list hq
    obtain ⟨f0, f1, f2, f3, f4, f5⟩ := hf it (by simp)
    have hl := rv.length
    exact wpAny_pyNext_list_end (I.ok.hd hc) st p.isList (by simp; lia) fun h' eb => ⟨rfl, I.turned (t' := s.toks) (fun b o hb e => eb b o hb e) f0 f1 f3 f4 f5⟩
  self := fun _ _ _ _ _ st h => wpAny_pyIter_listiter st h
theorem turn_tuple {P : Program} {w : World} {K : PySem.W.Frag} {tg : Expr} (a it : Addr) : Turn P w K tg (Itt K a) [it] it (fun i h => h.IsTupleIter it a i) where
  mem := by simp
  obj := fun i h st b hb => by
    have e : b = it := by simpa using hb
    subst e
    obtain ⟨o, e, c, d⟩ := st
    exact ⟨o, e, fun v z => by rw [d] at z; cases z⟩
  keep := fun i h h' st k => st.at fun o e => k it (by simp) o e
  item := by
    intro X hP hw hK hc i pins s σ H E I hf st hg
    subst hP hw hK
    obtain ⟨xs, x, hq, hx⟩ := hg
    obtain ⟨its, rv, p, hz⟩ := I.tuple hq
    obtain ⟨u, hu, ru⟩ := rv.get hx
    obtain ⟨f0, f1, f2, f3, f4, f5⟩ := hf it (by simp)
    refine wpAny_pyNext_tuple_item st (show s.heap.IsTuple a its.toArray from p) (x := u) (by simpa using hu) fun h' st' sb => ?_
    have I1 : Inv X pins σ H { s with heap := h' } := I.turned (t' := s.toks) (fun b o hb e => (sb.2 b hb).trans e) f0 f1 f3 f4 f5
    obtain ⟨o, e, c, d⟩ := id st'
    exact ⟨u, rfl, go_of (s := { s with heap := h' }) e c d (by decide) ⟨x, H, I1, ru, ⟨rfl, fun ys hy => by rw [I.tuple_inj hy hq]; exact hx⟩, st', fun b hb => (hf b hb).1⟩⟩
  done := by
    intro X hP hw hK hc i pins s σ H E I hf st hg
    subst hP hw hK
    obtain ⟨xs, hq, hx⟩ := hg
    obtain ⟨its, rv, p, hz⟩ := I.tuple hq
    obtain ⟨f0, f1, f2, f3, f4, f5⟩ := hf it (by simp)
    have hl := rv.length
    exact wpAny_pyNext_tuple_end (I.ok.hd hc) st (show s.heap.IsTuple a its.toArray from p) (by simp; lia) fun h' eb => ⟨rfl, I.turned (t' := s.toks) (fun b o hb e => eb b o hb e) f0 f1 f3 f4 f5⟩
  self := fun _ _ _ _ _ st h => wpAny_pyIter_tupleiter st h
theorem turn_range {P : Program} {w : World} {K : PySem.W.Frag} {tg : Expr} (it : Addr) (lo : Int) (n : Nat) : Turn P w K tg (Itr lo n) [it] it (fun i h => IsRangeIter h it (lo + (i : Nat) * 1) ((n : Int) - (i : Nat)) 1) where
  mem := by simp
  obj := fun i h st b hb => by
    have e : b = it := by simpa using hb
    subst e
    exact ⟨_, st, fun v z => by
      have z' : Data.fields _ = Data.cell v := z
      cases z'⟩
  keep := fun i h h' st k => k it (by simp) _ st
  item := by
    intro X hP hw hK hc i pins s σ H E I hf st hg
    subst hP hw hK
    obtain ⟨f0, f1, f2, f3, f4, f5⟩ := hf it (by simp)
    have W := Walks.range (prog := X.prog) (w := X.w) (I.ok.hd hc) it lo 1 n
    refine W.item i s _ _ hg st fun v h' tk hv st' kk => ?_
    obtain ⟨t, rfl⟩ := hv
    have I1 : Inv X pins σ H { s with heap := h', toks := tk } := I.turned (fun b o hb e => kk b o (by simpa using hb) e) f0 f1 f3 f4 f5
    refine ⟨_, rfl, go_of (s := { s with heap := h', toks := tk }) (n := "range_iterator") st' rfl rfl (by decide) ⟨.int (lo + i), H, I1, ⟨t, ?_⟩, ⟨rfl, rfl⟩, st', fun b hb => (hf b hb).1⟩⟩
    rw [Int.mul_one]
  done := by
    intro X hP hw hK hc i pins s σ H E I hf st hg
    subst hP hw hK
    obtain ⟨f0, f1, f2, f3, f4, f5⟩ := hf it (by simp)
    exact wpAny_pyNext_range_end (I.ok.hd hc) st (by have : n ≤ i := hg; lia) fun h' eb => ⟨rfl, I.turned (t' := s.toks) (fun b o hb e => eb b o hb e) f0 f1 f3 f4 f5⟩
  self := fun _ _ _ _ _ st h => wpAny_pyIter_rangeiter st h
end L2

namespace L2
open PySem PySem.Spec PyProof.Rows
section
variable {X : Cx} {tg : Expr}
def iList (K : PySem.W.Frag) (tl : TE) : TI := fun σ H R => tl σ H fun x H1 => ∃ a, x = .ref a ∧ (∃ xs, SqL K H1 a xs) ∧ R (Itl K a) H1
def iTup (K : PySem.W.Frag) (tl : TE) : TI := fun σ H R => tl σ H fun x H1 => ∃ a, x = .ref a ∧ (∃ xs, SqT K H1 a xs) ∧ R (Itt K a) H1
theorem pi_list {l : Expr} {tl : TE} (hl : PE X l tl) : PI X tg l (iList X.K tl) := by
  intro pins s σ H R I h
  refine thn (hl pins s σ H _ I h) fun v s1 ⟨x, H1, I1, r1, q1⟩ => ?_
  obtain ⟨a, e, ⟨xs, hq⟩, q⟩ := q1
  subst e
  cases r1
  obtain ⟨its, rv, p, hz⟩ := I1.list hq
  refine wpAny_pyIter_list p.isList ?_
  refine ⟨s1.heap.objs.size, [s1.heap.objs.size], _, _, H1, rfl, I1.kept (t' := s1.toks) fun b o e => Heap.get?_push_of_some _ e, turn_list a _, ⟨_, Heap.get?_push_size _ rfl, rfl, rfl⟩, fun b hb => ?_, q⟩
  have e : b = s1.heap.objs.size := by simpa using hb
  subst e
  exact I1.fpOk (Nat.le_refl _) (I1.hok.fresh (Nat.le_refl _))
theorem pi_tup {l : Expr} {tl : TE} (hl : PE X l tl) : PI X tg l (iTup X.K tl) := by
  intro pins s σ H R I h
  refine thn (hl pins s σ H _ I h) fun v s1 ⟨x, H1, I1, r1, q1⟩ => ?_
  obtain ⟨a, e, ⟨xs, hq⟩, q⟩ := q1
  subst e
  cases r1
  obtain ⟨its, rv, p, hz⟩ := I1.tuple hq
  refine wpAny_pyIter_tuple (show s1.heap.IsTuple a its.toArray from p) ?_
  refine ⟨s1.heap.objs.size, [s1.heap.objs.size], _, _, H1, rfl, I1.kept (t' := s1.toks) fun b o e => Heap.get?_push_of_some _ e, turn_tuple a _, ⟨_, Heap.get?_push_size _ rfl, rfl, rfl⟩, fun b hb => ?_, q⟩
  have e : b = s1.heap.objs.size := by simpa using hb
  subst e
  exact I1.fpOk (Nat.le_refl _) (I1.hok.fresh (Nat.le_refl _))
/-- a range object just made, walked -/
theorem range_it {pins : List (Addr × Obj)} {σ : St} {H : Hp} {s : Shared} {R : It → Hp → Prop} {E : Value → Shared → Prop} {lo hi : Int} {t u v : Tok} {tk : Nat} (I : Inv X pins σ H s) (h1 : -(2 ^ 62) ≤ lo) (h2 : lo < 2 ^ 62) (h3 : -(2 ^ 62) ≤ hi) (h4 : hi < 2 ^ 62)
    (q : R (Itr lo (hi - lo).toNat) H) : wpAny (model X.prog X.w) X.A (pyIter (.ref s.heap.objs.size)) (PIE X pins σ tg R) E { s with heap := s.heap.push { cls := .type "range", data := .fields #[.int lo t, .int hi u, .int 1 v] }, toks := tk } := by
  refine wpAny_pyIter_range (IsRange.new ..) (small_one h1 h2 h3 h4) ?_
  have I1 : Inv X pins σ H { s with heap := s.heap.push { cls := .type "range", data := .fields #[.int lo t, .int hi u, .int 1 v] }, toks := tk } := I.kept fun b o e => Heap.get?_push_of_some _ e
  refine ⟨(s.heap.push { cls := .type "range", data := .fields #[.int lo t, .int hi u, .int 1 v] }).objs.size, [(s.heap.push { cls := .type "range", data := .fields #[.int lo t, .int hi u, .int 1 v] }).objs.size], _, _, H, rfl,
    I1.kept (t' := tk) fun b o e => Heap.get?_push_of_some _ e, turn_range _ lo (hi - lo).toNat, ?_, fun b hb => ?_, q⟩
  · have e1 : lo + ((0 : Nat) : Int) * 1 = lo := by simp
    have e2 : (((hi - lo).toNat : Nat) : Int) - ((0 : Nat) : Int) = Builtin.Range.rangeSize lo hi 1 := by rw [rangeSize_one]; split <;> lia
    show IsRangeIter _ _ (lo + ((0 : Nat) : Int) * 1) ((((hi - lo).toNat : Nat) : Int) - ((0 : Nat) : Int)) 1
    rw [e1, e2]
    exact Heap.get?_push_size _ rfl
  · have e : b = (s.heap.push { cls := .type "range", data := .fields #[.int lo t, .int hi u, .int 1 v] }).objs.size := by simpa using hb
    subst e
    exact I1.fpOk (Nat.le_refl _) (I1.hok.fresh (Nat.le_refl _))
def iRng1 (ta : TA) : TI := fun σ H R => ta σ H fun vs H1 => ∃ j : Int, vs = [.int j] ∧ -(2 ^ 62) ≤ j ∧ j < 2 ^ 62 ∧ R (Itr 0 j.toNat) H1
def iRng2 (ta : TA) : TI := fun σ H R => ta σ H fun vs H1 => ∃ i j : Int, vs = [.int i, .int j] ∧ (-(2 ^ 62) ≤ i ∧ i < 2 ^ 62 ∧ -(2 ^ 62) ≤ j ∧ j < 2 ^ 62) ∧ R (Itr i (j - i).toNat) H1
theorem pi_range1 {a : Expr} {ta : TA} {p pos : Pos} (hg : Gl X "range") (hm : X.mg "range" = none) (ha : PA X [a] ta) (hs : starEach [a] X.env = [(false, eval a X.env)] := by rfl) : PI X tg (.Call (.Name "range" p) [a] [] pos) (iRng1 ta) := by
  intro pins s σ H R I h
  refine Call_ (ld_blt I hg hm boot_range (PyProof.Rows.callWith_type1 (thn (ha pos pins s σ H _ I h) fun us s1 ⟨vs, H1, I1, r1, q1⟩ => ?_) hs rfl))
  obtain ⟨j, e, q1, q2, q⟩ := q1
  subst e
  cases r1 with
  | cons r rr =>
    cases rr
    obtain ⟨t, rfl⟩ := r
    exact call_range_1 (range_it I1 (by lia) (by lia) q1 q2 (by simpa using q))
theorem pi_range2 {a b : Expr} {ta : TA} {p pos : Pos} (hg : Gl X "range") (hm : X.mg "range" = none) (ha : PA X [a, b] ta) (hs : starEach [a, b] X.env = [(false, eval a X.env), (false, eval b X.env)] := by rfl) (hs2 : starEach [b] X.env = [(false, eval b X.env)] := by rfl) :
    PI X tg (.Call (.Name "range" p) [a, b] [] pos) (iRng2 ta) := by
  intro pins s σ H R I h
  refine Call_ (ld_blt I hg hm boot_range (PyProof.Rows.callWith_type1 (thn (ha pos pins s σ H _ I h) fun us s1 ⟨vs, H1, I1, r1, q1⟩ => ?_) (by rw [hs, hs2]) (by rw [hs2]; rfl)))
  obtain ⟨i, j, e, ⟨q1, q2, q3, q4⟩, q⟩ := q1
  subst e
  cases r1 with
  | cons r rr =>
    cases rr with
    | cons r' rr =>
      cases rr
      obtain ⟨t, rfl⟩ := r
      obtain ⟨t', rfl⟩ := r'
      exact call_range_2 (range_it I1 q1 q2 q3 q4 q)

/-! ### for -/
/-- W: the invariant by the turn and a measure; N: what the body is to reach -/
def tFor (wi : TI) (g : TG) (tb : TS) : TS := fun D σ H => wi σ H fun J H1 => ∃ W : Nat → Nat → St → Hp → Prop, (∃ m, W 0 m σ H1) ∧ ∀ i m σ H, W i m σ H →
  (J.stop i H ∧ D.nx σ H) ∨ (J.go i H ∧ ∃ N : St → Hp → Prop, (∀ σ' H', N σ' H' → ∃ m', m' < m ∧ W (i + 1) m' σ' H') ∧ ∀ x H', J.yld i H x H' → g x σ H' fun σ2 H2 => tb { D with nx := N, ct := N, bk := D.nx } σ2 H2)
/-- the records at fp as they stand -/
def pinsAt (fp : List Addr) (h : Heap) : List (Addr × Obj) := fp.filterMap fun b => (h.get? b).map fun o => (b, o)
theorem mem_pinsAt {fp : List Addr} {h : Heap} {b : Addr} {o : Obj} (hb : b ∈ fp) (e : h.get? b = some o) : (b, o) ∈ pinsAt fp h := List.mem_filterMap.mpr ⟨b, hb, by rw [e]; rfl⟩
theorem of_pinsAt {fp : List Addr} {h : Heap} {p : Addr × Obj} (hp : p ∈ pinsAt fp h) : p.1 ∈ fp ∧ h.get? p.1 = some p.2 := by
  obtain ⟨b, hb, e⟩ := List.mem_filterMap.mp hp
  cases q : h.get? b with
  | none => rw [q] at e; cases e
  | some o =>
    rw [q] at e
    have e' : (b, o) = p := Option.some.inj e
    subst e'
    exact ⟨hb, q⟩
theorem Inv.pinned {pins : List (Addr × Obj)} {σ : St} {H : Hp} {s : Shared} {fp : List Addr} (I : Inv X pins σ H s) (hf : ∀ b ∈ fp, FpOk X pins H b) (ho : ∀ b ∈ fp, ∃ o, s.heap.get? b = some o ∧ ∀ v, o.data ≠ .cell v) : Inv X (pins ++ pinsAt fp s.heap) σ H s :=
  I.pins_of fun p hp => (List.mem_append.mp hp).elim (fun z => I.pin p (List.mem_append_right _ z)) fun z => by
    obtain ⟨hb, e⟩ := of_pinsAt z
    obtain ⟨f0, f1, f2, _⟩ := hf p.1 hb
    obtain ⟨o, e', d⟩ := ho p.1 hb
    rw [e] at e'; cases e'
    exact ⟨e, f0, f1, f2, d⟩
theorem Inv.unpinned {pins pl : List (Addr × Obj)} {σ : St} {H : Hp} {s : Shared} (I : Inv X (pins ++ pl) σ H s) : Inv X pins σ H s := I.pins_of fun p hp => I.pin p (List.mem_append_right _ (List.mem_append_left _ hp))
theorem ps_for {iter : Expr} {body : List Stmt} {wi : TI} {g : TG} {tb : TS} {pos : Pos} (hp : PassesOwn (model X.prog X.w) X.A X.env X.xe) (hc : X.calm = true) (hi : PI X tg iter wi) (hg : PG X tg g) (hb : PSs X body tb)
    (hs : ∀ x, foldedSetIterable iter X.env x = pure x := by intro _; rfl) : PS X (.For tg iter body [] pos) (tFor wi g tb) := by
  intro pins s σ H D I h
  refine wpAny_For (thn (hi pins s σ H _ I h) fun v s1 h1 => thn h1 fun itv s2 h2 => ?_) hs
  obtain ⟨it, fp, tn, J, H2, e, I2, T, st2, f2, W, ⟨m0, w0⟩, turn⟩ := h2
  subst e
  -- what stays true of the iterator's objects through the loop
  have stat : ∀ {H' : Hp}, (∀ b ∈ fp, H' b = none) → ∀ b ∈ fp, FpOk X pins H' b := fun hn b hb => ⟨hn b hb, (f2 b hb).2⟩
  refine codeAny_forLoop_any (fun n s' => ∃ i σ' H', Inv X pins σ' H' s' ∧ tn i s'.heap ∧ (∀ b ∈ fp, H' b = none) ∧ W i n σ' H') ?_ m0 ⟨0, σ, H2, I2, st2, fun b hb => (f2 b hb).1, w0⟩
  rintro n s3 ⟨i, σ3, H3, I3, st3, fr3, w3⟩
  rcases turn i n σ3 H3 w3 with ⟨stop, qn⟩ | ⟨go, N, hN, step⟩
  · refine wpAny_passesOwn hp (thn (T.done X rfl rfl rfl hc i pins s3 σ3 H3 X.xe I3 (stat fr3) st3 stop) fun r s4 ⟨hr, I4⟩ => ?_)
    subst hr
    exact wpAny_execs_nil ⟨σ3, H3, I4, qn⟩
  · refine wpAny_passesOwn hp (thn (T.item X rfl rfl rfl hc i pins s3 σ3 H3 X.xe I3 (stat fr3) st3 go) fun r s4 ⟨u, hr, h4⟩ => ?_)
    subst hr
    refine wpAny_passesOwn hp (thn h4 fun _ s5 ⟨x, H5, I5, r5, y5, st5, fr5⟩ => ?_)
    have I5' := I5.pinned (stat fr5) (T.obj _ _ st5)
    refine wpAny_passesOwn hp (thn (hg _ s5 σ3 H5 x u _ I5' r5 (step x H5 y5)) fun _ s6 ⟨σ6, H6, I6, q6⟩ => ?_)
    refine wpAny_passesOwn hp (thn (hb _ s6 σ6 H6 _ I6 q6) fun f s7 q7 => ?_)
    have again : ∀ {σ7 : St} {H7 : Hp}, Inv X (pins ++ pinsAt fp s5.heap) σ7 H7 s7 → N σ7 H7 → ∃ m, m < n ∧ ∃ i σ' H', Inv X pins σ' H' s7 ∧ tn i s7.heap ∧ (∀ b ∈ fp, H' b = none) ∧ W i m σ' H' := fun {σ7 H7} I7 n7 => by
      obtain ⟨m', hm, w7⟩ := hN σ7 H7 n7
      refine ⟨m', hm, i + 1, σ7, H7, I7.unpinned, T.keep _ _ _ st5 fun b hb o e => (I7.pin (b, o) (List.mem_append_right _ (List.mem_append_right _ (mem_pinsAt hb e)))).1, fun b hb => ?_, w7⟩
      obtain ⟨o, e, d⟩ := T.obj _ _ st5 b hb
      exact (I7.pin (b, o) (List.mem_append_right _ (List.mem_append_right _ (mem_pinsAt hb e)))).2.1
    cases f with
    | next => obtain ⟨σ7, H7, I7, n7⟩ := q7; exact again I7 n7
    | cont => obtain ⟨σ7, H7, I7, n7⟩ := q7; exact again I7 n7
    | brk => obtain ⟨σ7, H7, I7, q7⟩ := q7; exact ⟨σ7, H7, I7.unpinned, q7⟩
    | ret v => obtain ⟨x7, σ7, H7, I7, r7, q7⟩ := q7; exact ⟨x7, σ7, H7, I7.unpinned, r7, q7⟩
end

/-! ### the forms one uses -/
/-- over a list that the body leaves as it is -/
theorem for_list {K : PySem.W.Frag} {a : Addr} {xs : List V} {g : TG} {tb : TS} {D : Ends} {σ : St} {H : Hp} (Pv : Nat → St → Hp → Prop) (h0 : Pv 0 σ H) (hl : ∀ i σ H, i ≤ xs.length → Pv i σ H → SqL K H a xs)
    (hs : ∀ i x σ H, xs[i]? = some x → Pv i σ H → g x σ H fun σ2 H2 => tb { D with nx := Pv (i + 1), ct := Pv (i + 1), bk := D.nx } σ2 H2) (hd : ∀ σ H, Pv xs.length σ H → D.nx σ H) :
    ∃ W : Nat → Nat → St → Hp → Prop, (∃ m, W 0 m σ H) ∧ ∀ i m σ H, W i m σ H →
      ((Itl K a).stop i H ∧ D.nx σ H) ∨ ((Itl K a).go i H ∧ ∃ N : St → Hp → Prop, (∀ σ' H', N σ' H' → ∃ m', m' < m ∧ W (i + 1) m' σ' H') ∧ ∀ x H', (Itl K a).yld i H x H' → g x σ H' fun σ2 H2 => tb { D with nx := N, ct := N, bk := D.nx } σ2 H2) := by
  refine ⟨fun i m σ H => m = xs.length - i ∧ i ≤ xs.length ∧ Pv i σ H, ⟨xs.length, by simp, Nat.zero_le _, h0⟩, ?_⟩
  rintro i m σ H ⟨rfl, hi, p⟩
  have q := hl i σ H hi p
  by_cases hlt : i < xs.length
  · refine .inr ⟨⟨xs, xs[i], q, by simp [hlt]⟩, Pv (i + 1), fun σ' H' p' => ⟨xs.length - (i + 1), by lia, rfl, hlt, p'⟩, fun x H' y => ?_⟩
    obtain ⟨e, y⟩ := y
    subst e
    exact hs i x σ _ (y xs q) p
  · have e : i = xs.length := by lia
    subst e
    exact .inl ⟨⟨xs, q, Nat.le_refl _⟩, hd σ H p⟩
theorem for_tup {K : PySem.W.Frag} {a : Addr} {xs : List V} {g : TG} {tb : TS} {D : Ends} {σ : St} {H : Hp} (Pv : Nat → St → Hp → Prop) (h0 : Pv 0 σ H) (hl : ∀ i σ H, i ≤ xs.length → Pv i σ H → SqT K H a xs)
    (hs : ∀ i x σ H, xs[i]? = some x → Pv i σ H → g x σ H fun σ2 H2 => tb { D with nx := Pv (i + 1), ct := Pv (i + 1), bk := D.nx } σ2 H2) (hd : ∀ σ H, Pv xs.length σ H → D.nx σ H) :
    ∃ W : Nat → Nat → St → Hp → Prop, (∃ m, W 0 m σ H) ∧ ∀ i m σ H, W i m σ H →
      ((Itt K a).stop i H ∧ D.nx σ H) ∨ ((Itt K a).go i H ∧ ∃ N : St → Hp → Prop, (∀ σ' H', N σ' H' → ∃ m', m' < m ∧ W (i + 1) m' σ' H') ∧ ∀ x H', (Itt K a).yld i H x H' → g x σ H' fun σ2 H2 => tb { D with nx := N, ct := N, bk := D.nx } σ2 H2) := by
  refine ⟨fun i m σ H => m = xs.length - i ∧ i ≤ xs.length ∧ Pv i σ H, ⟨xs.length, by simp, Nat.zero_le _, h0⟩, ?_⟩
  rintro i m σ H ⟨rfl, hi, p⟩
  have q := hl i σ H hi p
  by_cases hlt : i < xs.length
  · refine .inr ⟨⟨xs, xs[i], q, by simp [hlt]⟩, Pv (i + 1), fun σ' H' p' => ⟨xs.length - (i + 1), by lia, rfl, hlt, p'⟩, fun x H' y => ?_⟩
    obtain ⟨e, y⟩ := y
    subst e
    exact hs i x σ _ (y xs q) p
  · have e : i = xs.length := by lia
    subst e
    exact .inl ⟨⟨xs, q, Nat.le_refl _⟩, hd σ H p⟩
theorem for_range {lo : Int} {n : Nat} {g : TG} {tb : TS} {D : Ends} {σ : St} {H : Hp} (Pv : Nat → St → Hp → Prop) (h0 : Pv 0 σ H)
    (hs : ∀ i σ H, i < n → Pv i σ H → g (.int (lo + i)) σ H fun σ2 H2 => tb { D with nx := Pv (i + 1), ct := Pv (i + 1), bk := D.nx } σ2 H2) (hd : ∀ σ H, Pv n σ H → D.nx σ H) :
    ∃ W : Nat → Nat → St → Hp → Prop, (∃ m, W 0 m σ H) ∧ ∀ i m σ H, W i m σ H →
      ((Itr lo n).stop i H ∧ D.nx σ H) ∨ ((Itr lo n).go i H ∧ ∃ N : St → Hp → Prop, (∀ σ' H', N σ' H' → ∃ m', m' < m ∧ W (i + 1) m' σ' H') ∧ ∀ x H', (Itr lo n).yld i H x H' → g x σ H' fun σ2 H2 => tb { D with nx := N, ct := N, bk := D.nx } σ2 H2) := by
  refine ⟨fun i m σ H => m = n - i ∧ i ≤ n ∧ Pv i σ H, ⟨n, by simp, Nat.zero_le _, h0⟩, ?_⟩
  rintro i m σ H ⟨rfl, hi, p⟩
  by_cases hlt : i < n
  · refine .inr ⟨hlt, Pv (i + 1), fun σ' H' p' => ⟨n - (i + 1), by lia, rfl, hlt, p'⟩, fun x H' y => ?_⟩
    obtain ⟨e, y⟩ := y
    subst e y
    exact hs i σ _ hlt p
  · have e : i = n := by lia
    subst e
    exact .inl ⟨Nat.le_refl _, hd σ H p⟩
/-- while, by a word and a measure of the state -/
theorem while_by {c : TT} {tb : TS} {D : Ends} {σ : St} {H : Hp} (Pv : St → Hp → Prop) (μ : St → Hp → Nat) (h0 : Pv σ H)
    (hs : ∀ σ H, Pv σ H → c σ H fun b H1 => if b = true then tb { D with nx := fun σ' H' => Pv σ' H' ∧ μ σ' H' < μ σ H, ct := fun σ' H' => Pv σ' H' ∧ μ σ' H' < μ σ H, bk := D.nx } σ H1 else D.nx σ H1)
    (mono : ∀ σ H Q Q', (∀ b H1, Q b H1 → Q' b H1) → c σ H Q → c σ H Q') : tWhile c tb D σ H := by
  refine ⟨fun m σ H => m = μ σ H ∧ Pv σ H, ⟨_, rfl, h0⟩, ?_⟩
  rintro m σ H ⟨rfl, p⟩
  refine mono σ H _ _ (fun b H1 q => ?_) (hs σ H p)
  cases b with
  | true => exact ⟨_, fun σ' H' ⟨p', l⟩ => ⟨_, l, rfl, p'⟩, q⟩
  | false => exact q
end L2

namespace L2
open PySem PySem.Spec PyProof.Rows

abbrev R2 := V → V → Hp → VK → Prop
/-- a two-place operation on values: f is binaryOp op, inplaceOp op or compareOp op -/
def OpR (X : Cx) (f : Value → Value → Sem Value) (r : R2) : Prop :=
  ∀ (pins : List (Addr × Obj)) (s : Shared) (σ : St) (H : Hp) (x y : V) (v u : Value) (Q : VK), Inv X pins σ H s → RelV x v → RelV y u → r x y H Q →
    wpAny (model X.prog X.w) X.A (f v u) (EP X pins σ Q) X.xe s
/-- a one-place operation -/
def UnR (X : Cx) (f : Value → Sem Value) (r : V → Hp → VK → Prop) : Prop :=
  ∀ (pins : List (Addr × Obj)) (s : Shared) (σ : St) (H : Hp) (x : V) (v : Value) (Q : VK), Inv X pins σ H s → RelV x v → r x H Q →
    wpAny (model X.prog X.w) X.A (f v) (EP X pins σ Q) X.xe s
/-- a call of a value that is known (a builtin, a type) with values -/
def CallR (X : Cx) (f : Value) (r : List V → Hp → VK → Prop) : Prop :=
  ∀ (pins : List (Addr × Obj)) (s : Shared) (σ : St) (H : Hp) (xs : List V) (us : List Value) (Q : VK), Inv X pins σ H s → Vals xs us → r xs H Q →
    wpAny (model X.prog X.w) X.A (call f us) (EP X pins σ Q) X.xe s
def tOp (r : R2) (ta tb : TE) : TE := fun σ H Q => ta σ H fun x H1 => tb σ H1 fun y H2 => r x y H2 Q
def tUn (r : V → Hp → VK → Prop) (ta : TE) : TE := fun σ H Q => ta σ H fun x H1 => r x H1 Q
/-- ints in, under C, and a value out -/
inductive rI (C : Int → Int → Prop) (g : Int → Int → V) (x : V) (y : V) (H : Hp) (Q : VK) : Prop
  | mk (i : _) (j : _) (h1 : x = .int i) (h2 : y = .int j) (h3 : C i j) (h4 : Q (g i j) H) : rI C g x y H Q
inductive rI0 (g : Int → Int → V) (x : V) (y : V) (H : Hp) (Q : VK) : Prop
  | mk (i : _) (j : _) (h1 : x = .int i) (h2 : y = .int j) (h3 : Q (g i j) H) : rI0 g x y H Q
inductive rU (g : Int → V) (x : V) (H : Hp) (Q : VK) : Prop
  | mk (i : _) (h1 : x = .int i) (h2 : Q (g i) H) : rU g x H Q

section
variable {X : Cx} {a b c : Expr} {ta tb tc : TE} {pos : Pos}

theorem binT (ha : PE X a ta) (hb : PE X b tb) {pins : List (Addr × Obj)} {s : Shared} {σ : St} {H : Hp} {R : V → V → Hp → Prop} (I : Inv X pins σ H s)
    (h : ta σ H fun x H1 => tb σ H1 fun y H2 => R x y H2) {Q : Value → Shared → Prop} {f : Value → Value → Sem Value}
    (hf : ∀ v u s2 x y H2, Inv X pins σ H2 s2 → RelV x v → RelV y u → R x y H2 → wpAny (model X.prog X.w) X.A (f v u) Q X.xe s2) :
    wpAny (model X.prog X.w) X.A (eval a X.env) (fun v s₁ => wpAny (model X.prog X.w) X.A (eval b X.env) (fun u s₂ => wpAny (model X.prog X.w) X.A (f v u) Q X.xe s₂) X.xe s₁) X.xe s := by
  refine thn (ha pins s σ H _ I h) fun v s1 ⟨x, H1, I1, r1, q1⟩ => ?_
  refine thn (hb pins s1 σ H1 _ I1 q1) fun u s2 ⟨y, H2, I2, r2, q2⟩ => ?_
  exact hf v u s2 x y H2 I2 r1 r2 q2

theorem pe_op {op : Operator} {r : R2} (ho : OpR X (binaryOp op) r) (ha : PE X a ta) (hb : PE X b tb) : PE X (.BinOp a op b pos) (tOp r ta tb) := by
  intro pins s σ H Q I h
  exact wpAny_BinOp (binT ha hb I h fun v u s2 x y H2 I2 rx ry q => ho pins s2 σ H2 x y v u Q I2 rx ry q)
theorem pe_un {op : UnaryOp} {r : V → Hp → VK → Prop} (ho : UnR X (unaryOp op) r) (ha : PE X a ta) : PE X (.UnaryOp op a pos) (tUn r ta) := by
  intro pins s σ H Q I h
  exact UnaryOp_ (thn (ha pins s σ H _ I h) fun v s1 ⟨x, H1, I1, r1, q1⟩ => ho pins s1 σ H1 x v Q I1 r1 q1)
/-! ### ints -/
theorem opI {f : Value → Value → Sem Value} {C : Int → Int → Prop} {g : Int → Int → Int}
    (rule : ∀ (i j : Int) (t u : Tok) (s : Shared) (Q : Value → Shared → Prop) (E : Value → Shared → Prop), C i j → Q (.int (g i j) s.toks) { s with toks := s.toks + 1 } → wpAny (model X.prog X.w) X.A (f (.int i t) (.int j u)) Q E s) :
    OpR X f (rI C fun i j => .int (g i j)) := by
  intro pins s σ H x y v u Q I rx ry h
  obtain ⟨i, j, rfl, rfl, hc, q⟩ := h
  obtain ⟨t, rfl⟩ := rx
  obtain ⟨t', rfl⟩ := ry
  exact rule i j t t' s _ _ hc ⟨.int (g i j), H, I.tok _, ⟨_, rfl⟩, q⟩
theorem opI0 {f : Value → Value → Sem Value} {g : Int → Int → Int}
    (rule : ∀ (i j : Int) (t u : Tok) (s : Shared) (Q : Value → Shared → Prop) (E : Value → Shared → Prop), Q (.int (g i j) s.toks) { s with toks := s.toks + 1 } → wpAny (model X.prog X.w) X.A (f (.int i t) (.int j u)) Q E s) :
    OpR X f (rI0 fun i j => .int (g i j)) := by
  intro pins s σ H x y v u Q I rx ry h
  obtain ⟨i, j, rfl, rfl, q⟩ := h
  obtain ⟨t, rfl⟩ := rx
  obtain ⟨t', rfl⟩ := ry
  exact rule i j t t' s _ _ ⟨.int (g i j), H, I.tok _, ⟨_, rfl⟩, q⟩
theorem opB0 {f : Value → Value → Sem Value} {g : Int → Int → Bool}
    (rule : ∀ (i j : Int) (t u : Tok) (s : Shared) (Q : Value → Shared → Prop) (E : Value → Shared → Prop), Q (.bool (g i j)) s → wpAny (model X.prog X.w) X.A (f (.int i t) (.int j u)) Q E s) :
    OpR X f (rI0 fun i j => .bl (g i j)) := by
  intro pins s σ H x y v u Q I rx ry h
  obtain ⟨i, j, rfl, rfl, q⟩ := h
  obtain ⟨t, rfl⟩ := rx
  obtain ⟨t', rfl⟩ := ry
  exact rule i j t t' s _ _ ⟨.bl (g i j), H, I, rfl, q⟩

def CPow (i j : Int) : Prop := 0 ≤ j ∧ j ≤ 1000000 ∧ i.natAbs < 2 ^ 64
theorem op_add : OpR X (binaryOp .Add) (rI0 fun i j => .int (i + j)) := opI0 fun _ _ _ _ _ _ _ q => add_int q
theorem op_sub : OpR X (binaryOp .Sub) (rI0 fun i j => .int (i - j)) := opI0 fun _ _ _ _ _ _ _ q => sub_int q
/-- % by a positive divisor of any size -/
theorem op_mod : OpR X (binaryOp .Mod) (rI (fun _ j => 0 < j) fun i j => .int (i % j)) := opI fun i j _ _ _ _ _ hc q => by
  have h1 : (0 : Int) < j := hc
  exact mod_int' (by lia) (by rw [Int.fmod_eq_emod_of_nonneg i (by lia)]; exact q)
theorem op_pow : OpR X (binaryOp .Pow) (rI CPow fun i j => .int (i ^ j.toNat)) := opI fun _ _ _ _ _ _ _ hc q => pow_int_small hc.1 hc.2.1 hc.2.2 q
theorem unI {f : Value → Sem Value} {g : Int → Int}
    (rule : ∀ (i : Int) (t : Tok) (s : Shared) (Q : Value → Shared → Prop) (E : Value → Shared → Prop), Q (.int (g i) s.toks) { s with toks := s.toks + 1 } → wpAny (model X.prog X.w) X.A (f (.int i t)) Q E s) :
    UnR X f (rU fun i => .int (g i)) := by
  intro pins s σ H x v Q I rx h
  obtain ⟨i, rfl, q⟩ := h
  obtain ⟨t, rfl⟩ := rx
  exact rule i t s _ _ ⟨.int (g i), H, I.tok _, ⟨_, rfl⟩, q⟩
theorem un_neg : UnR X (unaryOp .USub) (rU fun i => .int (-i)) := unI fun _ _ _ _ _ q => neg_int q
/-! ### bools among ints: n += (a < b) -/
end

/-! ### comparisons -/
/-- the scalars that == tells apart as data does -/
def scal : V → V → Bool
  | .non, .non => true | .non, .int _ => true | .int _, .non => true | .non, .bl _ => true | .bl _, .non => true | .non, .str _ => true | .str _, .non => true
  | .int _, .int _ => true | .bl _, .bl _ => true | .str _, .str _ => true | .byt _, .byt _ => true
  | .int _, .str _ => true | .str _, .int _ => true | .bl _, .str _ => true | .str _, .bl _ => true
  | _, _ => false
def rEq : R2 := fun x y H Q => scal x y = true ∧ Q (.bl (decide (x = y))) H
def rNe : R2 := fun x y H Q => scal x y = true ∧ Q (.bl (!decide (x = y))) H

theorem dec_int {i j : Int} : decide (V.int i = V.int j) = (i == j) := by
  rw [Bool.eq_iff_iff]
  simp
theorem dec_bl {i j : Bool} : decide (V.bl i = V.bl j) = (i == j) := by
  rw [Bool.eq_iff_iff]
  simp
theorem dec_str {i j : Str} : decide (V.str i = V.str j) = (i == j) := by
  rw [Bool.eq_iff_iff]
  simp
theorem dec_byt {i j : Array UInt8} : decide (V.byt i = V.byt j) = (i.toList == j.toList) := by
  rw [Bool.eq_iff_iff]
  cases i
  cases j
  simp

section
variable {X : Cx} {a b c : Expr} {ta tb tc : TE} {pos : Pos}
theorem fin_bl {pins : List (Addr × Obj)} {σ : St} {H : Hp} {s : Shared} {Q : VK} {k k' : Bool} (I : Inv X pins σ H s) (q : Q (.bl k) H) (e : k = k') : EP X pins σ Q (.bool k') s := by
  subst e
  exact ⟨.bl k, H, I, rfl, q⟩
theorem op_eq : OpR X (compareOp .Eq) rEq := by
  intro pins s σ H x y v u Q I rx ry h
  obtain ⟨hs, q⟩ := h
  cases x with
  | non =>
    cases rx
    cases y with
    | non => cases ry; exact PySem.EqNone.eq_none_none (fin_bl I q (by simp))
    | bl j => cases ry; exact PySem.EqNone.eq_none_bool (fin_bl I q (by simp))
    | int j => obtain ⟨t', rfl⟩ := ry; exact PySem.EqNone.eq_none_int (fin_bl I q (by simp))
    | str j => obtain ⟨t', rfl⟩ := ry; exact PySem.EqNone.eq_none_str (fin_bl I q (by simp))
    | _ => exact absurd (show false = true from hs) Bool.false_ne_true
  | bl i =>
    cases rx
    cases y with
    | non => cases ry; exact PySem.EqNone.eq_bool_none (fin_bl I q (by simp))
    | bl j => cases ry; exact eq_bool (fin_bl I q dec_bl)
    | str j => obtain ⟨t', rfl⟩ := ry; exact PySem.EqMixed.eq_bool_str (fin_bl I q (by simp))
    | _ => exact absurd (show false = true from hs) Bool.false_ne_true
  | int i =>
    obtain ⟨t, rfl⟩ := rx
    cases y with
    | non => cases ry; exact PySem.EqNone.eq_int_none (fin_bl I q (by simp))
    | int j => obtain ⟨t', rfl⟩ := ry; exact eq_int (fin_bl I q dec_int)
    | str j => obtain ⟨t', rfl⟩ := ry; exact PySem.EqMixed.eq_int_str (fin_bl I q (by simp))
    | _ => exact absurd (show false = true from hs) Bool.false_ne_true
  | str i =>
    obtain ⟨t, rfl⟩ := rx
    cases y with
    | non => cases ry; exact PySem.EqNone.eq_str_none (fin_bl I q (by simp))
    | bl j => cases ry; exact PySem.EqMixed.eq_str_bool (fin_bl I q (by simp))
    | int j => obtain ⟨t', rfl⟩ := ry; exact PySem.EqMixed.eq_str_int (fin_bl I q (by simp))
    | str j => obtain ⟨t', rfl⟩ := ry; exact eq_str (fin_bl I q dec_str)
    | _ => exact absurd (show false = true from hs) Bool.false_ne_true
  | byt i =>
    obtain ⟨t, rfl⟩ := rx
    cases y with
    | byt j => obtain ⟨t', rfl⟩ := ry; exact PySem.W.eq_bytes (fin_bl I q dec_byt)
    | _ => exact absurd (show false = true from hs) Bool.false_ne_true
  | _ => cases y <;> exact absurd (show false = true from hs) Bool.false_ne_true
theorem op_ne : OpR X (compareOp .NotEq) rNe := by
  intro pins s σ H x y v u Q I rx ry h
  obtain ⟨hs, q⟩ := h
  cases x with
  | non =>
    cases rx
    cases y with
    | non => cases ry; exact PySem.EqNone.ne_none_none (fin_bl I q (by simp))
    | bl j => cases ry; exact PySem.EqNone.ne_none_bool (fin_bl I q (by simp))
    | int j => obtain ⟨t', rfl⟩ := ry; exact PySem.EqNone.ne_none_int (fin_bl I q (by simp))
    | str j => obtain ⟨t', rfl⟩ := ry; exact PySem.EqNone.ne_none_str (fin_bl I q (by simp))
    | _ => exact absurd (show false = true from hs) Bool.false_ne_true
  | bl i =>
    cases rx
    cases y with
    | non => cases ry; exact PySem.EqNone.ne_bool_none (fin_bl I q (by simp))
    | bl j => cases ry; exact ne_bool (fin_bl I q (congrArg not dec_bl))
    | str j => obtain ⟨t', rfl⟩ := ry; exact PySem.EqMixed.ne_bool_str (fin_bl I q (by simp))
    | _ => exact absurd (show false = true from hs) Bool.false_ne_true
  | int i =>
    obtain ⟨t, rfl⟩ := rx
    cases y with
    | non => cases ry; exact PySem.EqNone.ne_int_none (fin_bl I q (by simp))
    | int j => obtain ⟨t', rfl⟩ := ry; exact ne_int (fin_bl I q (congrArg not dec_int))
    | str j => obtain ⟨t', rfl⟩ := ry; exact PySem.EqMixed.ne_int_str (fin_bl I q (by simp))
    | _ => exact absurd (show false = true from hs) Bool.false_ne_true
  | str i =>
    obtain ⟨t, rfl⟩ := rx
    cases y with
    | non => cases ry; exact PySem.EqNone.ne_str_none (fin_bl I q (by simp))
    | bl j => cases ry; exact PySem.EqMixed.ne_str_bool (fin_bl I q (by simp))
    | int j => obtain ⟨t', rfl⟩ := ry; exact PySem.EqMixed.ne_str_int (fin_bl I q (by simp))
    | str j => obtain ⟨t', rfl⟩ := ry; exact ne_str (fin_bl I q (congrArg not dec_str))
    | _ => exact absurd (show false = true from hs) Bool.false_ne_true
  | byt i =>
    obtain ⟨t, rfl⟩ := rx
    cases y with
    | byt j => obtain ⟨t', rfl⟩ := ry; exact PySem.W.ne_bytes (fin_bl I q (congrArg not dec_byt))
    | _ => exact absurd (show false = true from hs) Bool.false_ne_true
  | _ => cases y <;> exact absurd (show false = true from hs) Bool.false_ne_true

theorem op_lt : OpR X (compareOp .Lt) (rI0 fun i j => .bl (decide (i < j))) := opB0 fun _ _ _ _ _ _ _ q => lt_int q
theorem op_gt : OpR X (compareOp .Gt) (rI0 fun i j => .bl (decide (j < i))) := opB0 fun _ _ _ _ _ _ _ q => gt_int q
theorem op_ge : OpR X (compareOp .GtE) (rI0 fun i j => .bl (decide (j ≤ i))) := opB0 fun _ _ _ _ _ _ _ q => ge_int q
theorem nomark (b : Expr) {op : CmpOp} (h : op ≠ .In := by decide) (h2 : op ≠ .NotIn := by decide) : behindInMarks op b = false := by
  have e1 : (op == CmpOp.In) = false := by cases op <;> first | rfl | exact absurd rfl h
  have e2 : (op == CmpOp.NotIn) = false := by cases op <;> first | rfl | exact absurd rfl h2
  cases b <;> simp [behindInMarks, e1, e2]
/-- a comparison as a value; hm: nomark b, or (for in, not in) by with_unfolding_all rfl -/
theorem pe_cmpR {op : CmpOp} {r : R2} (ho : OpR X (compareOp op) r) (ha : PE X a ta) (hb : PE X b tb) (hm : behindInMarks op b = false) : PE X (.Compare a [op] [b] pos) (tOp r ta tb) := by
  intro pins s σ H Q I h
  exact wpAny_Compare1 (binT ha hb I h fun v u s2 x y H2 I2 rx ry q => ho pins s2 σ H2 x y v u Q I2 rx ry q) hm
/-- a reading of a value as a test -/
def tTest (t : TE) : TT := fun σ H Q => t σ H fun x H' => ∃ k, x = .bl k ∧ Q k H'
theorem pt_cmpR {op : CmpOp} {r : R2} (ho : OpR X (compareOp op) r) (ha : PE X a ta) (hb : PE X b tb) (hm : behindInMarks op b = false) : PT X (.Compare a [op] [b] pos) (tTest (tOp r ta tb)) := by
  intro pins s σ H Q I h
  refine wpAny_isTrue_Compare1 (thn (ha pins s σ H _ I h) fun v s1 ⟨x, H1, I1, r1, q1⟩ => thn (hb pins s1 σ H1 _ I1 q1) fun u s2 ⟨y, H2, I2, r2, q2⟩ =>
    thn (ho pins s2 σ H2 x y v u _ I2 r1 r2 q2) fun c s3 ⟨z, H3, I3, r3, k, e, q3⟩ => ?_) hm
  subst e
  cases r3
  exact wpAny_truthy_bool ⟨H3, I3, q3⟩
/-! ### truth -/
theorem line63 : (sizeLine : Nat) < 2 ^ 63 := by rw [sizeLine_eq]; decide
/-! ### strs and bytes -/
/-! ### scalar builtins, by CallR -/
theorem vals1 {x : V} {us : List Value} (r : Vals [x] us) : ∃ u, us = [u] ∧ RelV x u := by
  cases r with
  | cons r1 r2 => cases r2; exact ⟨_, rfl, r1⟩
theorem vals2 {x y : V} {us : List Value} (r : Vals [x, y] us) : ∃ u w', us = [u, w'] ∧ RelV x u ∧ RelV y w' := by
  cases r with
  | cons r1 r2 =>
    cases r2 with
    | cons r3 r4 => cases r4; exact ⟨_, _, rfl, r1, r3⟩
theorem call_abs : CallR X (.builtin "abs") (fun xs H Q => ∃ i, xs = [.int i] ∧ Q (.int (if i < 0 then -i else i)) H) := by
  intro pins s σ H xs us Q I r h
  obtain ⟨i, rfl, q⟩ := h
  obtain ⟨u, rfl, t, rfl⟩ := vals1 r
  exact call_abs_int fun u tk => ⟨.int (if i < 0 then -i else i), H, I.tok _, ⟨_, rfl⟩, q⟩
theorem call_int1 : CallR X (.type "int") (fun xs H Q => (∃ i, xs = [.int i] ∧ Q (.int i) H) ∨ ∃ k, xs = [.bl k] ∧ Q (.int (if k then 1 else 0)) H) := by
  intro pins s σ H xs us Q I r h
  rcases h with ⟨i, rfl, q⟩ | ⟨k, rfl, q⟩
  · obtain ⟨u, rfl, t, rfl⟩ := vals1 r
    exact call_int_int ⟨.int i, H, I, ⟨_, rfl⟩, q⟩
  · obtain ⟨u, rfl, r1⟩ := vals1 r
    cases r1
    exact call_int_bool ⟨.int (if k then 1 else 0), H, I.tok _, ⟨_, rfl⟩, q⟩
end
end L2

namespace L2
open PySem PySem.Spec PyProof.Rows

/-! ### an instance, its attributes a map -/
structure ObjM (h : Heap) (x dx C : Addr) (mA : Str → Option Value) : Prop where
  obj : h.get? x = some (PySem.W.instObj C dx)
  ns : h.Ns1 dx mA
  ne : dx ≠ x

theorem lookIn_ns {h : Heap} {dx : Addr} {mA : Str → Option Value} (n : h.Ns1 dx mA) : ∃ od, h.get? dx = some od ∧ ∀ name, PySem.W.lookIn name od = some (mA name) := by
  obtain ⟨o, es, ep, ho, hd, hk, _, hm⟩ := n
  refine ⟨o, ho, fun name => ?_⟩
  have e := hm name
  unfold nsFind findBy at e
  rw [← Array.find?_toList] at e
  unfold PySem.W.lookIn
  rw [hd]
  dsimp only
  split
  · rename_i y q
    rw [q] at e
    exact congrArg some e
  · rename_i q
    rw [q] at e
    have a : es.toList.any (·.refKey) = false := by
      rw [List.any_eq_false]
      intro y hy
      obtain ⟨z, t, hkey⟩ := hk y (Array.mem_toList_iff.mp hy)
      simp [DictEntry.refKey, hkey]
    have a' : ¬ es.toList.any (·.refKey) = true := by rw [a]; exact Bool.false_ne_true
    rw [if_neg a']
    exact congrArg some e

theorem ObjM.look {h : Heap} {x dx C : Addr} {mA : Str → Option Value} (I : ObjM h x dx C mA) : ∃ od, PySem.W.InstAt h x (PySem.W.instObj C dx) C (some od) ∧ ∀ name, PySem.W.lookIn name od = some (mA name) :=
  let ⟨od, ho, hl⟩ := lookIn_ns I.ns
  ⟨od, ⟨I.obj, rfl, rfl, ho⟩, hl⟩

section
variable {prog : Program} {w : World} {A : Around} {E : Value → Shared → Prop} {s : Shared} {K : PySem.W.Frag} {x dx C f : Addr} {mA : Str → Option Value} {name : Str} {v : Value}

end

/-! ### the attributes as a list of pairs -/
section
variable {P : Program} {w : World} {H H' : Hp} {h h' : Heap} {a C dx : Addr} {fs fs' : List (Str × V)}
theorem ins_get (hok : HOk P w H h) (e : H a = some (.ins C dx fs)) : ∃ mA, ObjM h a dx C mA ∧ (∀ f, RelO (fs.lookup f) (mA f)) ∧ PySem.Within mA (fs.map (·.1)) ∧ fs.length ≤ 1000 ∧ H dx = some (.own a) := by
  obtain ⟨d, z, ne, ob, mA, n, r, q⟩ := (show ObjOk P w H h a (.ins C dx fs) from hok a _ e)
  exact ⟨mA, ⟨ob, n, ne⟩, r, q, z, d⟩
end

/-! ### what of the text a class must have -/
structure Cls (K : PySem.W.Frag) (C : Addr) : Prop where
  pg : PySem.W.plainGet K C Str.empty = true
  hd : PySem.W.hasDictIn K C = true
  po : PySem.W.plainOver K C = true
  sa : PySem.W.findIn K (.ref C) "__setattr__" = some (some (.builtin "object.__setattr__"))
theorem Cls.get {K : PySem.W.Frag} {C : Addr} (c : Cls K C) (f : Str) : PySem.W.plainGet K C f = true := c.pg
/-- a constant of the class -/
structure Con (K : PySem.W.Frag) (C : Addr) (f : Str) (v : V) (u : Value) : Prop where
  at_ : PySem.W.findIn K (.ref C) f = some (some u)
  rel : RelV v u
  get : PySem.W.specialIn K u "__get__" = some none
  cp : PySem.W.copiedNames.contains f = false
/-- a method: a plain def of the class or of one above it -/
structure Meth (K : PySem.W.Frag) (C : Addr) (m : Str) (f : Addr) : Prop where
  at_ : PySem.W.findIn K (.ref C) m = some (some (.ref f))
  fn : PySem.W.isFn K (.ref f) = true
  kp : PySem.W.keepIn K (.ref f) = true

section
variable {X : Cx} {pins : List (Addr × Obj)} {σ : St} {H : Hp} {s : Shared} {a C dx : Addr} {fs : List (Str × V)} {f : Str} {v : V} {A : Around} {E : Value → Shared → Prop}

end

/-! ### readings and rules -/
section
variable {X : Cx} {o e value : Expr} {f : Str} {pos pos' tpos : Pos} {ta tv : TE}
end

/-! ### isinstance -/
section
variable {X : Cx} {pins : List (Addr × Obj)} {σ : St} {H : Hp} {s : Shared} {A : Around} {E : Value → Shared → Prop} {Q : Value → Shared → Prop} {c : Value} {b : Bool}
/-- the type of a value, as the fragment's deciders take it; for an instance its class -/
inductive TyOf (K : PySem.W.Frag) (H : Hp) : V → Value → Prop where
  | non : TyOf K H .non (.type "NoneType")
  | bl (x : Bool) : TyOf K H (.bl x) (.type "bool")
  | int (i : Int) : TyOf K H (.int i) (.type "int")
  | str (x : Str) : TyOf K H (.str x) (.type "str")
  | flt (x : UInt64) : TyOf K H (.flt x) (.type "float")
  | lst {a : Addr} {xs : List V} (e : H a = some (.lst xs)) : TyOf K H (.ref a) (.type "list")
  | frz {a : Addr} {o : Obj} {xs : List V} (e : H a = some (.frz o (.lst xs))) : TyOf K H (.ref a) (.type "list")
  | tup {a : Addr} {xs : List V} (e : H a = some (.tup xs)) : TyOf K H (.ref a) (.type "tuple")
  | dK {a : Addr} {kvs : List (Key × V)} (e : H a = some (.dK kvs)) : TyOf K H (.ref a) (.type "dict")
  | dT {a : Addr} {kvs : List (List Key × V)} (e : H a = some (.dT kvs)) : TyOf K H (.ref a) (.type "dict")
  | ins {a C dx : Addr} {fs : List (Str × V)} (e : H a = some (.ins C dx fs)) (cl : Cls K C) (ha : PySem.W.findIn K (.ref C) "__class__" = some (some (.builtin "object.__class__")))
      (hn : PySem.W.specialIn K (.builtin "object.__class__") "__get__" = some (some (.builtin "getset_descriptor.__get__"))) (htk : PySem.W.takesIn K (.builtin "object.__class__") = some true)
      (hm : PySem.W.mroIn K C (.type "object") = some true) : TyOf K H (.ref a) (.ref C)
/-- isinstance(x, c) for one class c, a built-in or an own one: kitOne's answer -/
theorem isinst_ok {x : V} {u t : Value} (I : Inv X pins σ H s) (rx : RelV x u) (ty : TyOf X.K H x t) (e : PySem.W.kitOne X.K t c = some b) (h : ∀ tk, Q (.bool b) { s with toks := tk }) :
    wpAny (model X.prog X.w) A (call (.builtin "isinstance") [u, c]) Q E s := by
  cases ty with
  | non => cases (show u = Value.none from rx); exact PySem.W.kia_one PySem.W.kitx_none I.kIn True.intro e (fun z => nomatch z) h
  | bl y => cases (show u = Value.bool y from rx); exact PySem.W.kia_one PySem.W.kitx_bool I.kIn True.intro e (fun z => nomatch z) h
  | int i => obtain ⟨t, q⟩ := (show ∃ t, u = Value.int i t from rx); cases q; exact PySem.W.kia_one PySem.W.kitx_int I.kIn True.intro e (fun z => nomatch z) h
  | str y => obtain ⟨t, q⟩ := (show ∃ t, u = Value.str y t from rx); cases q; exact PySem.W.kia_one PySem.W.kitx_str I.kIn True.intro e (fun z => nomatch z) h
  | flt y => obtain ⟨t, q⟩ := (show ∃ t, u = Value.float y t from rx); cases q; exact PySem.W.kia_one PySem.W.kitx_float I.kIn True.intro e (fun z => nomatch z) h
  | @lst a xs ea =>
    cases (show u = Value.ref a from rx)
    obtain ⟨_, _, n, _, h1⟩ := (show ObjOk X.prog X.w H s.heap a (.lst xs) from I.hok a _ ea)
    exact PySem.W.kia_one PySem.W.kitx_list I.kIn ⟨_, h1, rfl⟩ e (fun z => nomatch z) h
  | @frz a ob xs ea =>
    cases (show u = Value.ref a from rx)
    obtain ⟨_, _, _, n, _, h1⟩ := (show ObjOk X.prog X.w H s.heap a (.frz ob (.lst xs)) from I.hok a _ ea)
    exact PySem.W.kia_one PySem.W.kitx_list I.kIn ⟨_, h1, rfl⟩ e (fun z => nomatch z) h
  | @tup a xs ea =>
    cases (show u = Value.ref a from rx)
    obtain ⟨_, _, _, p⟩ := (show ObjOk X.prog X.w H s.heap a (.tup xs) from I.hok a _ ea)
    obtain ⟨o, h1, h2, _⟩ := p
    exact PySem.W.kia_one PySem.W.kitx_tuple I.kIn ⟨o, h1, h2⟩ e (fun z => nomatch z) h
  | @dK a kvs ea =>
    cases (show u = Value.ref a from rx)
    obtain ⟨_, _, vs, _, p⟩ := (show ObjOk X.prog X.w H s.heap a (.dK kvs) from I.hok a _ ea)
    obtain ⟨o, es, ep, h1, h2, _⟩ := p
    exact PySem.W.kia_one PySem.W.kitx_dict I.kIn ⟨o, h1, h2.1⟩ e (fun z => nomatch z) h
  | @dT a kvs ea =>
    cases (show u = Value.ref a from rx)
    obtain ⟨_, _, xs, _, o, es, ep, h1, h2, _⟩ := (show ObjOk X.prog X.w H s.heap a (.dT kvs) from I.hok a _ ea)
    exact PySem.W.kia_one PySem.W.kitx_dict I.kIn ⟨o, h1, h2.1⟩ e (fun z => nomatch z) h
  | @ins a C dx fs ea cl ha hn htk hm =>
    cases (show u = Value.ref a from rx)
    obtain ⟨mA, O, _⟩ := ins_get I.hok ea
    obtain ⟨od, J, _⟩ := O.look
    exact PySem.W.kia_one (PySem.W.kitx_own (cl.get _) cl.hd ha hn htk hm) I.kIn J e (fun z => nomatch z) h
end
end L2

namespace L2
open PySem PySem.Spec PyProof.Rows

/-! ### room -/
structure Room (k : Nat) (A : Around) : Prop where
  hd : A.handled = none
  dp : A.depth + 3 * k + 5 < recursionLimit
  un : A.units + 16 * k + 200 < cLine
theorem Room.mono {j k : Nat} {A : Around} (r : Room k A) (h : j ≤ k) : Room j A := ⟨r.hd, by have := r.dp; lia, by have := r.un; lia⟩
theorem Room.deeper {k : Nat} {A : Around} (r : Room (k + 1) A) (env : Env) : Room k (A.deeper env) :=
  ⟨r.hd, by have := r.dp; show A.depth + 1 + 3 * k + 5 < _; lia, by have := r.un; show A.units + 3 + 16 * k + 200 < _; lia⟩
theorem Room.depth {k : Nat} {A : Around} (r : Room k A) : A.depth < recursionLimit := by have := r.dp; lia
theorem Room.units {k : Nat} {A : Around} (r : Room k A) : A.units + 64 < cLine := by have := r.un; lia
/-! ### argument lists and displays -/
def tNil : TA := fun _ H Q => Q [] H
def tCons (ta : TE) (tr : TA) : TA := fun σ H Q => ta σ H fun x H1 => tr σ H1 fun xs H2 => Q (x :: xs) H2
section
variable {X : Cx} {e : Expr} {es : List Expr} {te : TE} {t : TA} {pos : Pos}
theorem pa_nil : PA X [] tNil := fun _ _ _ _ H Q I h => Calls.spliced_nil ⟨[], H, I, .nil, h⟩
theorem pa_cons (ha : PE X e te) (hr : PA X es t) (hs : starEach (e :: es) X.env = (false, eval e X.env) :: starEach es X.env := by rfl) : PA X (e :: es) (tCons te t) := by
  intro pos pins s σ H Q I h
  rw [hs]
  show wpAny _ _ (spliced ((false, eval e X.env) :: backTo pos (starEach es X.env))) _ _ s
  refine Calls.spliced_cons (thn (ha pins s σ H _ I h) fun u s1 ⟨x, H1, I1, r1, q1⟩ => ?_)
  exact thn (hr pos pins s1 σ H1 _ I1 q1) fun us s2 ⟨xs, H2, I2, r2, q2⟩ => ⟨x :: xs, H2, I2, .cons r1 r2, q2⟩

/-- a tuple, a list of written items -/
def tTup (t : TA) : TE := fun σ H Q => t σ H fun xs H1 => xs.length ≤ sizeLine ∧ ∀ p, H1 p = none → Q (.ref p) (upd H1 p (.tup xs))
def tLst (t : TA) : TE := fun σ H Q => t σ H fun xs H1 => xs.length ≤ sizeLine ∧ ∀ p, H1 p = none → Q (.ref p) (upd H1 p (.lst xs))
theorem pe_tup {x1} (h : PA X es t) : PE X (.Tuple es x1 pos) (tTup t) := by
  intro pins s σ H Q I hq
  refine wpAny_Tuple_spliced (thn (h pos pins s σ H _ I hq) fun us s1 ⟨xs, H1, I1, r, z, q⟩ => ⟨by rw [← r.length]; exact z, ?_⟩)
  have hf : H1 s1.heap.objs.size = none := I1.hok.fresh (Nat.le_refl _)
  refine ⟨.ref s1.heap.objs.size, upd H1 s1.heap.objs.size (.tup xs), I1.laid (t' := s1.toks) (fun b u e => Heap.get?_push_of_some _ e) (Nat.le_refl _) ?_, rfl, q _ hf⟩
  exact ⟨z, us, r, ⟨_, Heap.get?_push_size _ rfl, rfl, _, rfl⟩⟩
theorem pe_lst (h : PA X es t) : PE X (.List es pos) (tLst t) := by
  intro pins s σ H Q I hq
  refine wpAny_List_spliced (thn (h pos pins s σ H _ I hq) fun us s1 ⟨xs, H1, I1, r, z, q⟩ => ⟨by rw [← r.length]; exact z, ?_⟩)
  have hf : H1 s1.heap.objs.size = none := I1.hok.fresh (Nat.le_refl _)
  refine ⟨.ref s1.heap.objs.size, upd H1 s1.heap.objs.size (.lst xs), I1.laid (t' := s1.toks) (fun b u e => Heap.get?_push_of_some _ e) (Nat.le_refl _) ?_, rfl, q _ hf⟩
  exact ⟨z, us, 0, r, Heap.get?_push_size _ rfl⟩
end

/-! ### what a def promises -/
/-- a def's promise: the bound arguments in the parameters' order, the heap, the wanted end, the wanted exception -/
abbrev Sp := List V → Hp → VK → XK → Prop
/-- how an exception lies behind a call (file 08 gives it): the callers' frames, abstract heap and state ahead of the call, the wish, the exception, the state -/
abbrev CXT := List Env → Hp → Shared → XK → Value → Shared → Prop

/-- the state at a call -/
structure Env0 (P : Program) (w : World) (K : PySem.W.Frag) (mg : Str → Option Value) (base : Heap) (A : Around) (outer : List Env) (s : Shared) (H : Hp) : Prop where
  frames : A.frames = some outer
  mod : Mod K mg base
  bs : ∀ b o, base.get? b = some o → s.heap.get? b = some o ∧ H b = none
  bsz : base.objs.size ≤ s.heap.objs.size
  funs : s.heap.FunFrames base outer
  frf : ∀ b ∈ frs outer, H b = none
  hok : HOk P w H s.heap
  bare : AllBare s.gens
/-- a call's end -/
def CE (outer : List Env) (P : Program) (w : World) (H : Hp) (s : Shared) (Q : VK) (u : Value) (s' : Shared) : Prop :=
  ∃ v H', s'.os = s.os ∧ AllBare s'.gens ∧ Un (frs outer) [] H H' s.heap s'.heap ∧ HOk P w H' s'.heap ∧ RelV v u ∧ Q v H'
def CR (CX : CXT) (outer : List Env) (P : Program) (w : World) (H : Hp) (s : Shared) (Q : VK) (E : XK) (r : Result) (s' : Shared) : Prop :=
  match r with
  | .ok (.ret u) => CE outer P w H s Q u s'
  | .ok _ => False
  | .error e => CX outer H s E e s'
structure FnOk (P : Program) (w : World) (K : PySem.W.Frag) (mg : Str → Option Value) (base : Heap) (CX : CXT) (k : Nat) (f : Addr) (fd : FuncData) (ps : List Str) (sp : Sp) : Prop where
  len : ∀ vs H Q E, sp vs H Q E → vs.length = ps.length
  run : ∀ (A : Around) (outer : List Env) (s : Shared) (H : Hp) (args : Args) (us : List Value) (vs : List V) (Q : VK) (E : XK), Room k A → Env0 P w K mg base A outer s H → BindsTo s fd args (ps.zip us) → Vals vs us → sp vs H Q E →
    codeAny (model P w) A (.call (.ref f) args) (CR CX outer P w H s Q E) s
section
variable {X : Cx} {pins : List (Addr × Obj)} {σ : St} {H : Hp} {s s' : Shared}
/-- from a body: what a callee wants -/
theorem Inv.env0 (I : Inv X pins σ H s) : Env0 X.prog X.w X.K X.mg X.base X.A X.stack s H :=
  ⟨I.ok.frames, I.ok.mod, I.bs, Nat.le_trans I.ok.bsz I.sz, I.stack, I.stkFree, I.hok, I.bare⟩
/-- behind a call -/
theorem Inv.after {Q : VK} {u : Value} (I : Inv X pins σ H s) (h : CE X.stack X.prog X.w H s Q u s') : EP X pins σ Q u s' := by
  obtain ⟨v, H', os, bare, un, hok, r, q⟩ := h
  obtain ⟨hh, g, d, t, os'⟩ := s'
  obtain rfl : os' = s.os := os
  exact ⟨v, H', I.call (h' := hh) (g' := g) (d' := d) (t' := t) (ch := []) un hok bare (fun b z => absurd z (by simp)), r, q⟩
end

/-! ### calls -/
/-- f(..): the written arguments, then the defaults dvs; E: what is wanted of an exception -/
def tCall (sp : Sp) (dvs : List V) (E : XK) (t : TA) : TE := fun σ H Q => t σ H fun vs H1 => sp (vs ++ dvs) H1 Q E
/-- how the parameters are bound: us the positional arguments, kw the keywords' values by name, ds the defaults that fill up -/
def Binds (K : PySem.W.Frag) (fd : FuncData) (ps : List Str) (ds : List Value) : Prop :=
  ∀ (s : Shared) (us : List Value), K.In s.heap → (us ++ ds).length = ps.length → BindsTo s fd ⟨us, []⟩ (ps.zip (us ++ ds))
/-- every parameter is given -/
theorem Binds.all {K : PySem.W.Frag} {fd : FuncData} {ps : List Str} (h : ∀ us : List Value, us.length = ps.length → bindArgs fd ⟨us, []⟩ = pure (ps.zip us)) : Binds K fd ps [] := fun s us _ hl => by
  rw [List.append_nil] at hl ⊢
  exact .of_eq (h us hl)

/-- an exception of a callee reaches what this body wants of exceptions -/
def Passes (CX : CXT) (X : Cx) (E : XK) : Prop := ∀ (pins : List (Addr × Obj)) (σ : St) (H : Hp) (s : Shared) (e : Value) (s' : Shared), Inv X pins σ H s → CX X.stack H s E e s' → X.xe e s'

section
variable {X : Cx} {CX : CXT} {k : Nat} {f C : Addr} {fd : FuncData} {ps : List Str} {sp : Sp} {dvs : List V} {ds : List Value} {E : XK} {x m : Str} {p pos apos : Pos} {e o : Expr} {es : List Expr} {ta : TE} {t : TA}

/-- the callee runs -/
theorem run_fn {pins : List (Addr × Obj)} {σ : St} {H : Hp} {s : Shared} {Q : VK} {us : List Value} {vs : List V} (F : FnOk X.prog X.w X.K X.mg X.base CX k f fd ps sp) (hr : Room k X.A) (hb : Binds X.K fd ps ds) (hd : Vals dvs ds) (hx : Passes CX X E)
    (I : Inv X pins σ H s) (r : Vals vs us) (h : sp (vs ++ dvs) H Q E) : wpAny (model X.prog X.w) X.A (call (.ref f) us) (EP X pins σ Q) X.xe s := by
  have r2 : Vals (vs ++ dvs) (us ++ ds) := r.append hd
  have hl : (us ++ ds).length = ps.length := by rw [← r2.length]; exact F.len _ _ _ _ h
  refine wpAny_call (codeAny_mono (F.run X.A X.stack s H ⟨us, []⟩ (us ++ ds) (vs ++ dvs) Q E hr I.env0 (hb s us I.kIn hl) r2 h) fun r s' hq => ?_)
  cases r with
  | error e => exact hx pins σ H s e s' I hq
  | ok fl =>
    cases fl with
    | ret u => exact I.after hq
    | next => exact False.elim hq
    | brk => exact False.elim hq
    | cont => exact False.elim hq

theorem pe_call (F : FnOk X.prog X.w X.K X.mg X.base CX k f fd ps sp) (hr : Room k X.A) (hg : Gl X x) (hm : X.mg x = some (.ref f)) (hk : PySem.W.keepIn X.K (.ref f) = true) (hb : Binds X.K fd ps ds) (hd : Vals dvs ds) (hx : Passes CX X E)
    (ha : PA X (e :: es) t) (hdb : (x == ("__debug__" : Str)) = false := by decide) (he : starEach (e :: es) X.env = (false, eval e X.env) :: starEach es X.env := by rfl) (hpl : (backTo pos (starEach es X.env)).any (·.1) = false := by rfl) :
    PE X (.Call (.Name x p) (e :: es) [] pos) (tCall sp dvs E t) := by
  intro pins s σ H Q I h
  refine wpAny_Call_Name_kw (ld_glob I hg hm ?_ hdb)
  refine PySem.W.callWith_K (h₀ := X.base) I.ok.mod.kin hk (thn (ha pos pins s σ H _ I h) fun us s1 ⟨vs, H1, I1, r, q⟩ => ⟨I1.kIn, ?_⟩) he hpl
  exact run_fn F hr hb hd hx I1 r q
theorem pe_call0 (F : FnOk X.prog X.w X.K X.mg X.base CX k f fd ps sp) (hr : Room k X.A) (hg : Gl X x) (hm : X.mg x = some (.ref f)) (hk : PySem.W.keepIn X.K (.ref f) = true) (hb : Binds X.K fd ps ds) (hd : Vals dvs ds) (hx : Passes CX X E)
    (hdb : (x == ("__debug__" : Str)) = false := by decide) : PE X (.Call (.Name x p) [] [] pos) (tCall sp dvs E tNil) := by
  intro pins s σ H Q I h
  refine wpAny_Call_Name_kw (ld_glob I hg hm ?_ hdb)
  exact PySem.W.callWith_K0 I.kIn hk (run_fn (us := []) F hr hb hd hx I .nil h)

/-- what a class must have to be made -/
structure Mk (K : PySem.W.Frag) (C f : Addr) : Prop where
  makes : PySem.W.makesIn K C = true
  init : PySem.W.findIn K (.ref C) "__init__" = some (some (.ref f))
  fn : PySem.W.isFn K (.ref f) = true
  kp : PySem.W.keepIn K (.ref C) = true

end

/-! ### keywords -/
section
variable {X : Cx} {CX : CXT} {k : Nat} {f C : Addr} {fd : FuncData} {ps ks : List Str} {sp : Sp} {E : XK} {x m : Str} {p pos apos kpos : Pos} {e o : Expr} {es : List Expr} {kws : List Keyword} {te ta : TE} {t tk : TA} {nm : Option Str}
/-- how a call with keywords binds: g puts the positional values us and the keywords' values ws (names ks) in the parameters' order, defaults among them -/
structure KBinds (K : PySem.W.Frag) (fd : FuncData) (ps ks : List Str) (g : List Value → List Value → List Value) (gV : List V → List V → List V) : Prop where
  to : ∀ (s : Shared) (us ws : List Value), K.In s.heap → (g us ws).length = ps.length → BindsTo s fd ⟨us, ks.zip ws⟩ (ps.zip (g us ws))
  rel : ∀ {vs : List V} {us : List Value} {zs : List V} {ws : List Value}, Vals vs us → Vals zs ws → Vals (gV vs zs) (g us ws)
variable {g : List Value → List Value → List Value} {gV : List V → List V → List V}
end

/-! ### a def's body keeps its promise -/
/-- names: the parameters first -/
structure FnScope (N P : List Str) (sc : Scope) : Prop where
  kind : sc.kind = .function
  co : sc.isCoroutine = false
  gen : sc.isGenerator = false
  nd : N.Nodup
  pre : N.take P.length = P
  par : ∀ x ∈ P, sc.names.lookup x = some .local ∨ sc.names.lookup x = some .cell
  nofree : ∀ y ∈ sc.names, y.2 ≠ .free

theorem bindL_out {kindOf : Str → Option NameKind} {x : Str} : ∀ {binds : List (Str × Value)} {m : Str → Option Value}, (∀ v, (x, v) ∉ binds) → bindL kindOf binds m x = m x
  | [], _, _ => rfl
  | (n, v) :: r, m, h => by
    unfold bindL
    rw [bindL_out fun w hw => h w (List.mem_cons_of_mem _ hw)]
    split
    · have : x ≠ n := by rintro rfl; exact h v List.mem_cons_self
      simp [this]
    · rfl
theorem bindC_out {kindOf : Str → Option NameKind} {x : Str} : ∀ {binds : List (Str × Value)} {m : Str → Option Value}, (∀ v, (x, v) ∉ binds) → bindC kindOf binds m x = m x
  | [], _, _ => rfl
  | (n, v) :: r, m, h => by
    unfold bindC
    rw [bindC_out fun w hw => h w (List.mem_cons_of_mem _ hw)]
    split
    · rfl
    · have : x ≠ n := by rintro rfl; exact h v List.mem_cons_self
      simp [this]
theorem bindL_get {kindOf : Str → Option NameKind} {x : Str} {v : Value} : ∀ {P : List Str} {vs : List Value} {i : Nat} {m : Str → Option Value}, P.Nodup → P[i]? = some x → vs[i]? = some v → kindOf x = some .local →
    bindL kindOf (P.zip vs) m x = some v
  | [], _, _, _, _, h, _, _ => by simp at h
  | _ :: _, [], _, _, _, _, h, _ => by simp at h
  | p :: P, w :: vs, 0, m, nd, h1, h2, hk => by
    simp at h1 h2; subst h1; subst h2
    show bindL kindOf ((p, w) :: P.zip vs) m p = _
    unfold bindL
    rw [bindL_out fun v hv => (List.nodup_cons.mp nd).1 (List.of_mem_zip hv).1, if_pos hk]
    simp
  | p :: P, w :: vs, i + 1, m, nd, h1, h2, hk => by
    show bindL kindOf ((p, w) :: P.zip vs) m x = _
    unfold bindL
    exact bindL_get (i := i) (List.nodup_cons.mp nd).2 (by simpa using h1) (by simpa using h2) hk
theorem bindC_get {kindOf : Str → Option NameKind} {x : Str} {v : Value} : ∀ {P : List Str} {vs : List Value} {i : Nat} {m : Str → Option Value}, P.Nodup → P[i]? = some x → vs[i]? = some v → kindOf x ≠ some .local →
    bindC kindOf (P.zip vs) m x = some v
  | [], _, _, _, _, h, _, _ => by simp at h
  | _ :: _, [], _, _, _, _, h, _ => by simp at h
  | p :: P, w :: vs, 0, m, nd, h1, h2, hk => by
    simp at h1 h2; subst h1; subst h2
    show bindC kindOf ((p, w) :: P.zip vs) m p = _
    unfold bindC
    rw [bindC_out fun v hv => (List.nodup_cons.mp nd).1 (List.of_mem_zip hv).1, if_neg hk]
    simp
  | p :: P, w :: vs, i + 1, m, nd, h1, h2, hk => by
    show bindC kindOf ((p, w) :: P.zip vs) m x = _
    unfold bindC
    exact bindC_get (i := i) (List.nodup_cons.mp nd).2 (by simpa using h1) (by simpa using h2) hk

/-- the names' values at the entry -/
def start (N : List Str) (vs : List V) : St := vs.map some ++ List.replicate (N.length - vs.length) none

/-- the context of a def's body, at its entry; an exception leaves the frame, then lies as CX says -/
def cxOf (CX : CXT) (P : Program) (w : World) (K : PySem.W.Frag) (mg : Str → Option Value) (base : Heap) (N : List Str) (qual : Str) (scope : Scope) (f : Addr) (cd : Value) (A : Around) (outer : List Env) (s : Shared) (H : Hp) (E : XK) : Cx where
  prog := P
  w := w
  K := K
  mg := mg
  base := base
  A := A.deeper (envOfC qual scope s.heap.objs.size f cd)
  N := N
  s₀ := s
  H₀ := H
  env := envOfC qual scope s.heap.objs.size f cd
  outer := outer
  stack := envOfC qual scope s.heap.objs.size f cd :: outer
  ex := []
  calm := true
  fn := fun _ => true
  pn := []
  xe := fun e s' => wpAny (model P w) (A.deeper (envOfC qual scope s.heap.objs.size f cd)) (leaving (envOfC qual scope s.heap.objs.size f cd) e) (fun _ s'' => CX outer H s E e s'') (fun e' s'' => CX outer H s E e' s'') s'

theorem cell_has {sc : Scope} {n : Nat} {x : Str} (h : sc.names.lookup x = some .cell) : ∃ c, (cellsFrom n sc.names []).lookup x = some c := by
  have q := PySem.W.cellsFrom_some sc.names n [] (.inl h)
  exact Option.isSome_iff_exists.mp q

theorem inv_start {CX : CXT} {P : Program} {w : World} {K : PySem.W.Frag} {mg : Str → Option Value} {base : Heap} {N ps : List Str} {qual : Str} {scope : Scope} {f : Addr} {cd : Value} {A : Around} {outer : List Env} {s s1 : Shared} {H : Hp} {E : XK} {us : List Value} {vs : List V}
    (S : FnScope N ps scope) (hd : A.handled = none) (e0 : Env0 P w K mg base A outer s H) (hl : vs.length = ps.length) (r : Vals vs us)
    (x : InCallC s s.heap.objs.size (bindL (envOfC qual scope s.heap.objs.size f cd).kindOf (ps.zip us) fun _ => none) (cellsFrom (s.heap.objs.size + 1) scope.names []) (bindC (envOfC qual scope s.heap.objs.size f cd).kindOf (ps.zip us) fun _ => none) s1) :
    Inv (cxOf CX P w K mg base N qual scope f cd A outer s H E) [] (start N vs) H s1 := by
  have hpl : ps.length ≤ N.length := by have := congrArg List.length S.pre; rw [List.length_take] at this; lia
  obtain ⟨h1, tk, rfl, hk⟩ := x.done
  have noA : ∀ b : Addr, b ∉ (cxOf CX P w K mg base N qual scope f cd A outer s H E).ex := fun b z => absurd (show b ∈ ([] : List Addr) from z) (by simp)
  refine ⟨⟨e0.mod, S.kind, rfl, rfl, Nat.le_refl _, fun y z c h1 h2 => ?_, fun y hy => ?_, fun y c _ h => ?_, fun _ => hd, Around.frames_deeper e0.frames, .inr ⟨rfl, rfl⟩, fun b z => absurd z (noA b), e0.bs, e0.bsz, fun b _ _ => noA b, fun b z => absurd z (noA b), e0.funs, e0.frf⟩,
    rfl, e0.bare, Un.kept hk, ⟨_, x.toInCall.ns, fun i y v h1 h2 h3 => ?_⟩, fun y c h => ⟨_, x.cell y c h⟩, e0.hok.fresh (Nat.le_refl _), fun y c h => ?_, fun p hp => absurd (show p ∈ ([] : List (Addr × Obj)) from hp) (by simp), e0.hok.kept hk, ?_⟩
  · exact name_of_addr x.apart (PySem.mem_of_lookup h1) (PySem.mem_of_lookup h2)
  · have hy : scope.names.lookup y = some .cell ∨ scope.names.lookup y = some .free := hy
    rcases hy with hy | hy
    · exact cell_has hy
    · exact absurd rfl (S.nofree _ (PySem.mem_of_lookup hy))
  · exact Nat.le_of_lt (x.above y c (PySem.mem_of_lookup h))
  · have hi : i < vs.length := by
      unfold start at h2
      by_cases hi : i < vs.length
      · exact hi
      · rw [List.getElem?_append_right (by simpa using hi)] at h2
        rw [List.getElem?_replicate] at h2
        split at h2 <;> cases h2
    have ha : vs[i]? = some v := by
      unfold start at h2
      rw [List.getElem?_append_left (by simpa using hi), List.getElem?_map] at h2
      cases e : vs[i]? with
      | none => rw [e] at h2; cases h2
      | some a => rw [e] at h2; cases h2; rfl
    obtain ⟨u, hu, rv⟩ := r.get ha
    have hp : ps[i]? = some y := by
      rw [← S.pre, List.getElem?_take_of_lt (by lia)]; exact h1
    have ndP : ps.Nodup := by rw [← S.pre]; exact S.nd.sublist (List.take_sublist _ _)
    refine ⟨u, rv, ?_⟩
    rcases S.par y (List.mem_of_getElem? hp) with k | k
    · exact .inl ⟨k, bindL_get ndP hp hu k⟩
    · obtain ⟨c, e⟩ := cell_has (n := s.heap.objs.size + 1) k
      refine .inr ⟨.inl k, c, e, ?_⟩
      have q := x.cell y c e
      rw [bindC_get ndP hp hu (by show scope.names.lookup y ≠ _; rw [k]; decide)] at q
      exact q
  · exact e0.hok.fresh (Nat.le_of_lt (x.above y c (PySem.mem_of_lookup h)))
  · unfold start
    show _ = N.length
    rw [List.length_append, List.length_map, List.length_replicate]
    lia

/-- THE RULE: a def (or a method) of the text, by its body. The body's reading t is chosen for each entry; it is run at the parameters' values -/
theorem fn_of {CX : CXT} {P : Program} {w : World} {K : PySem.W.Frag} {mg : Str → Option Value} {base : Heap} {k : Nat} {f : Addr} {name qual : Str} {params : Arguments} {body : List Stmt} {scope : Scope} {dV kV doc pm cdv ct oc : Value} {an od : Option Addr}
    {osl : Array (Option Value)} {N ps : List Str} {sp : Sp} (lk : K.lookup f = some ⟨oc, od, .func (PySem.W.fnOf name qual params body scope dV kV doc pm an cdv ct), osl⟩) (hcd : PySem.W.codeIn K cdv qual = true) (S : FnScope N ps scope)
    (len : ∀ vs H Q E, sp vs H Q E → vs.length = ps.length)
    (hbody : ∀ (A : Around) (outer : List Env) (s : Shared) (H : Hp) (vs : List V) (Q : VK) (E : XK), Room k (A.deeper (envOfC qual scope s.heap.objs.size f cdv)) → sp vs H Q E →
      ∃ t, PSs (cxOf CX P w K mg base N qual scope f cdv A outer s H E) body t ∧ t { nx := fun _ H' => Q .non H', rt := Q } (start N vs) H) :
    FnOk P w K mg base CX (k + 1) f (PySem.W.fnOf name qual params body scope dV kV doc pm an cdv ct) ps sp := by
  refine ⟨len, fun A outer s H args us vs Q E hr e0 hb r hsp => ?_⟩
  have hl := len _ _ _ _ hsp
  have KX : K.In s.heap := e0.mod.kin.keeps fun b o e => (e0.bs b o e).1
  have lim : s.heap.NoLimit := e0.mod.nolimit.keeps fun b o e => (e0.bs b o e).1
  have hkind : ∀ y ∈ ps.zip us, scope.names.lookup y.1 = some .local ∨ (scope.names.lookup y.1 = some .cell ∧ ((cellsFrom (s.heap.objs.size + 1) scope.names []).lookup y.1).isSome = true) := fun ⟨n, v⟩ hy => by
    rcases S.par n (List.of_mem_zip hy).1 with q | q
    · exact .inl q
    · exact .inr ⟨q, PySem.W.cellsFrom_some _ _ _ (.inl q)⟩
  refine codeAny_call_function hr.depth (KX _ _ lk) rfl S.co S.gen rfl (PySem.W.codeRec_of KX hcd) (hb _ _ _ _ ?_)
  refine wpAny_newFunctionEnv_cells S.kind hkind fun env he s1 x => ?_
  subst he
  refine ⟨lim.keeps x.toInCall.keep, codeAny_func ?_⟩
  obtain ⟨t, ht, hq⟩ := hbody A outer s H vs Q E (hr.deeper _) hsp
  have I : Inv (cxOf CX P w K mg base N qual scope f cdv A outer s H E) [] (start N vs) H s1 := inv_start S hr.hd e0 hl r x
  refine wpAny_mono (ht [] s1 (start N vs) H _ I hq) (fun fl s' hs => ?_) fun e s' hs => hs
  have fin : ∀ {σ' : St} {H' : Hp} {v : V} {u : Value}, Inv (cxOf CX P w K mg base N qual scope f cdv A outer s H E) [] σ' H' s' → RelV v u → Q v H' → CE outer P w H s Q u s' :=
    fun {σ' H' v u} J rv q => ⟨v, H', J.os, J.bare, J.base, J.hok, rv, q⟩
  cases fl with
  | ret u =>
    obtain ⟨v, σ', H', J, rv, q⟩ := hs
    exact fin J rv q
  | next =>
    obtain ⟨σ', H', J, q⟩ := hs
    exact fin (v := V.non) (u := Value.none) J rfl q
  | brk =>
    obtain ⟨_, _, _, q⟩ := hs
    exact False.elim q
  | cont =>
    obtain ⟨_, _, _, q⟩ := hs
    exact False.elim q
end L2

namespace L2
open PySem PySem.Spec PyProof.Rows
section
variable {X : Cx} {x : Str} {p pos : Pos} {e : Expr} {es : List Expr} {t : TA} {id T : String} {r : List V → Hp → VK → Prop}

def tCB (r : List V → Hp → VK → Prop) (t : TA) : TE := fun σ H Q => t σ H fun vs H1 => r vs H1 Q
/-- f(e, ..), f a built-in function -/
theorem pe_callB (hc : CallR X (.builtin id) r) (hg : Gl X x) (hm : X.mg x = none) (hv : bootBuiltins x = some (.builtin id)) (ha : PA X (e :: es) t) (hn : x ≠ "__name__" := by decide) (hdb : (x == ("__debug__" : Str)) = false := by decide)
    (he : starEach (e :: es) X.env = (false, eval e X.env) :: starEach es X.env := by rfl) (hpl : (backTo pos (starEach es X.env)).any (·.1) = false := by rfl) : PE X (.Call (.Name x p) (e :: es) [] pos) (tCB r t) := by
  intro pins s σ H Q I h
  refine wpAny_Call_Name_kw (ld_blt I hg hm hv ?_ hn hdb)
  exact PyProof.Rows.callWith_builtin1 (thn (ha pos pins s σ H _ I h) fun us s1 ⟨vs, H1, I1, r1, q1⟩ => hc pins s1 σ H1 vs us Q I1 r1 q1) he hpl
/-- T(e, ..), T a built-in type -/
theorem pe_callTy (hc : CallR X (.type T) r) (hg : Gl X x) (hm : X.mg x = none) (hv : bootBuiltins x = some (.type T)) (ha : PA X (e :: es) t) (hn : x ≠ "__name__" := by decide) (hdb : (x == ("__debug__" : Str)) = false := by decide)
    (he : starEach (e :: es) X.env = (false, eval e X.env) :: starEach es X.env := by rfl) (hpl : (backTo pos (starEach es X.env)).any (·.1) = false := by rfl) : PE X (.Call (.Name x p) (e :: es) [] pos) (tCB r t) := by
  intro pins s σ H Q I h
  refine wpAny_Call_Name_kw (ld_blt I hg hm hv ?_ hn hdb)
  exact PyProof.Rows.callWith_type1 (thn (ha pos pins s σ H _ I h) fun us s1 ⟨vs, H1, I1, r1, q1⟩ => hc pins s1 σ H1 vs us Q I1 r1 q1) he hpl
end
end L2

namespace HT
open PySem PyProof.Rows

section
open PySem.SeqAt
open PySem.AutoSeq1 (wpAny_loadPart')
open PySem.MeetsSeq PySem.MeetsSeq2 PySem.MeetsSeq3

end

section
variable {prog : Program} {w : World} {A : Around} {E : Value → Shared → Prop} {s : Shared}

/-- t + u, t not empty -/
theorem cat_tup {t b : Addr} {vs ws : List Value} {Q : Value → Shared → Prop} (ht : IsTup s.heap t vs.toArray) (hb : IsTup s.heap b ws.toArray) (hv : vs ≠ [])
    (h1 : ws = [] → Q (.ref t) s) (h2 : ws ≠ [] → Q (.ref s.heap.objs.size) { s with heap := s.heap.push { cls := .type "tuple", data := .seq (vs ++ ws).toArray } })
    (hsz : vs.length + ws.length ≤ sizeLine) : wpAny (model prog w) A (binaryOp .Add (.ref t) (.ref b)) Q E s := by
  obtain ⟨⟨cls, dd, data, sl⟩, ho, hc, n, hd⟩ := id ht
  obtain ⟨⟨cls2, dd2, data2, sl2⟩, ho2, hc2, n2, hd2⟩ := id hb
  simp only at hc hd hc2 hd2
  subst hc hd hc2 hd2
  have e : vs.toArray ++ ws.toArray = (vs ++ ws).toArray := by simp
  by_cases hw : ws = []
  · exact concat_meets ⟨_, ho, rfl⟩ ⟨_, ho2, rfl⟩ noFill_tuple_add seq_tuple_add PySem.F.slot_tuple_add PySem.F.entry_tuple_add (PySem.F.args_tuple_add_2 _ _)
      (tuple_addW1 t b vs.toArray ws.toArray n n2 dd dd2 sl sl2 (by simpa using hv) (by simp [hw])) ⟨ho, ho2, h1 hw⟩
  · refine concat_meets ⟨_, ho, rfl⟩ ⟨_, ho2, rfl⟩ noFill_tuple_add seq_tuple_add PySem.F.slot_tuple_add PySem.F.entry_tuple_add (PySem.F.args_tuple_add_2 _ _)
      (tuple_addW2 t b vs.toArray ws.toArray n n2 dd dd2 sl sl2 (by simpa using hv) (by simpa using hw) (by rw [List.size_toArray, List.size_toArray]; exact hsz)) ⟨ho, ho2, ?_⟩
    rw [e]
    exact h2 hw

/-! ### t[a:b], not the whole -/
/-- a slice's bound as a place among n (d where it is left out) -/
def sIx (n d : Nat) : Option Int → Nat
  | none => d
  | some v => if v < 0 then (v + (n : Int)).toNat else min v.toNat n
theorem sIx_nat (n d k : Nat) : sIx n d (some (k : Int)) = min k n := by
  show (if (k : Int) < 0 then ((k : Int) + (n : Int)).toNat else min (k : Int).toNat n) = min k n
  rw [if_neg (by lia), Int.toNat_natCast]
theorem clip_eq (v : Int) (n d : Nat) : (if v < 0 then max (v + (n : Int)) 0 else min v (n : Int)) = ((sIx n d (some v) : Nat) : Int) := by
  show (if v < 0 then max (v + (n : Int)) 0 else min v (n : Int)) = (((if v < 0 then (v + (n : Int)).toNat else min v.toNat n) : Nat) : Int)
  by_cases hv : v < 0
  · rw [if_pos hv, if_pos hv, Int.toNat_eq_max]
  · rw [if_neg hv, if_neg hv]
    obtain ⟨k, rfl⟩ := Int.eq_ofNat_of_zero_le (Int.not_lt.mp hv)
    rw [Int.toNat_natCast]
    rcases Nat.le_total k n with h | h
    · rw [Nat.min_eq_left h, Int.min_eq_left (Int.ofNat_le.mpr h)]
    · rw [Nat.min_eq_right h, Int.min_eq_right (Int.ofNat_le.mpr h)]
end
end HT

namespace L2
open PySem PySem.Spec PyProof.Rows

/-! ### the parts of a slice -/
abbrev TO := St → Hp → (Option Int → Hp → Prop) → Prop
/-- a slice's part (left out, or an int) -/
def PO (X : Cx) (e : Option Expr) (t : TO) : Prop :=
  ∀ (pins : List (Addr × Obj)) (s : Shared) (σ : St) (H : Hp) (Q : Option Int → Hp → Prop), Inv X pins σ H s → t σ H Q →
    wpAny (model X.prog X.w) X.A (evalPart e X.env) (fun u s' => ∃ o H', Inv X pins σ H' s' ∧ IsPart u o ∧ Q o H') X.xe s
def tNoPart : TO := fun _ H Q => Q none H
def tPart (t : TE) : TO := fun σ H Q => t σ H fun x H1 => ∃ i, x = .int i ∧ Q (some i) H1

section
variable {X : Cx} {e : Expr} {te : TE} {lo hi : Option Expr} {tl th : TO} {pos p2 : Pos}

theorem po_none : PO X none tNoPart := by
  intro pins s σ H Q I h
  rw [evalPart_none]
  exact wpAny_pure ⟨none, H, I, .none, h⟩
theorem po_some (h : PE X e te) : PO X (some e) (tPart te) := by
  intro pins s σ H Q I hw
  rw [evalPart_some]
  refine thn (h pins s σ H _ I hw) fun u s1 ⟨x, H1, I1, r1, q1⟩ => ?_
  obtain ⟨i, rfl, q⟩ := q1
  obtain ⟨t, rfl⟩ := r1
  exact ⟨some i, H1, I1, .int i t, q⟩

/-- what a slice of a value is, by values: the slice object stands at sl -/
def SlR (X : Cx) (r : V → Option Int → Option Int → Hp → VK → Prop) : Prop :=
  ∀ (pins : List (Addr × Obj)) (s : Shared) (σ : St) (H : Hp) (x : V) (v vl vu : Value) (lo hi : Option Int) (sl : Addr) (Q : VK), Inv X pins σ H s → RelV x v → s.heap.IsSliceOf sl vl vu .none → IsPart vl lo → IsPart vu hi → r x lo hi H Q →
    ∃ T id, typeLookup (.type T) "__getitem__" = pure (some (.builtin id)) ∧ s.TypeIs v T ∧ wpAny (model X.prog X.w) X.A (getItem v (.ref sl)) (EP X pins σ Q) X.xe s
def tSl (r : V → Option Int → Option Int → Hp → VK → Prop) (te : TE) (tl th : TO) : TE := fun σ H Q => te σ H fun x H1 => tl σ H1 fun l H2 => th σ H2 fun u H3 => r x l u H3 Q
/-- a[lo:hi], any a -/
theorem pe_slice {r : V → Option Int → Option Int → Hp → VK → Prop} (hr : SlR X r) (he : PE X e te) (hl : PO X lo tl) (hu : PO X hi th) : PE X (.Subscript e (.Slice lo hi none p2) pos) (tSl r te tl th) := by
  intro pins s σ H Q I h
  refine Subscript_ (thn (he pins s σ H _ I h) fun v s1 ⟨x, H1, I1, r1, q1⟩ => ?_)
  refine wpAny_Slice (thn (hl pins s1 σ H1 _ I1 q1) fun vl s2 ⟨l, H2, I2, pl, q2⟩ => thn (hu pins s2 σ H2 _ I2 q2) fun vu s3 ⟨u, H3, I3, pu, q3⟩ => ?_)
  rw [evalPart_none]
  refine wpAny_pure ?_
  have I4 : Inv X pins σ H3 { s3 with heap := s3.heap.push { cls := .type "slice", data := .fields #[vl, vu, .none] } } := I3.kept (t' := s3.toks) fun b ob q => Heap.get?_push_of_some _ q
  obtain ⟨T, id, hT, ht, hg⟩ := hr pins { s3 with heap := s3.heap.push { cls := .type "slice", data := .fields #[vl, vu, .none] } } σ H3 x v vl vu l u s3.heap.objs.size Q I4 r1 (Heap.IsSliceOf.new ..) pl pu q3
  show wpAny (model X.prog X.w) X.A (subscriptTail e (.Slice lo hi none p2) v (.ref s3.heap.objs.size)) (EP X pins σ Q) X.xe { s3 with heap := s3.heap.push { cls := .type "slice", data := .fields #[vl, vu, .none] } }
  exact tail_any (ops := [.ref s3.heap.objs.size, v]) ht hT hg (by with_unfolding_all rfl)

/-- the items of xs[lo:hi] -/
def cutV (xs : List V) (lo hi : Option Int) : List V := (xs.drop (HT.sIx xs.length 0 lo)).take (HT.sIx xs.length xs.length hi - HT.sIx xs.length 0 lo)
theorem cutV_length (xs : List V) (lo hi : Option Int) : (cutV xs lo hi).length ≤ xs.length := by
  unfold cutV
  rw [List.length_take, List.length_drop]
  exact Nat.le_trans (Nat.min_le_right _ _) (Nat.sub_le _ _)
/-! ### t < u, t + u -/
/-- t + u, t not empty: u empty gives t itself -/
inductive rCatT (K : PySem.W.Frag) (x : V) (y : V) (H : Hp) (Q : VK) : Prop
  | mk (a : _) (b : _) (xs : _) (ys : _) (h1 : x = .ref a) (h2 : y = .ref b) (h3 : SqT K H a xs) (h4 : SqT K H b ys) (h5 : xs ≠ []) (h6 : xs.length + ys.length ≤ sizeLine) (h7 : (ys = [] → Q (.ref a) H)) (h8 : (ys ≠ [] → ∀ p, H p = none → Q (.ref p) (upd H p (.tup (xs ++ ys))))) : rCatT K x y H Q
theorem Vals.nil_iff {xs : List V} {us : List Value} (r : Vals xs us) : us = [] ↔ xs = [] := by
  cases r with
  | nil => simp
  | cons _ _ => simp
theorem op_catT : OpR X (binaryOp .Add) (rCatT X.K) := by
  intro pins s σ H x y v u Q I rx ry h
  obtain ⟨a, b, xs, ys, rfl, rfl, ha, hb, hx, hz, q1, q2⟩ := h
  cases rx
  cases ry
  obtain ⟨its, r1, p1, _⟩ := I.tuple ha
  obtain ⟨its2, r2, p2, _⟩ := I.tuple hb
  refine HT.cat_tup p1 p2 (fun z => hx (r1.nil_iff.mp z)) (fun z => ⟨.ref a, H, I, rfl, q1 (r2.nil_iff.mp z)⟩) (fun z => ?_) (by rw [← r1.length, ← r2.length]; exact hz)
  refine ⟨.ref s.heap.objs.size, _, I.laid (t' := s.toks) (o := .tup (xs ++ ys)) (fun b ob q => Heap.get?_push_of_some _ q) (Nat.le_refl _) ?_, rfl, q2 (fun w => z (r2.nil_iff.mpr w)) _ (I.hok.fresh (Nat.le_refl _))⟩
  exact ⟨by rw [List.length_append]; exact hz, _, r1.append r2, IsTup.new _ _⟩
end
end L2

namespace L2
open PySem PySem.Spec PyProof.Rows

/-! ### places -/
/-- the place that an index of any sign means -/
def ixN (n : Nat) (i : Int) : Option Nat := if 0 ≤ i then (if i < n then some i.toNat else none) else if -(n : Int) ≤ i then some (i + n).toNat else none
def atI {α : Type} (xs : List α) (i : Int) : Option α := (ixN xs.length i).bind fun j => xs[j]?
theorem ixN_seq {n : Nat} {i : Int} {j : Nat} (h : ixN n i = some j) : seqIndex? i n = some j ∧ j < n ∧ -(n : Int) ≤ i ∧ i < n := by
  unfold ixN at h
  by_cases h0 : 0 ≤ i
  · rw [if_pos h0] at h
    by_cases h1 : i < n
    · rw [if_pos h1] at h
      have e : i.toNat = j := Option.some.inj h
      exact ⟨by rw [seqIndex_of h0 h1, e], by lia, by lia, h1⟩
    · rw [if_neg h1] at h; cases h
  · rw [if_neg h0] at h
    by_cases h1 : -(n : Int) ≤ i
    · rw [if_pos h1] at h
      have e : (i + n).toNat = j := Option.some.inj h
      exact ⟨by rw [seqIndex_neg (by lia) h1, e], by lia, h1, by lia⟩
    · rw [if_neg h1] at h; cases h
theorem atI_get {α : Type} {xs : List α} {i : Int} {v : α} (h : atI xs i = some v) : ∃ j, seqIndex? i xs.length = some j ∧ xs[j]? = some v ∧ j < xs.length ∧ -(xs.length : Int) ≤ i ∧ i < xs.length := by
  unfold atI at h
  cases e : ixN xs.length i with
  | none => rw [e] at h; cases h
  | some j =>
    rw [e] at h
    obtain ⟨h1, h2, h3, h4⟩ := ixN_seq e
    exact ⟨j, h1, h, h2, h3, h4⟩
theorem atI_nat {α : Type} {xs : List α} {j : Nat} {v : α} (h : xs[j]? = some v) : atI xs (j : Int) = some v := by
  have hj : j < xs.length := (List.getElem?_eq_some_iff.mp h).1
  have e : ixN xs.length (j : Int) = some j := by
    unfold ixN
    rw [if_pos (by lia), if_pos (by lia)]; simp
  unfold atI; rw [e]; exact h
/-! ### what may be subscripted -/
/-- what stands as an index of a plain subscript -/
def PlainIx (b : Expr) : Prop := ∀ o i, subscripted b false o i = operate [o, i] (getItem o i)
/-- a subscript by values -/
def IxR (X : Cx) (r : R2) : Prop :=
  ∀ (value slice : Expr) (pins : List (Addr × Obj)) (s : Shared) (σ : St) (H : Hp) (x y : V) (v u : Value) (Q : VK), Inv X pins σ H s → RelV x v → RelV y u → r x y H Q →
    subscripted slice false v u = operate [v, u] (getItem v u) → wpAny (model X.prog X.w) X.A (subscriptTail value slice v u) (EP X pins σ Q) X.xe s
/-- a call of a builtin's method by values: the receiver, the arguments -/
def MtR (X : Cx) (id : String) (r : V → List V → Hp → VK → Prop) : Prop :=
  ∀ (pins : List (Addr × Obj)) (s : Shared) (σ : St) (H : Hp) (x : V) (xs : List V) (v : Value) (us : List Value) (Q : VK), Inv X pins σ H s → RelV x v → Vals xs us → r x xs H Q →
    wpAny (model X.prog X.w) X.A (call (.builtin id) (v :: us)) (EP X pins σ Q) X.xe s
section
variable {X : Cx} {a b : Expr} {ta tb : TE} {pos : Pos}
/-- a[b] -/
theorem pe_ix {r : R2} (hr : IxR X r) (ha : PE X a ta) (hb : PE X b tb) (hs : PlainIx b) : PE X (.Subscript a b pos) (tOp r ta tb) := by
  intro pins s σ H Q I h
  exact Subscript_ (binT ha hb I h fun v u s2 x y H2 I2 rx ry q => hr a b pins s2 σ H2 x y v u Q I2 rx ry q (hs _ _))

inductive rIxL (K : PySem.W.Frag) (x : V) (y : V) (H : Hp) (Q : VK) : Prop
  | mk (p : _) (xs : _) (i : _) (v : _) (h1 : x = .ref p) (h2 : y = .int i) (h3 : SqL K H p xs) (h4 : atI xs i = some v) (h5 : Q v H) : rIxL K x y H Q
inductive rIxT (K : PySem.W.Frag) (x : V) (y : V) (H : Hp) (Q : VK) : Prop
  | mk (p : _) (xs : _) (i : _) (v : _) (h1 : x = .ref p) (h2 : y = .int i) (h3 : SqT K H p xs) (h4 : atI xs i = some v) (h5 : Q v H) : rIxT K x y H Q
theorem ix_list : IxR X (rIxL X.K) := by
  intro value slice pins s σ H x y v u Q I rx ry h hs
  obtain ⟨p, xs, i, z, rfl, rfl, hq, he, q⟩ := h
  cases rx
  obtain ⟨t, rfl⟩ := ry
  obtain ⟨its, r, pl, hz⟩ := I.list hq
  obtain ⟨j, h1, h2, h3, h4, h5⟩ := atI_get he
  obtain ⟨w, ew, rw'⟩ := r.get h2
  have hl := r.length
  have hn := line63
  have fin : EP X pins σ Q w s := ⟨z, H, I, rw', q⟩
  by_cases h0 : 0 ≤ i
  · have hj : i.toNat = j := by
      rw [seqIndex_of h0 h5] at h1
      exact Option.some.inj h1
    exact item_listR pl.isList h0 (by lia) (by rw [hj]; simpa using ew) fin hs
  · have hj : (i + (its.toArray.size : Int)).toNat = j := by
      rw [seqIndex_neg (by lia) h4] at h1
      rw [List.size_toArray, ← hl]
      exact Option.some.inj h1
    exact subscriptTail_builtinR (x := w) pl.isList.typeIs slot_list_getitem.lookup
      (wpAny_getItem_list_neg (Q := fun r s' => r = w ∧ EP X pins σ Q r s') pl.isList (by lia) (by rw [List.size_toArray] <;> lia) (by lia) (by rw [hj]; simpa using ew) ⟨rfl, fin⟩) hs
theorem ix_tup : IxR X (rIxT X.K) := by
  intro value slice pins s σ H x y v u Q I rx ry h hs
  obtain ⟨p, xs, i, z, rfl, rfl, hq, he, q⟩ := h
  cases rx
  obtain ⟨t, rfl⟩ := ry
  obtain ⟨its, r, pl, hz⟩ := I.tuple hq
  obtain ⟨j, h1, h2, h3, h4, h5⟩ := atI_get he
  obtain ⟨w, ew, rw'⟩ := r.get h2
  have hl := r.length
  have hn := line63
  have fin : EP X pins σ Q w s := ⟨z, H, I, rw', q⟩
  exact subscriptTail_builtinR (x := w) pl.typeIs slot_tuple_getitem.lookup
    (getItem_tuple (j := j) (Q := fun r s' => r = w ∧ EP X pins σ Q r s') pl (by lia) (by lia) (by rw [List.size_toArray, ← hl]; exact h1) (by simpa using ew) ⟨rfl, fin⟩) hs
/-! ### xs[i] = v, any sign -/
/-- the list's object behind a store -/
theorem mapSeq_set (its : List Value) (n j : Nat) (u : Value) : Obj.mapSeq (·.setIfInBounds j u) { cls := .type "list", data := .seq its.toArray n } = { cls := .type "list", data := .seq (its.set j u).toArray n } := by
  simp [Obj.mapSeq]
theorem Inv.lst {pins : List (Addr × Obj)} {σ : St} {H : Hp} {s : Shared} {p : Addr} {xs : List V} (I : Inv X pins σ H s) (h : H p = some (.lst xs)) :
    ∃ (its : List Value) (n : Nat), Vals xs its ∧ s.heap.get? p = some { cls := .type "list", data := .seq its.toArray n } ∧ xs.length ≤ sizeLine := by
  obtain ⟨z, its, n, r, e⟩ := I.hok p _ h
  exact ⟨its, n, r, e, z⟩
/-- the list at p is written by an update of its object -/
theorem Inv.lstUpd {pins : List (Addr × Obj)} {σ : St} {H : Hp} {s : Shared} {p : Addr} {xs ys : List V} {its its' : List Value} {n n' : Nat} {f : Obj → Obj} (I : Inv X pins σ H s) (h : H p = some (.lst xs))
    (ho : s.heap.get? p = some { cls := .type "list", data := .seq its.toArray n }) (hf : f { cls := .type "list", data := .seq its.toArray n } = { cls := .type "list", data := .seq its'.toArray n' }) (r : Vals ys its') (hz : ys.length ≤ sizeLine) (t : Nat) :
    Inv X pins σ (upd H p (.lst ys)) { s with heap := s.heap.update p f, toks := t } := by
  have e : (s.heap.update p f).get? p = some { cls := .type "list", data := .seq its'.toArray n' } := by
    rw [Heap.get?_update_self f ho (by rw [hf] <;> rfl), hf]
  refine I.write (x := p) (e := p) (by rw [h]; trivial) (.inl rfl) (fun b u hb q => (Heap.get?_update_other _ _ (Ne.symm hb)).trans q) ⟨_, e⟩ ?_
  exact ⟨hz, its', n', r, e⟩
inductive rSetL (o : V) (i : V) (v : V) (H : Hp) (Q : (Hp → Prop)) : Prop
  | mk (p : _) (xs : _) (k : _) (j : _) (h1 : o = .ref p) (h2 : i = .int k) (h3 : H p = some (.lst xs)) (h4 : ixN xs.length k = some j) (h5 : Q (upd H p (.lst (xs.set j v)))) : rSetL o i v H Q
theorem set_list : PSet X rSetL := by
  intro pins s σ H o i v ov iv u Q I ro ri rv h
  obtain ⟨p, xs, k, j, rfl, rfl, hp, hj, q⟩ := h
  cases ro
  obtain ⟨t, rfl⟩ := ri
  obtain ⟨its, n, r, ho, hz⟩ := I.lst hp
  obtain ⟨h1, h2, h3, h4⟩ := ixN_seq hj
  have hl := r.length
  have hn := line63
  have I' : Inv X pins σ (upd H p (.lst (xs.set j v))) { s with heap := s.heap.update p (Obj.mapSeq (·.setIfInBounds j u)) } :=
    I.lstUpd hp ho (mapSeq_set its n j u) (r.set rv j) (by rw [List.length_set]; exact hz) s.toks
  by_cases h0 : 0 ≤ k
  · have hk : k.toNat = j := by
      rw [seqIndex_of h0 h4] at h1
      exact Option.some.inj h1
    exact PySem.W.ki_setAt ho h0 (by lia) (by rw [List.size_toArray, ← hl]; exact h4) (by rw [hk]; exact ⟨_, I', q⟩)
  · have hk : (k + (its.toArray.size : Int)).toNat = j := by
      rw [seqIndex_neg (by lia) h3] at h1
      rw [List.size_toArray, ← hl]
      exact Option.some.inj h1
    exact PySem.W.ki_setBack ho (by lia) (by rw [List.size_toArray, ← hl]; exact h3) (by lia) (by rw [hk]; exact ⟨_, I', q⟩)

/-! ### slices -/
theorem slice_bounds (lo hi : Option Int) (n : Nat) : (sliceBounds lo hi none n).1 = ((HT.sIx n 0 lo : Nat) : Int) ∧ (sliceBounds lo hi none n).2.1 = ((HT.sIx n n hi : Nat) : Int) ∧ (sliceBounds lo hi none n).2.2 = 1 := by
  have key : ∀ (i : Int) (d : Nat), max 0 (min (if i < 0 then i + (n : Int) else i) (n : Int)) = ((HT.sIx n d (some i) : Nat) : Int) := by
    intro i d
    rw [← HT.clip_eq]
    by_cases h : i < 0
    · rw [if_pos h, if_pos h, Int.min_eq_left (by lia), Int.max_comm]
    · rw [if_neg h, if_neg h, Int.max_eq_right (Int.le_min.mpr ⟨by lia, by lia⟩)]
  refine ⟨?_, ?_, rfl⟩
  · cases lo with
    | none => simp [sliceBounds, HT.sIx]
    | some i => exact key i 0
  · cases hi with
    | none => simp [sliceBounds, HT.sIx]
    | some i => exact key i n
theorem slicePick_cut (its : List Value) (lo hi : Option Int) : slicePick its.toArray lo hi none = ((its.drop (HT.sIx its.length 0 lo)).take (HT.sIx its.length its.length hi - HT.sIx its.length 0 lo)).toArray := by
  obtain ⟨h1, h2, h3⟩ := slice_bounds lo hi its.toArray.size
  unfold slicePick
  rw [h1, h2, h3]
  simp only [sliceRange_one, pick_run, List.size_toArray] <;> rfl
/-- xs[lo:hi] of a list: a new list -/
inductive rSlL (K : PySem.W.Frag) (x : V) (lo : Option Int) (hi : Option Int) (H : Hp) (Q : VK) : Prop
  | mk (a : _) (xs : _) (h1 : x = .ref a) (h2 : SqL K H a xs) (h3 : ∀ p, H p = none → Q (.ref p) (upd H p (.lst (cutV xs lo hi)))) : rSlL K x lo hi H Q
theorem sl_list : SlR X (rSlL X.K) := by
  intro pins s σ H x v vl vu lo hi sl Q I rx hs pl pu h
  obtain ⟨a, xs, rfl, hx, q⟩ := h
  cases rx
  obtain ⟨its, r, ht, hz⟩ := I.list hx
  have hlen := r.length
  refine ⟨"list", _, slot_list_getitem.lookup, ht.isList.typeIs, ?_⟩
  refine wpAny_getItem_list_slice ht.isList hs pl pu .none (by simp) ?_ (by rw [List.size_toArray] <;> lia)
  rw [slicePick_cut, ← hlen]
  refine ⟨.ref s.heap.objs.size, _, I.laid (t' := s.toks) (o := .lst (cutV xs lo hi)) (fun b ob q => Heap.get?_push_of_some _ q) (Nat.le_refl _) ?_, rfl, q _ (I.hok.fresh (Nat.le_refl _))⟩
  exact ⟨Nat.le_trans (cutV_length xs lo hi) hz, _, 0, (r.drop (HT.sIx xs.length 0 lo)).take (HT.sIx xs.length xs.length hi - HT.sIx xs.length 0 lo), Heap.get?_push_size _ rfl⟩

/-! ### in, not in: flat items -/
/-! ### len, list(x), tuple(x) of any list or tuple that is read -/
theorem call_len_seq : CallR X (.builtin "len") (fun xs H Q => ∃ p ys, xs = [.ref p] ∧ (SqL X.K H p ys ∨ SqT X.K H p ys) ∧ Q (.int ys.length) H) := by
  intro pins s σ H xs us Q I r h
  obtain ⟨p, ys, rfl, hq, q⟩ := h
  obtain ⟨u, rfl, rx⟩ := vals1 r
  cases rx
  have hn := line63
  rcases hq with hq | hq
  · obtain ⟨its, r', pl, hz⟩ := I.list hq
    have hlen := r'.length
    exact Calls.call_len_list pl.isList (by simp only [List.size_toArray] <;> lia) ⟨.int ys.length, H, I.tok _, ⟨s.toks + 1, by rw [List.size_toArray, hlen]⟩, q⟩
  · obtain ⟨its, r', pl, hz⟩ := I.tuple hq
    have hlen := r'.length
    exact len_tuple pl (by simp only [List.size_toArray] <;> lia) ⟨.int ys.length, H, I.tok _, ⟨s.toks + 1, by rw [List.size_toArray, hlen]⟩, q⟩
theorem call_list_of : CallR X (.type "list") (fun xs H Q => ∃ p ys, xs = [.ref p] ∧ (SqL X.K H p ys ∨ SqT X.K H p ys) ∧ ∀ l, H l = none → Q (.ref l) (upd H l (.lst ys))) := by
  intro pins s σ H xs us Q I r h
  obtain ⟨p, ys, rfl, hq, q⟩ := h
  obtain ⟨u, rfl, rx⟩ := vals1 r
  cases rx
  have fin : ∀ (its : List Value), Vals ys its → ys.length ≤ sizeLine → ∀ (h' : Heap) (c' : Nat), (∀ b o', s.heap.get? b = some o' → h'.get? b = some o') →
      h'.get? s.heap.objs.size = some { cls := .type "list", dict := none, data := .seq its.toArray c', slots := #[] } → EP X pins σ Q (.ref s.heap.objs.size) { s with heap := h' } := fun its r' hz h' c' kp e =>
    ⟨.ref s.heap.objs.size, _, I.laid (t' := s.toks) kp (Nat.le_refl _) (show ObjOk X.prog X.w _ h' _ (.lst ys) from ⟨hz, its, c', r', e⟩), rfl, q _ (I.hok.fresh (Nat.le_refl _))⟩
  rcases hq with hq | hq
  · obtain ⟨its, r', pl, hz⟩ := I.list hq
    have hlen := r'.length
    obtain ⟨o, ho, hc, n, hd⟩ := pl.isList
    exact call_list_seq p (.inl rfl) ho hc hd (fun h' c' kp e => fin its r' hz h' c' kp e) (by simp only [List.size_toArray] <;> lia)
  · obtain ⟨its, r', pl, hz⟩ := I.tuple hq
    have hlen := r'.length
    obtain ⟨o, ho, hc, n, hd⟩ := pl
    exact call_list_seq p (.inr rfl) ho hc hd (fun h' c' kp e => fin its r' hz h' c' kp e) (by simp only [List.size_toArray] <;> lia)
theorem call_tuple_of : CallR X (.type "tuple") (fun xs H Q => ∃ p ys, xs = [.ref p] ∧ ((SqL X.K H p ys ∧ ∀ l, H l = none → Q (.ref l) (upd H l (.tup ys))) ∨ (SqT X.K H p ys ∧ Q (.ref p) H))) := by
  intro pins s σ H xs us Q I r h
  obtain ⟨p, ys, rfl, h⟩ := h
  obtain ⟨u, rfl, rx⟩ := vals1 r
  cases rx
  rcases h with ⟨hq, q⟩ | ⟨hq, q⟩
  · obtain ⟨its, r', pl, hz⟩ := I.list hq
    have hlen := r'.length
    refine call_tuple_list pl.isList (fun h' kp => ?_) (by simp only [List.size_toArray] <;> lia)
    have I1 : Inv X pins σ H { s with heap := h' } := I.kept (t' := s.toks) kp
    have I2 : Inv X pins σ (upd H h'.objs.size (.tup ys)) { s with heap := h'.push { cls := .type "tuple", data := .seq its.toArray } } :=
      I1.laid (t' := s.toks) (fun b o e => Heap.get?_push_of_some _ e) (Nat.le_refl _) (show ObjOk X.prog X.w _ _ _ (.tup ys) from ⟨hz, its, r', IsTup.new _ _⟩)
    exact ⟨.ref h'.objs.size, _, I2, rfl, q _ (I1.hok.fresh (Nat.le_refl _))⟩
  · obtain ⟨its, r', pl, hz⟩ := I.tuple hq
    exact call_tuple_same pl ⟨.ref p, H, I, rfl, q⟩

/-! ### the call of a builtin's method: o.m(..) -/
/-- the value is of that builtin type -/
def tyV (K : PySem.W.Frag) (T : String) (x : V) (H : Hp) : Prop := match x with
  | .str _ => T = "str"
  | .int _ => T = "int"
  | .ref p => (T = "list" ∧ ∃ xs, SqL K H p xs) ∨ (T = "tuple" ∧ ∃ o, K.lookup p = some o ∧ o.cls = .type "tuple" ∧ o.dict = none) ∨
      (T = "dict" ∧ ((∃ kvs, H p = some (.dK kvs)) ∨ ∃ kvs, H p = some (.dT kvs))) ∨ (T = "set" ∧ ∃ S n, H p = some (.set S n))
  | _ => False
theorem tyV_is {pins : List (Addr × Obj)} {σ : St} {H : Hp} {s : Shared} {T : String} {x : V} {v : Value} (I : Inv X pins σ H s) (r : RelV x v) (ty : tyV X.K T x H) :
    s.TypeIs v T ∧ ∀ a, v = .ref a → ∃ ob, s.heap.get? a = some ob ∧ ob.dict = none := by
  cases x with
  | str z =>
    obtain ⟨t, rfl⟩ := r
    cases (show T = "str" from ty)
    exact ⟨typeIs_str s z t, fun _ e => nomatch e⟩
  | int i =>
    obtain ⟨t, rfl⟩ := r
    cases (show T = "int" from ty)
    exact ⟨typeIs_int s i t, fun _ e => nomatch e⟩
  | ref p =>
    cases r
    rcases ty with ⟨rfl, xs, hq⟩ | ⟨rfl, o, hk, hc, hd⟩ | ⟨rfl, hk⟩ | ⟨rfl, S, n, hk⟩
    · obtain ⟨its, _, pl, _⟩ := I.list hq
      refine ⟨pl.isList.typeIs, fun a e => ?_⟩
      cases e
      obtain ⟨o, n, e, c, hd, _⟩ := pl
      exact ⟨o, e, hd⟩
    · refine ⟨⟨o, I.kIn p o hk, hc⟩, fun a e => ?_⟩
      cases e
      exact ⟨o, I.kIn _ o hk, hd⟩
    · have z : ∃ o, s.heap.get? p = some o ∧ o.ExactDict := by
        rcases hk with ⟨kvs, hk⟩ | ⟨kvs, hk⟩
        · obtain ⟨_, _, _, _, o, _, _, e, ex, _⟩ := I.hok p _ hk
          exact ⟨o, e, ex⟩
        · obtain ⟨_, _, _, _, o, _, _, e, ex, _⟩ := I.hok p _ hk
          exact ⟨o, e, ex⟩
      obtain ⟨o, e, ex⟩ := z
      refine ⟨⟨o, e, ex.1⟩, fun a e2 => ?_⟩
      cases e2
      exact ⟨o, e, ex.2.1⟩
    · obtain ⟨o, _, _, _, e, ex, _⟩ := I.hok p _ hk
      refine ⟨⟨o, e, ex.1⟩, fun a e2 => ?_⟩
      cases e2
      exact ⟨o, e, ex.2.1⟩
  | _ => exact False.elim ty
def tBM0 (K : PySem.W.Frag) (T : String) (r : V → List V → Hp → VK → Prop) (to : TE) : TE := fun σ H Q => to σ H fun x H1 => tyV K T x H1 ∧ r x [] H1 Q
variable {o e : Expr} {es : List Expr} {to : TE} {t : TA} {name : Str} {apos cpos : Pos} {T id : String} {r : V → List V → Hp → VK → Prop}
theorem pe_bm0 (pa : PlainAttrs T) (slot : Slot T name id) (hty : typeOf (.builtin id) = pure (.type "method_descriptor")) (hm : MtR X id r) (ho : PE X o to)
    (hbase : attributeBase o name X.env (eval o X.env) = eval o X.env := by rfl) (hline : (apos.endLine == cpos.line) = true := by rfl) {K : PySem.W.Frag} (eK : X.K = K := by rfl) : PE X (.Call (.Attribute o name apos) [] [] cpos) (tBM0 K T r to) := by
  subst eK
  intro pins s σ H Q I h
  refine wpAny_Call_method0_late hbase hline (thn (ho pins s σ H _ I h) fun v s1 ⟨x, H1, I1, r1, ty, q1⟩ => ?_)
  obtain ⟨h1, h2⟩ := tyV_is I1 r1 ty
  exact ⟨T, id, pa, slot, hty, h1, h2, Calls.callWith_builtin rfl (PySem.evalArgs_none (hm pins s1 σ H1 x [] v [] Q I1 r1 .nil q1))⟩
/- xs.append(e), list.index on a module's tuple .. are MtR facts of 06m -/
end
end L2

namespace L2
open PySem PySem.Spec PyProof.Rows

def MtM (X : Cx) (id : String) (r : V → List V → Hp → VK → Prop) : Prop :=
  ∀ (pins : List (Addr × Obj)) (s : Shared) (σ : St) (H : Hp) (x : V) (xs : List V) (v : Value) (us : List Value) (Q : VK), Inv X pins σ H s → RelV x v → Vals xs us → r x xs H Q →
    wpAny (model X.prog X.w) X.A (call (.builtin id) (v :: us)) (EP X pins σ Q) X.xe s

/-! ### lists of values -/
theorem Vals.one {x : V} {us : List Value} (h : Vals [x] us) : ∃ u, us = [u] ∧ RelV x u := by
  cases h with
  | cons r t => cases t; exact ⟨_, rfl, r⟩
theorem Vals.zero : ∀ {us : List Value}, Vals [] us → us = []
  | _, .nil => rfl
theorem Vals.dropLast {xs : List V} {us : List Value} (h : Vals xs us) : Vals xs.dropLast us.dropLast := by
  induction h with
  | nil => exact .nil
  | cons r t ih =>
    cases t with
    | nil => exact .nil
    | cons q t' => exact .cons r ih
theorem Vals.rep {xs : List V} {us : List Value} (h : Vals xs us) : ∀ k : Nat, Vals (List.replicate k xs).flatten (List.replicate k us).flatten
  | 0 => .nil
  | k + 1 => by
    rw [List.replicate_succ, List.replicate_succ, List.flatten_cons, List.flatten_cons]
    exact Vals.append h (Vals.rep h k)
theorem erase_last {α : Type} (l : List α) : l.eraseIdx (l.length - 1) = l.dropLast := by
  induction l with
  | nil => rfl
  | cons a r ih =>
    cases r with
    | nil => rfl
    | cons b r =>
      have e : (a :: b :: r).length - 1 = ((b :: r).length - 1) + 1 := by
        have h1 : (a :: b :: r).length = r.length + 2 := rfl
        have h2 : (b :: r).length = r.length + 1 := rfl
        lia
      rw [e, List.eraseIdx_cons_succ, ih]
      all_goals rfl
theorem foldl_rep (its : List Value) : ∀ (k : Nat) (acc : List Value),
    List.foldl (fun x1 x2 => x1 ++ x2) acc.toArray (List.replicate k its.toArray) = (acc ++ (List.replicate k its).flatten).toArray
  | 0, acc => by simp
  | k + 1, acc => by
    have e : acc.toArray ++ its.toArray = (acc ++ its).toArray := by simp
    have e2 : (acc ++ its) ++ (List.replicate k its).flatten = acc ++ (List.replicate (k + 1) its).flatten := by
      rw [List.replicate_succ, List.flatten_cons, List.append_assoc]
    rw [← e2, ← foldl_rep its k (acc ++ its), ← e, List.replicate_succ, List.foldl_cons]

section
variable {X : Cx} {pins : List (Addr × Obj)} {σ : St} {H : Hp} {s : Shared} {l b : Addr} {xs ys zs : List V}

/-! ### the two steps: a tracked list is rewritten, a new list is laid -/
theorem Inv.lset {its its' : List Value} {n : Nat} {f : Array Value → Array Value} {t' : Nat} (I : Inv X pins σ H s) (hH : H l = some (.lst xs))
    (e : s.heap.get? l = some { cls := .type "list", data := .seq its.toArray n }) (hf : f its.toArray = its'.toArray) (hv : Vals ys its') (hz : ys.length ≤ sizeLine) :
    Inv X pins σ (upd H l (.lst ys)) { s with heap := s.heap.update l (Obj.mapSeq f), toks := t' } := by
  have q := PySem.IsL.update e f
  rw [hf] at q
  refine I.write (x := l) (e := l) (by rw [hH]; exact trivial) (.inl rfl) (fun b' u hb hu => (Heap.get?_update_other s.heap (Obj.mapSeq f) (Ne.symm hb)).trans hu) ⟨_, q⟩ ?_
  exact ⟨hz, its', _, hv, q⟩
theorem Inv.lnew {its : List Value} {t' : Nat} (I : Inv X pins σ H s) (hv : Vals ys its) (hz : ys.length ≤ sizeLine) :
    Inv X pins σ (upd H s.heap.objs.size (.lst ys)) { s with heap := s.heap.push { cls := .type "list", data := .seq its.toArray }, toks := t' } :=
  I.laid (fun _ _ q => Heap.get?_push_of_some _ q) (Nat.le_refl _) ⟨hz, its, 0, hv, Heap.get?_push_size _ rfl⟩
theorem Inv.fresh (I : Inv X pins σ H s) : H s.heap.objs.size = none := I.hok.fresh (Nat.le_refl _)
theorem Inv.lstM (I : Inv X pins σ H s) (hH : H l = some (.lst xs)) : xs.length ≤ sizeLine ∧ ∃ (its : List Value) (n : Nat), Vals xs its ∧ xs.length = its.length ∧ s.heap.get? l = some { cls := .type "list", data := .seq its.toArray n } := by
  obtain ⟨z, its, n, r, e⟩ := I.hok l _ hH
  exact ⟨z, its, n, r, r.length, e⟩

theorem notLongL {n : Nat} (h : n ≤ sizeLine) : Builtin.List.listTooLong n = false := by
  unfold Builtin.List.listTooLong
  exact decide_eq_false (by lia)
end

section
variable {X : Cx}

/-! ### methods -/
inductive rPop (x : V) (vs : List V) (H : Hp) (Q : VK) : Prop
  | mk (l : _) (xs : _) (y : _) (h1 : x = .ref l) (h2 : vs = []) (h3 : H l = some (.lst xs)) (h4 : xs[xs.length - 1]? = some y) (h5 : Q y (upd H l (.lst xs.dropLast))) : rPop x vs H Q
theorem mt_pop : MtM X "list.pop" rPop := by
  intro pins s σ H x vs v us Q I rx rv h
  obtain ⟨l, xs, y, rfl, rfl, hH, hy, q⟩ := h
  cases rx
  have hus := rv.zero
  subst hus
  obtain ⟨z, its, n, r, hl, e⟩ := I.lstM hH
  obtain ⟨u, hu, ru⟩ := r.get hy
  have hy' : its.toArray[its.toArray.size - 1]? = some u := by
    show its.toArray[its.length - 1]? = some u
    rw [← Array.getElem?_toList, ← hl]
    exact hu
  refine call_meets F.slot_list_pop ⟨_, e, rfl⟩ F.entry_list_pop (F.args_list_pop_1 _) (MeetsSeq.list_pop_last l its.toArray n u hy' (by rw [List.size_toArray]; lia)) ⟨e, ?_⟩
  refine ⟨y, _, I.lset (its' := its.dropLast) hH e ?_ r.dropLast ?_, ru, q⟩
  · show its.toArray.eraseIdxIfInBounds (its.toArray.size - 1) = its.dropLast.toArray
    rw [List.size_toArray, List.eraseIdxIfInBounds_toArray, erase_last]
  · rw [List.length_dropLast]
    lia

/-! ### list + list, list += list, list * int -/
inductive rCat (x : V) (y : V) (H : Hp) (Q : VK) : Prop
  | mk (l : _) (b : _) (xs : _) (zs : _) (h1 : x = .ref l) (h2 : y = .ref b) (h3 : H l = some (.lst xs)) (h4 : H b = some (.lst zs)) (h5 : xs.length + zs.length ≤ sizeLine) (h6 : ∀ p, H p = none → Q (.ref p) (upd H p (.lst (xs ++ zs)))) : rCat x y H Q
theorem op_cat : OpR X (binaryOp .Add) rCat := by
  intro pins s σ H x y v u Q I rx ry h
  obtain ⟨l, b, xs, zs, rfl, rfl, hH, hB, hz, q⟩ := h
  cases rx
  cases ry
  obtain ⟨z, its, n, r, hl, e⟩ := I.lstM hH
  obtain ⟨z2, its2, n2, r2, hl2, e2⟩ := I.lstM hB
  refine PySem.P.add_list e e2 ?_ (by rw [List.size_toArray, List.size_toArray]; lia)
  have ea : its.toArray ++ its2.toArray = (its ++ its2).toArray := by simp
  rw [ea]
  exact ⟨.ref _, _, I.lnew (t' := s.toks) (r.append r2) (by rw [List.length_append]; lia), rfl, q _ I.fresh⟩
/-- a list times an int (a negative one is nothing) -/
inductive rRep (x : V) (y : V) (H : Hp) (Q : VK) : Prop
  | mk (l : _) (k : _) (xs : _) (h1 : x = .ref l) (h2 : y = .int k) (h3 : H l = some (.lst xs)) (h4 : -(2 ^ 63) ≤ k) (h5 : k < 2 ^ 63) (h6 : xs.length * k.toNat ≤ sizeLine) (h7 : ∀ p, H p = none → Q (.ref p) (upd H p (.lst (List.replicate k.toNat xs).flatten))) : rRep x y H Q
theorem len_rep {α : Type} (xs : List α) (k : Nat) : (List.replicate k xs).flatten.length = k * xs.length := by
  induction k with
  | zero => simp
  | succ k ih => rw [List.replicate_succ, List.flatten_cons, List.length_append, ih, Nat.succ_mul, Nat.add_comm]
theorem op_rep : OpR X (binaryOp .Mult) rRep := by
  intro pins s σ H x y v u Q I rx ry h
  obtain ⟨l, k, xs, rfl, rfl, hH, h1, h2, hz, q⟩ := h
  cases rx
  obtain ⟨t, rfl⟩ := ry
  obtain ⟨z, its, n, r, hl, e⟩ := I.lstM hH
  have hlen : its.toArray.size * k.toNat ≤ sizeLine := by rw [List.size_toArray, ← hl]; exact hz
  have hcap : ¬ its.toArray.size * k.toNat > (2 ^ 63 - 1) / 8 := by
    have : (sizeLine : Nat) ≤ (2 ^ 63 - 1) / 8 := by decide
    lia
  have hfit : ¬ (!Builtin.List.listFitsIndex k) = true := by
    rw [fitsIndex_both h1 h2]
    exact Bool.false_ne_true
  have hlong : ¬ Builtin.List.listTooLong (its.toArray.size * k.toNat) = true := by
    rw [notLongL hlen]
    exact Bool.false_ne_true
  have hnew : List.foldl (fun x1 x2 => x1 ++ x2) #[] (List.replicate (if its.toArray.isEmpty = true then 0 else k.toNat) its.toArray) = (List.replicate k.toNat its).flatten.toArray := by
    have f0 : ∀ m : Nat, List.foldl (fun x1 x2 => x1 ++ x2) #[] (List.replicate m its.toArray) = (List.replicate m its).flatten.toArray := fun m => by
      have := foldl_rep its m []
      rw [List.nil_append] at this
      exact this
    rw [f0]
    cases its with
    | nil => simp
    | cons a r' => rw [if_neg (by simp)]
  refine wpAny_binaryOp_repeat_ref (T := "list") (U := "int") (by decide) ⟨_, e, rfl⟩ (fun s' => typeIs_int s' k t) noFill_list_mul F.fills_int_mul F.slot_int_rmul repeat_list F.slot_int_index.lookup
    (call_meets F.slot_int_rmul (typeIs_int s k t) F.entry_int_rmul (F.args_int_rmul_2 _ _) (int___rmul___int_list k t l its.toArray n)
      ⟨e, rfl, ⟨_, e, rfl⟩, call_meets F.slot_list_mul ⟨_, e, rfl⟩ F.entry_list_mul (F.args_list_mul_2 _ _) (AutoListH.list___mul___list_int_3 l its.toArray n k t hfit hcap hlong) ⟨e, ?_⟩⟩)
  rw [hnew]
  exact ⟨.ref _, _, I.lnew (t' := s.toks) (r.rep k.toNat) (by rw [len_rep, Nat.mul_comm]; exact hz), rfl, q _ I.fresh⟩

/-! ### del xs[i] -/
end

/-! ### xs[a:b] = ys -/
section
variable {prog : Program} {w : World} {A : Around} {E : Value → Shared → Prop} {s : Shared}
set_option maxRecDepth 100000 in
end

section
variable {X : Cx}
end
end L2

namespace Att
open PySem PySem.W PySem.Calls PyProof.Rows

/-! ### the script -/
theorem ints_of_wellAll {P : Params} {h : Heap} : ∀ (ns : List Int) (vs : List Value), WellAll P h vs (ns.map WData.int) → IntsAre vs ns := by
  intro ns
  induction ns with
  | nil =>
    intro vs w
    rw [List.map_nil] at w
    cases w
    exact .nil
  | cons n ns ih =>
    intro vs w
    rw [List.map_cons] at w
    cases w with
    | cons a b =>
      cases a
      exact .cons _ _ (ih _ b)

theorem script_of {l : OpenLaw} {n : Nat} (hn : l.most = some n) {P : Params} {h : Heap} {args : List WData} {vals : List Value}
    (hpre : l.row.toRowW.claim.pre args = true) (hwl : WellAll P h vals args) :
    ∃ a vs ns, vals = [Value.ref a] ∧ args = [WData.list (ns.map WData.int)] ∧ h.get? a = some { cls := .type "list", data := .seq vs.toArray } ∧ IntsAre vs ns ∧ ns.length ≤ n := by
  have hsh : WShape.hasAll [] args [.list .int] = true := (pre_splitW hpre).1
  have hc : l.pre.holds [] { args := args } = true := (pre_splitW hpre).2
  obtain ⟨d, r, rfl, h1, h2⟩ := hasAllW_cons hsh
  obtain rfl := hasAllW_nil h2
  obtain ⟨xs, rfl, h3⟩ := hasW_list h1
  obtain ⟨ns, rfl⟩ := items_int h3
  have hlen : ns.length ≤ n := by
    unfold OpenLaw.pre at hc
    have h4 : (WTm.not (.lt (.lit (.int (n : Int))) (.len (.arg 0)))).holds [] { args := [.list (ns.map .int)] } = true := by
      have h4 := (holds_andW hc).1
      rw [hn] at h4
      exact h4
    have h5 := condW_of h4 (w_not (w_lt w_lit (w_len_list (w_arg rfl))))
    rw [List.length_map] at h5
    refine Nat.le_of_not_lt fun q => ?_
    have q' : (n : Int) < ((ns.length : Nat) : Int) := by lia
    first
      | (rw [decide_eq_true q'] at h5; exact absurd h5 (by decide))
      | (simp at h5; lia)
  cases hwl with
  | cons w1 w2 =>
    cases w2
    cases w1 with
    | list ho hall => exact ⟨_, _, ns, rfl, rfl, ho, ints_of_wellAll ns _ hall, hlen⟩

theorem post_true (l : OpenLaw) (args : List WData) : l.row.toRowW.claim.post args (.bool true) args = true :=
  postW_of (r := l.row.toRowW) (X := (true == true))
    (show WShape.has [] (.bool true) .bool = true by first | rfl | decide | simp [WShape.has, WShape.arms, WShape.armsAll])
    (show (WTm.eq .res (.lit (.bool true))).value [] { args := args, res := some (.bool true), after := args } = some (.bool (true == true)) from w_eq_bool (w_res rfl) w_lit) rfl

/-! ### the attachment: holds_open's last premise (the goal 'hc' behind k_head) from a wpAny of the law's body -/
/-- the same from a codeAny of the CALL (for a layer whose function contracts speak of calls) -/
theorem attach_call {l : OpenLaw} {n : Nat} {q : Program} {loose : List Str} {XP : (Str → Option Value) → Heap → Prop} {YP : World → Heap → Prop} {d : DefRec}
    (hn : l.most = some n) (hdf : d.params.defaults = [])
    (call : ∀ (w : World) (s₀ s₁ : Shared) (mg mb : Str → Option Value) (fa : Addr) (o : Obj) (pm cd doc : Value) (a : Addr) (vs : List Value) (ns : List Int),
      Ground q loose [] XP w s₀ mg mb s₁.heap → YP w s₁.heap →
      s₁.heap.get? fa = some o → o.data = .func (docDef d.name d.params d.body d.scope pm cd doc) → s₁.heap.CodeRec cd d.name → mg d.name = some (.ref fa) →
      s₁.heap.get? a = some { cls := .type "list", data := .seq vs.toArray } → IntsAre vs ns → ns.length ≤ n → s₁.gens = #[] →
      codeAny (model l.prog w) callerA (.call (.ref fa) ⟨[.ref a], []⟩) (fun r s' => r = .ok (.ret (.bool true)) ∧ OldK s₁.heap s'.heap ∧ s'.os = s₁.os ∧ AllBare s'.gens) s₁) :
    WalkO q loose XP YP l.row.toRowW d [] (fun f vs => PySem.call f vs) := by
  intro w s₀ s₁ mg mb G Y fa o pm cd doc dV kV ho hd hcd hD hmg hg args vals as hpre hlay hrd hwl hlo
  obtain rfl : dV = .none := Dflts.none hD hdf
  obtain rfl : kV = .none := Dflts.noKw hD
  obtain ⟨a, vs, ns, rfl, rfl, hobj, hints, hlen⟩ := script_of hn hpre hwl
  refine enter_call (codeAny_mono (call w s₀ s₁ mg mb fa o pm cd doc a vs ns G Y ho (fd_plain hd) hcd hmg hobj hints hlen hg) fun r s' hq => ?_)
  obtain ⟨rfl, h2, h3, h4⟩ := hq
  exact ⟨.inl ⟨.bool true, .bool true, [], rfl, fun _ => rfl, .bool true, post_true l _, fun _ => ⟨List.Pairwise.nil, fun _ hm => (nomatch hm)⟩⟩, h2, h3, h4⟩

/-! ### rules over ANY heap (no ledger) from facts about the written part K: the library's own take a ledger (News) for what they write -/
section
variable {prog : Program} {w : World} {A : Around} {E : Value → Shared → Prop} {s : Shared} {K : Frag}

/-! the whole heap as the ledger: makes every rule that writes through a ledger a rule over any heap -/
def ledger (h : Heap) (L d : Addr) : List (Addr × Obj) := (List.range h.objs.size).filterMap fun a => if a = L ∨ a = d then none else (h.get? a).map fun o => (a, o)
end
end Att

namespace L2
open PySem PySem.Spec PyProof.Rows

theorem vals_ints {vs : List Value} {ns : List Int} (h : IntsAre vs ns) : Vals (ns.map V.int) vs := by
  induction h with
  | nil => exact .nil
  | cons n t h ih => exact .cons ⟨t, rfl⟩ ih

/-- nothing is tracked but the script, known to the object (or it is an object of the module) -/
def Only (H : Hp) : Prop := ∀ b, H b = none ∨ ∃ o xs, H b = some (.frz o (.lst xs))

/-- THE HEAD: the law's promise, at the heap behind the top. F, the promise of the law's def, may use that base is part of the heap (so K.In base, base.Ns mainGlobals mg stand in Mod) -/
theorem law_call {P : Program} {w : World} {K : PySem.W.Frag} {mg mb : Str → Option Value} {CX : CXT} {k : Nat} {fa a : Addr} {fd : FuncData} {x : Str} {sp : Sp} {s₁ : Shared} {vs : List Value} {ns : List Int}
    (KX : K.In s₁.heap) (hns : s₁.heap.Ns mainGlobals mg) (hb : s₁.heap.Ns builtinsNs mb) (hbb : ∀ x : Str, x ≠ "__name__" → mb x = bootBuiltins x) (hlim : s₁.heap.NoLimit) (hsee : s₁.heap.NoSeer) (hg : s₁.gens = #[])
    (ha : s₁.heap.get? a = some { cls := .type "list", data := .seq vs.toArray }) (hi : IntsAre vs ns) (hl : ns.length ≤ sizeLine) (hr : Room k callerA)
    (F : ∀ base : Heap, K.In base → base.Ns mainGlobals mg → FnOk P w K mg base CX k fa fd [x] sp) (hbind : ∀ (s : Shared) (u : Value), BindsTo s fd ⟨[u], []⟩ [(x, u)])
    (hsp : ∀ H : Hp, Only H → SqL K H a (ns.map V.int) → sp [.ref a] H (fun v _ => v = .bl true) fun _ _ _ => False)
    (hCX : ∀ H e s', CX [] H s₁ (fun _ _ _ => False) e s' → False) :
    codeAny (model P w) callerA (.call (.ref fa) ⟨[.ref a], []⟩) (fun r s' => r = .ok (.ret (.bool true)) ∧ OldK s₁.heap s'.heap ∧ s'.os = s₁.os ∧ AllBare s'.gens) s₁ := by
  have rv := vals_ints hi
  have lenV := hi.length
  -- from an abstract heap in which nothing but the script may be tracked
  have core : ∀ H : Hp, Only H → SqL K H a (ns.map V.int) → HOk P w H s₁.heap → (∀ b, H b ≠ none → b = a) → (H a ≠ none → K.lookup a = none) →
      codeAny (model P w) callerA (.call (.ref fa) ⟨[.ref a], []⟩) (fun r s' => r = .ok (.ret (.bool true)) ∧ OldK s₁.heap s'.heap ∧ s'.os = s₁.os ∧ AllBare s'.gens) s₁ := by
    intro H hO hS hok hA hK
    have base_of : ∀ {b : Addr} {o : Obj}, s₁.heap.get? b = some o → H b = none → (hidT s₁.heap H).get? b = some o := fun e n => hidT_get e n
    have noA : ∀ {b : Addr} {o : Obj} {es : Array DictEntry} {ep : Nat}, s₁.heap.get? b = some o → o.data = .dict es ep → H b = none := fun {b o es ep} e d => by
      cases q : H b with
      | none => rfl
      | some u =>
        have e' : b = a := hA b (by rw [q]; simp)
        subst e'
        rw [ha] at e; cases e
        have d' : Data.seq vs.toArray _ = Data.dict es ep := d
        cases d'
    have nsK : ∀ {b : Addr} {m : Str → Option Value}, s₁.heap.Ns b m → (hidT s₁.heap H).Ns b m := fun {b m} ⟨o, es, ep, e, d, r⟩ => ⟨o, es, ep, base_of e (noA e d), d, r⟩
    have hKb : K.In (hidT s₁.heap H) := fun b o e => base_of (KX b o e) (by
      cases q : H b with
      | none => rfl
      | some u =>
        have e' : b = a := hA b (by rw [q]; simp)
        subst e'
        rw [hK (by rw [q]; simp)] at e; cases e)
    have seerK : (hidT s₁.heap H).NoSeer := ⟨let ⟨mc, x, y⟩ := hsee.statics; ⟨mc, nsK x, y⟩, let ⟨mm, x, y⟩ := hsee.mods; ⟨mm, nsK x, y⟩, let ⟨mi, x, y⟩ := hsee.imp; ⟨mi, nsK x, y⟩, by
      obtain ⟨mg', bm, ob, x, y, z, u, v⟩ := hsee.main
      refine ⟨mg', bm, ob, nsK x, y, base_of z ?_, u, v⟩
      cases q : H bm with
      | none => rfl
      | some o =>
        have e' : bm = a := hA bm (by rw [q]; simp)
        subst e'
        rw [ha] at z
        cases z
        have u' : Value.type "list" = Value.type "module" := u
        exact absurd u' (by decide)⟩
    have hM : Mod K mg (hidT s₁.heap H) := ⟨hKb, nsK hns, ⟨mb, nsK hb, hbb⟩, let ⟨mc, h1, h2⟩ := hlim; ⟨mc, nsK h1, h2⟩, seerK⟩
    have e0 : Env0 P w K mg (hidT s₁.heap H) callerA [] s₁ H := ⟨rfl, hM, fun b o e => of_hidT e, Nat.le_of_eq (hidT_size _ _), trivial, fun b hb => absurd (show b ∈ ([] : List Addr) from hb) (by simp), hok, .of_eq hg⟩
    refine codeAny_mono ((F _ hKb (nsK hns)).run callerA [] s₁ H ⟨[.ref a], []⟩ [.ref a] [.ref a] _ _ hr e0 (hbind s₁ (.ref a)) (.cons rfl .nil) (hsp H hO hS)) fun r s' h => ?_
    cases r with
    | error e => exact (hCX H e s' h).elim
    | ok fl =>
      cases fl with
      | next => exact False.elim h
      | brk => exact False.elim h
      | cont => exact False.elim h
      | ret u =>
        obtain ⟨v, H', os, bare, un, hok', r', q⟩ := h
        have q' : v = .bl true := q
        subst q'
        obtain rfl : u = Value.bool true := r'
        refine ⟨rfl, OldK.of_keep fun b o e => ?_, os, bare⟩
        cases q : H b with
        | none => exact un.keep b o e q (by intro z; exact absurd (show b ∈ ([] : List Addr) from z) (by simp)) (by simp)
        | some u =>
          rcases hO b with z | ⟨ob, xs, z⟩
          · rw [q] at z; cases z
          · have z2 := un.frzs b ob _ z
            obtain ⟨e1, _⟩ := hok b _ z
            obtain ⟨e2, _⟩ := hok' b _ z2
            rw [e] at e1; cases e1
            exact e2
  cases hk : K.lookup a with
  | some o =>
    -- the script is one of the module's own objects
    have e := KX a o hk
    rw [ha] at e
    cases e
    refine core (fun _ => none) (fun _ => .inl rfl) (.inr ⟨_, vs.toArray, _, hk, rfl, rfl, rfl, by rw [List.size_toArray, lenV]; exact hl, by simpa using rv⟩) (fun b u z => by have z' : (none : Option HO) = some u := z; cases z') (fun b z => absurd rfl z) fun z => absurd rfl z
  | none =>
    refine core (fun b => if b = a then some (.frz { cls := .type "list", data := .seq vs.toArray } (.lst (ns.map V.int))) else none) (fun b => ?_) (.inl (.inr ⟨{ cls := .type "list", data := .seq vs.toArray }, if_pos rfl⟩)) (fun b u z => ?_) (fun b z => ?_) fun _ => hk
    · by_cases hb : b = a
      · exact .inr ⟨_, _, if_pos hb⟩
      · exact .inl (if_neg hb)
    · by_cases hb : b = a
      · have z' := (if_pos hb).symm.trans z
        cases z'
        subst hb
        exact ⟨ha, by rw [List.length_map]; exact hl, vs, _, rv, ha⟩
      · have z' := (if_neg hb).symm.trans z
        cases z'
    · by_cases hb : b = a
      · exact hb
      · exact absurd (if_neg hb) z
end L2

namespace L2
open PySem PySem.Spec PyProof.Rows

/-- the goal that k_head leaves (case hc), from the law's promise. F gives the function object fd (K's own) once, then the promise over every base -/
theorem walk_of {l : PySem.W.OpenLaw} {n k : Nat} {q : Program} {loose : List Str} {XP : (Str → Option Value) → Heap → Prop} {YP : World → Heap → Prop} {d : DefRec} {K : Params → PySem.W.Frag} {CX : World → CXT} {sp : World → Sp} {x : Str}
    (hI : importsNone q = true) (hn : l.most = some n) (hn2 : n ≤ sizeLine) (hdf : d.params.defaults = []) (hr : Room k callerA)
    (hY : ∀ (w : World) (h : Heap), YP w h → (K w.params).In h)
    (F : ∀ (w : World) (mg : Str → Option Value) (fa : Addr) (h : Heap), (K w.params).In h → h.Ns mainGlobals mg → mg d.name = some (.ref fa) →
      ∃ fd : FuncData, (∀ (s : Shared) (u : Value), BindsTo s fd ⟨[u], []⟩ [(x, u)]) ∧
        ∀ base : Heap, (K w.params).In base → base.Ns mainGlobals mg → FnOk l.prog w (K w.params) mg base (CX w) k fa fd [x] (sp w))
    (hsp : ∀ (w : World) (H : Hp) (a : Addr) (ns : List Int), ns.length ≤ n → Only H → SqL (K w.params) H a (ns.map V.int) → sp w [.ref a] H (fun v _ => v = .bl true) fun _ _ _ => False)
    (hCX : ∀ (w : World) (H : Hp) (s : Shared) (e : Value) (s' : Shared), CX w [] H s (fun _ _ _ => False) e s' → False) :
    PySem.W.WalkO q loose XP YP l.row.toRowW d [] (fun f vs => PySem.call f vs) := by
  refine Att.attach_call hn hdf fun w s₀ s₁ mg mb fa o pm cd doc a vs ns G Y ho hd hcd hmg hobj hints hlen hg => ?_
  have KX := hY w _ Y
  obtain ⟨fd, hb, hF⟩ := F w mg fa _ KX G.T.g hmg
  exact law_call KX G.T.g G.T.b G.T.builtins G.T.nolimit (G.T.seer hI) hg hobj hints (Nat.le_trans hlen hn2) hr hF hb (fun H hO hS => hsp w H a ns hlen hO hS) fun H e s' => hCX w H s₁ e s'
end L2

/-! SHORT WORDS over the layer: a def of the text, its body, what a loop and a test want. -/
namespace L2
open PySem PySem.Spec PyProof.Rows

/-! ### the text by places -/
def defArgs (s : Stmt) : Arguments := match s with
  | .FunctionDef _ a _ _ _ _ _ _ _ _ => a
  | _ => { posonlyargs := [], args := [], vararg := none, kwonlyargs := [], kw_defaults := [], kwarg := none, defaults := [] }
def defBody (s : Stmt) : List Stmt := match s with
  | .FunctionDef _ _ b _ _ _ _ _ _ _ => b
  | _ => []
def defScope (s : Stmt) : Scope := match s with
  | .FunctionDef _ _ _ _ _ _ sc _ _ _ => sc
  | _ => { kind := .function, names := [], isGenerator := false, isCoroutine := false }

/-! ### no exception leaves a def -/
abbrev CX0 : CXT := fun _ _ _ _ _ _ => False
abbrev E0 : XK := fun _ _ _ => False
theorem pass0 {X : Cx} : Passes CX0 X E0 := fun _ _ _ _ _ _ _ h => h.elim

/-! ### a def (or method) of the text as it stands behind the top -/
structure Fun (K : PySem.W.Frag) (x qual : Str) (st : Stmt) (f : Addr) (fd : FuncData) : Prop where
  ex : ∃ (oc : Value) (od : Option Addr) (kV doc pm : Value) (an : Option Addr) (cdv ct : Value) (osl : Array (Option Value)),
    fd = PySem.W.fnOf x qual (defArgs st) (defBody st) (defScope st) .none kV doc pm an cdv ct ∧ K.lookup f = some ⟨oc, od, .func fd, osl⟩ ∧ PySem.W.codeIn K cdv qual = true
  kp : PySem.W.keepIn K (.ref f) = true
section
variable {P : Program} {w : World} {K : PySem.W.Frag} {mg : Str → Option Value} {base : Heap}
/-- THE RULE for a def: its body as a term of rules, and the reading of that term -/
theorem Fun.ok {x qual : Str} {st : Stmt} {f : Addr} {fd : FuncData} {N ps : List Str} {k : Nat} {sp : Sp} (F : Fun K x qual st f fd) (S : FnScope N ps (defScope st)) (len : ∀ vs H Q E, sp vs H Q E → vs.length = ps.length)
    (hbody : ∀ (cdv : Value) (A : Around) (outer : List Env) (s : Shared) (H : Hp) (vs : List V) (Q : VK) (E : XK), Room k (A.deeper (envOfC qual (defScope st) s.heap.objs.size f cdv)) → sp vs H Q E →
      ∃ t, PSs (cxOf CX0 P w K mg base N qual (defScope st) f cdv A outer s H E).nox (defBody st) t ∧ t { nx := fun _ H' => Q .non H', rt := Q } (start N vs) H) : FnOk P w K mg base CX0 (k + 1) f fd ps sp := by
  obtain ⟨oc, od, kV, doc, pm, an, cdv, ct, osl, rfl, lk, hcd⟩ := F.ex
  refine fn_of lk hcd S len fun A outer s H vs Q E hr hsp => ?_
  obtain ⟨t, h, q⟩ := hbody cdv A outer s H vs Q E hr hsp
  exact ⟨t, h.nox, q⟩
/-- how its arguments bind (no defaults): h is «fun _ _ _ _ _ _ us hl => match us, hl with | [_, _], _ => rfl», one _ a parameter -/
theorem Fun.binds {x qual : Str} {st : Stmt} {f : Addr} {fd : FuncData} {ps : List Str} (F : Fun K x qual st f fd)
    (h : ∀ (kV doc pm : Value) (an : Option Addr) (cdv ct : Value) (us : List Value), us.length = ps.length → bindArgs (PySem.W.fnOf x qual (defArgs st) (defBody st) (defScope st) .none kV doc pm an cdv ct) ⟨us, []⟩ = pure (ps.zip us)) : Binds K fd ps [] := by
  obtain ⟨oc, od, kV, doc, pm, an, cdv, ct, osl, rfl, lk, hcd⟩ := F.ex
  exact .all (h kV doc pm an cdv ct)
theorem fun_mk {x qual : Str} {st : Stmt} {f : Addr} {oc : Value} {od an : Option Addr} {osl : Array (Option Value)} {kV doc pm cdv ct : Value} (l : K.lookup f = some ⟨oc, od, .func (PySem.W.fnOf x qual (defArgs st) (defBody st) (defScope st) .none kV doc pm an cdv ct), osl⟩)
    (c : PySem.W.codeIn K cdv qual = true) (k : PySem.W.keepIn K (.ref f) = true) : Fun K x qual st f (PySem.W.fnOf x qual (defArgs st) (defBody st) (defScope st) .none kV doc pm an cdv ct) := ⟨⟨oc, od, kV, doc, pm, an, cdv, ct, osl, rfl, l, c⟩, k⟩
end
theorem small1000 {n : Nat} (h : n ≤ 1000) : n < sizeLine := Nat.lt_of_le_of_lt h (by decide)

/-! ### expressions in short: the name that stands in the i-th slot -/
section
variable {X : Cx}
theorem pv (i : Nat) {x : Str} {pos : Pos} (hN : X.N[i]? = some x := by rfl) (hv : Vis X.env.scope x := by first | exact Or.inl rfl | exact Or.inr (Or.inl rfl) | exact Or.inr (Or.inr rfl)) (hd : (x == ("__debug__" : Str)) = false := by decide)
    (hcd : (x == ("__classdict__" : Str)) = false := by decide) : PE X (.Name x pos) (tVar i) := pe_var hN hv hd hcd
end

/-! ### tests -/
theorem iteF {A B : Prop} (h : B) : if false = true then A else B := by
  rw [if_neg Bool.false_ne_true]
  exact h
theorem iteT {A B : Prop} (h : A) : if true = true then A else B := by
  rw [if_pos rfl]
  exact h
theorem ite2 {c A B : Prop} [Decidable c] (h1 : c → A) (h2 : ¬ c → B) : if c then A else B := by
  by_cases h : c
  · rw [if_pos h]
    exact h1 h
  · rw [if_neg h]
    exact h2 h
/-! ### heaps -/
/-- all that was tracked is as it was -/
def Same (H H' : Hp) : Prop := ∀ b o, H b = some o → H' b = some o
theorem Same.refl (H : Hp) : Same H H := fun _ _ h => h
theorem Same.trans {H H1 H2 : Hp} (a : Same H H1) (b : Same H1 H2) : Same H H2 := fun c o h => b c o (a c o h)
theorem Same.seq {K : PySem.W.Frag} {H H' : Hp} {a : Addr} {xs : List V} (e : Same H H') (h : SqL K H a xs) : SqL K H' a xs := by
  rcases h with (h | ⟨o, h⟩) | h
  · exact .inl (.inl (e _ _ h))
  · exact .inl (.inr ⟨o, e _ _ h⟩)
  · exact .inr h

end L2

namespace L2
open PySem PySem.Spec PyProof.Rows
/-! ### lists of pairs as tables -/
section
variable {κ : Type} [DecidableEq κ]
def valV (kvs : List (κ × V)) (k : κ) : Option V := (kvs.find? fun kv => decide (kv.1 = k)).map (·.2)
/-- in its place, or at the end -/
def putK (kvs : List (κ × V)) (k : κ) (v : V) : List (κ × V) :=
  if (kvs.any fun kv => decide (kv.1 = k)) = true then kvs.map (fun kv => if kv.1 = k then (kv.1, v) else kv) else kvs ++ [(k, v)]
theorem valV_pos {p : κ × V} {r : List (κ × V)} {k : κ} (e : p.1 = k) : valV (p :: r) k = some p.2 := by simp [valV, List.find?_cons, e]
theorem valV_neg {p : κ × V} {r : List (κ × V)} {k : κ} (e : ¬ p.1 = k) : valV (p :: r) k = valV r k := by simp [valV, List.find?_cons, e]
theorem valV_any (k : κ) : ∀ kvs : List (κ × V), (kvs.any fun kv => decide (kv.1 = k)) = (valV kvs k).isSome
  | [] => rfl
  | p :: r => by
    rw [List.any_cons]
    by_cases e : p.1 = k
    · simp only [valV_pos e, decide_eq_true e, Bool.true_or, Option.isSome_some]
    · rw [valV_neg e, decide_eq_false e, Bool.false_or]; exact valV_any k r
theorem length_putK (kvs : List (κ × V)) (k : κ) (v : V) : (putK kvs k v).length ≤ kvs.length + 1 := by
  unfold putK
  split
  · rw [List.length_map]; lia
  · rw [List.length_append, List.length_cons, List.length_nil]; lia
theorem putK_new {kvs : List (κ × V)} {k : κ} (v : V) (h : valV kvs k = none) : putK kvs k v = kvs ++ [(k, v)] := by
  unfold putK
  rw [valV_any, h]
  exact if_neg (by decide)

theorem RelO.isSome_eq {o : Option V} {u : Option Value} (r : RelO o u) : o.isSome = u.isSome := by
  cases o with
  | none => cases u with
    | none => rfl
    | some _ => exact (show False from r).elim
  | some _ => cases u with
    | none => exact (show False from r).elim
    | some _ => rfl
/-- raw tables of the same keys -/
theorem KV.val {kvs : List (κ × V)} {vs : List (κ × Value)} (r : KV kvs vs) (k : κ) : RelO (valV kvs k) (valueAt vs k) := by
  unfold KV at r
  induction r with
  | nil => exact True.intro
  | @cons p q ps qs h t ih =>
    obtain ⟨h1, h2⟩ := h
    by_cases e : p.1 = k
    · have e' : q.1 = k := h1.symm.trans e
      have b : valueAt (q :: qs) k = some q.2 := by simp [valueAt, List.find?_cons, e']
      rw [valV_pos e, b]; exact h2
    · have e' : ¬ q.1 = k := fun z => e (h1.trans z)
      have b : valueAt (q :: qs) k = valueAt qs k := by simp [valueAt, List.find?_cons, e']
      rw [valV_neg e, b]; exact ih
theorem KV.any {kvs : List (κ × V)} {vs : List (κ × Value)} (r : KV kvs vs) (k : κ) : (kvs.any fun kv => decide (kv.1 = k)) = vs.any fun kv => decide (kv.1 = k) := by
  unfold KV at r
  induction r with
  | nil => rfl
  | cons h t ih => rw [List.any_cons, List.any_cons, ih, h.1]
theorem KV.repl {kvs : List (κ × V)} {vs : List (κ × Value)} (r : KV kvs vs) (k : κ) {y : V} {u : Value} (ry : RelV y u) :
    KV (kvs.map fun kv => if kv.1 = k then (kv.1, y) else kv) (vs.map fun kv => if kv.1 = k then (kv.1, u) else kv) := by
  unfold KV at r ⊢
  induction r with
  | nil => exact .nil
  | @cons p q ps qs h t ih =>
    rw [List.map_cons, List.map_cons]
    refine .cons ?_ ih
    obtain ⟨h1, h2⟩ := h
    by_cases e : p.1 = k
    · rw [if_pos e, if_pos (h1.symm.trans e)]; exact ⟨h1, ry⟩
    · rw [if_neg e, if_neg (fun z => e (h1.trans z))]; exact ⟨h1, h2⟩
theorem KV.put {kvs : List (κ × V)} {vs : List (κ × Value)} (r : KV kvs vs) (k : κ) {y : V} {u : Value} (ry : RelV y u) : KV (putK kvs k y) (stored vs k u) := by
  unfold putK stored
  rw [r.any k]
  by_cases e : (vs.any fun kv => decide (kv.1 = k)) = true
  · rw [if_pos e, if_pos e]; exact r.repl k ry
  · rw [if_neg e, if_neg e]; exact Paired.snoc r ⟨rfl, ry⟩
theorem KV.length {kvs : List (κ × V)} {vs : List (κ × Value)} (r : KV kvs vs) : kvs.length = vs.length := Paired.length r
end


/-! ### a tracked dict, its keys ints and texts or tuples of these -/
theorem kV_is {P : Program} {w : World} {k : Key} {u : Value} (r : RelV (kV k) u) : (mixKind P w).is k u = true := by
  cases k with
  | inl i => obtain ⟨t, e⟩ := (show ∃ t, u = Value.int i t from r); subst e; exact mixKind_int P w i t
  | inr x => obtain ⟨t, e⟩ := (show ∃ t, u = Value.str x t from r); subst e; exact mixKind_str P w x t
theorem items_are {P : Program} {w : World} : ∀ {ks : List Key} {us : List Value}, Vals (ks.map kV) us → ItemsAre (mixKind P w) ks us
  | [], _, r => by rw [List.map_nil] at r; cases r; exact .nil
  | k :: ks, _, r => by
    rw [List.map_cons] at r
    cases r with
    | cons h t => exact .cons (kV_is h) (items_are t)

/-- raw entries of a dict with tuple keys -/
abbrev KT (H : Hp) : List (List Key × V) → List (List Key × Addr × Value) → Prop := Paired fun p q => p.1 = q.1 ∧ H q.2.1 = some (.tup (p.1.map kV)) ∧ RelV p.2 q.2.2
theorem KT.val {H : Hp} {kvs : List (List Key × V)} {xs : List (List Key × Addr × Value)} (r : KT H kvs xs) (k : List Key) : RelO (valV kvs k) ((atKey xs k).map (·.2)) := by
  induction r with
  | nil => exact True.intro
  | @cons p q ps qs h t ih =>
    obtain ⟨h1, _, h2⟩ := h
    by_cases e : p.1 = k
    · have e' : q.1 = k := h1.symm.trans e
      have b : atKey (q :: qs) k = some q.2 := by simp [atKey, List.find?_cons, e']
      rw [valV_pos e, b]; exact h2
    · have e' : ¬ q.1 = k := fun z => e (h1.trans z)
      have b : atKey (q :: qs) k = atKey qs k := by simp [atKey, List.find?_cons, e']
      rw [valV_neg e, b]; exact ih
theorem KT.repl {H : Hp} {kvs : List (List Key × V)} {xs : List (List Key × Addr × Value)} (r : KT H kvs xs) (k : List Key) {y : V} {u : Value} (ry : RelV y u) :
    KT H (kvs.map fun kv => if kv.1 = k then (kv.1, y) else kv) (xs.map (putAt k u)) := by
  induction r with
  | nil => exact .nil
  | @cons p q ps qs h t ih =>
    rw [List.map_cons, List.map_cons]
    refine .cons ?_ ih
    obtain ⟨h1, h2, h3⟩ := h
    unfold putAt
    by_cases e : p.1 = k
    · rw [if_pos e, if_pos (h1.symm.trans e)]; exact ⟨h1, h2, ry⟩
    · rw [if_neg e, if_neg (fun z => e (h1.trans z))]; exact ⟨h1, h2, h3⟩
theorem KT.put {H : Hp} {kvs : List (List Key × V)} {xs : List (List Key × Addr × Value)} (r : KT H kvs xs) (k : List Key) {b : Addr} {y : V} {u : Value} (hb : H b = some (.tup (k.map kV))) (ry : RelV y u) :
    KT H (putK kvs k y) (storedH xs k b u) := by
  have e : (kvs.any fun kv => decide (kv.1 = k)) = (atKey xs k).isSome := by
    rw [valV_any, (r.val k).isSome_eq, Option.isSome_map]
  unfold putK storedH
  rw [e]
  by_cases q : (atKey xs k).isSome = true
  · rw [if_pos q, if_pos q]; exact r.repl k ry
  · rw [if_neg q, if_neg q]; exact Paired.snoc r ⟨rfl, hb, ry⟩
theorem KT.keeps {H H' : Hp} {kvs : List (List Key × V)} {xs : List (List Key × Addr × Value)} (r : KT H kvs xs) (ht : ∀ b ys, H b = some (.tup ys) → H' b = some (.tup ys)) : KT H' kvs xs :=
  Paired.mapP r fun _ _ z => ⟨z.1, ht _ _ z.2.1, z.2.2⟩

section
variable {P : Program} {w : World} {H : Hp} {h : Heap} {a : Addr}
theorem rd_of {u : HO} (ok : HOk P w H h) (e : Rd H a u) : ObjOk P w H h a u := e.ok ok
theorem dk_rd {kvs : List (Key × V)} (ok : HOk P w H h) (e : Rd H a (.dK kvs)) : kvs.length ≤ sizeLine ∧ (a == sysModules) = false ∧ ∃ vs, KV kvs vs ∧ h.DictOf (mixKind P w) a vs :=
  show ObjOk P w H h a (.dK kvs) from rd_of ok e
theorem dk_of {kvs : List (Key × V)} (ok : HOk P w H h) (e : H a = some (.dK kvs)) : kvs.length ≤ sizeLine ∧ (a == sysModules) = false ∧ ∃ vs, KV kvs vs ∧ h.DictOf (mixKind P w) a vs := dk_rd ok (.inl e)
/-- a tracked tuple of ints and texts is a key -/
theorem key_of {ks : List Key} (ok : HOk P w H h) (e : H a = some (.tup (ks.map kV))) : (tupleKind (mixKind P w)).is h ks a := by
  obtain ⟨_, its, r, o, h1, h2, n, h3⟩ := (show ObjOk P w H h a (.tup (ks.map kV)) from ok a _ e)
  exact ⟨o, its.toArray, n, h1, h2, h3, by simpa using items_are r⟩
theorem dt_rd {kvs : List (List Key × V)} (ok : HOk P w H h) (e : Rd H a (.dT kvs)) : kvs.length ≤ sizeLine ∧ (a == sysModules) = false ∧
    ∃ xs, KT H kvs xs ∧ h.DictOfH (tupleKind (mixKind P w)) a xs := by
  obtain ⟨z, y, xs, r, o, es, ep, h1, h2, h3, h4, h5⟩ := (show ObjOk P w H h a (.dT kvs) from rd_of ok e)
  refine ⟨z, y, xs, r, o, es, ep, h1, h2, h3, h4, fun x hx => ?_, h5⟩
  have all : ∀ {l : List (List Key × V)} {m : List (List Key × Addr × Value)}, KT H l m → ∀ x ∈ m, (tupleKind (mixKind P w)).is h x.1 x.2.1 := by
    intro l m q
    induction q with
    | nil => intro x hx; exact nomatch hx
    | @cons p q ps qs hq t ih =>
      intro x hx
      rcases List.mem_cons.mp hx with e | hx
      · subst e
        exact key_of ok (by rw [← hq.1]; exact hq.2.1)
      · exact ih x hx
  exact all r x hx
theorem dt_of {kvs : List (List Key × V)} (ok : HOk P w H h) (e : H a = some (.dT kvs)) : kvs.length ≤ sizeLine ∧ (a == sysModules) = false ∧
    ∃ xs, KT H kvs xs ∧ h.DictOfH (tupleKind (mixKind P w)) a xs := dt_rd ok (.inl e)
end

/-- what the dict at a holds at the key y -/
def DGet (H : Hp) (a : Addr) (y : V) (r : Option V) : Prop :=
  (∃ kvs k, Rd H a (.dK kvs) ∧ y = kV k ∧ r = valV kvs k) ∨ ∃ kvs k b, Rd H a (.dT kvs) ∧ y = .ref b ∧ H b = some (.tup (k.map kV)) ∧ r = valV kvs k
/-- the heap behind a[y] = v -/
def DPut (H : Hp) (a : Addr) (y v : V) (H' : Hp) : Prop :=
  (∃ kvs k, H a = some (.dK kvs) ∧ y = kV k ∧ kvs.length < sizeLine ∧ H' = upd H a (.dK (putK kvs k v))) ∨
  ∃ kvs k b, H a = some (.dT kvs) ∧ y = .ref b ∧ H b = some (.tup (k.map kV)) ∧ kvs.length < sizeLine ∧ H' = upd H a (.dT (putK kvs k v))
theorem DGet.t {H : Hp} {a b : Addr} {kvs : List (List Key × V)} {k : List Key} (e : H a = some (.dT kvs)) (eb : H b = some (.tup (k.map kV))) : DGet H a (.ref b) (valV kvs k) := .inr ⟨kvs, k, b, .inl e, rfl, eb, rfl⟩
theorem DPut.t {H : Hp} {a b : Addr} {kvs : List (List Key × V)} {k : List Key} {v : V} (e : H a = some (.dT kvs)) (eb : H b = some (.tup (k.map kV))) (hl : kvs.length < sizeLine) :
    DPut H a (.ref b) v (upd H a (.dT (putK kvs k v))) := .inr ⟨kvs, k, b, e, rfl, eb, hl, rfl⟩


section
variable {X : Cx} {pins : List (Addr × Obj)} {σ : St} {H : Hp} {s : Shared} {a : Addr} {y v : V} {u r : Value} {o : Option V} {A : Around} {E : Value → Shared → Prop}

theorem Inv.big (I : Inv X pins σ H s) : sysModules < s.heap.objs.size := by
  have h : mainGlobals < s.heap.objs.size := (I.mod.glob.keeps I.bk).lt
  exact Nat.lt_trans (by decide) h

theorem d_notIn {Q : Value → Shared → Prop} (hu : A.units + 1 < cLine) (I : Inv X pins σ H s) (g : DGet H a y o) (ry : RelV y u) (h : ∀ s', Inv X pins σ H s' → Q (.bool (!o.isSome)) s') :
    wpAny (model X.prog X.w) A (compareOp .NotIn u (.ref a)) Q E s := by
  rcases g with ⟨kvs, k, e, ey, l⟩ | ⟨kvs, k, b, e, ey, eb, l⟩
  · subst ey
    obtain ⟨z, hd, vs, rel, dd⟩ := dk_rd I.hok e
    refine wpAny_notIn_of (kV_is ry) hd dd.mapOf ?_
    rw [← (rel.val k).isSome_eq, ← l]
    exact h _ (I.tok _)
  · subst ey
    cases (show u = Value.ref b from ry)
    obtain ⟨z, hd, xs, rel, dd⟩ := dt_rd I.hok e
    refine wpAny_notIn_heap (tupleKind_room_in1 hu) (key_of I.hok eb) hd dd ?_
    have q := (rel.val k).isSome_eq
    rw [Option.isSome_map] at q
    rw [← q, ← l]
    exact h _ (I.tok _)
/-- a dict's object is replaced -/
theorem d_write {h' : Heap} {t' : Nat} {ob : HO} (I : Inv X pins σ H s) (mu : Mut (H a)) (hs : Heap.SameBut a s.heap h') (he : ∃ q, h'.get? a = some q) (new : ObjOk X.prog X.w (upd H a ob) h' a ob) :
    Inv X pins σ (upd H a ob) { s with heap := h', toks := t' } :=
  I.write (x := a) (e := a) mu (.inl rfl) (fun b q hb z => (hs.2 b hb).trans z) he new
theorem dk_new {P : Program} {w : World} {H' : Hp} {h' : Heap} {kvs : List (Key × V)} {vs : List (Key × Value)} (z : kvs.length ≤ sizeLine) (hd : (a == sysModules) = false) (rel : KV kvs vs) (dd : h'.DictOf (mixKind P w) a vs) :
    ObjOk P w H' h' a (.dK kvs) := ⟨z, hd, vs, rel, dd⟩
/-- d[y] = v -/
theorem d_setItem {H' : Hp} {Q : Unit → Shared → Prop} (hu : A.units + 1 < cLine) (I : Inv X pins σ H s) (g : DPut H a y v H') (ry : RelV y u) (rv : RelV v r) (h : ∀ s', Inv X pins σ H' s' → Q () s') :
    wpAny (model X.prog X.w) A (setItem (.ref a) u r) Q E s := by
  rcases g with ⟨kvs, k, e, ey, l, eH⟩ | ⟨kvs, k, b, e, ey, eb, l, eH⟩
  · subst ey eH
    obtain ⟨z, hd, vs, rel, dd⟩ := dk_of I.hok e
    have hz : vs.length ≤ sizeLine := by rw [← rel.length]; exact z
    have hl : (putK kvs k v).length ≤ sizeLine := by have := length_putK kvs k v; lia
    refine wpAny_setItem_pairs (hsz := hz) (kV_is ry) dd fun h' dd' hs => h _ ?_
    have he : ∃ q, h'.get? a = some q := let ⟨q, _, _, hq, _⟩ := dd'; ⟨q, hq⟩
    exact d_write I (by rw [e]; exact True.intro) hs he (dk_new hl hd (rel.put k rv) dd')
  · subst ey eH
    cases (show u = Value.ref b from ry)
    obtain ⟨z, hd, xs, rel, dd⟩ := dt_of I.hok e
    have hz : xs.length ≤ sizeLine := by rw [← Paired.length rel]; exact z
    have hl : (putK kvs k v).length ≤ sizeLine := by have := length_putK kvs k v; lia
    refine wpAny_setItem_heap (hsz := hz) (tupleKind_room_in1 hu) (key_of I.hok eb) dd fun h' dd' hs => h _ ?_
    obtain ⟨q, es, ep, hq, h2, h3, h4, _, h5⟩ := dd'
    refine d_write I (by rw [e]; exact True.intro) hs ⟨q, hq⟩ ⟨hl, hd, _, (rel.put k eb rv).keeps fun c ys ec => ?_, q, es, ep, hq, h2, h3, h4, h5⟩
    rw [upd_ne (ne_of ec e (fun z => nomatch z))]
    exact ec
end

section
variable {X : Cx} {pins : List (Addr × Obj)} {σ : St} {H : Hp} {s : Shared} {a : Addr} {kvs : List (Key × V)} {k : Key} {u : Value} {A : Around} {E : Value → Shared → Prop}
end


/-! ### readings and rules -/
def tDNotIn (ty td : TE) : TE := fun σ H Q => ty σ H fun y H1 => td σ H1 fun x H2 => ∃ a o, x = .ref a ∧ DGet H2 a y o ∧ Q (.bl (!o.isSome)) H2
/-- d[y] = v -/
def sDPut (td ty tv : TE) : TS := fun D σ H => tv σ H fun v H1 => td σ H1 fun x H2 => ty σ H2 fun y H3 => ∃ a H4, x = .ref a ∧ DPut H3 a y v H4 ∧ D.nx σ H4
section
variable {X : Cx} {o i e value : Expr} {pos pos' tpos : Pos} {td ty tv : TE}
theorem pc_dnotin (hu : X.A.units + 1 < cLine) (hi : PE X i ty) (ho : PE X o td) : PC X .NotIn i o (tDNotIn ty td) := by
  intro pins s σ H Q I h
  refine thn (hi pins s σ H _ I h) fun iv s1 ⟨y, H1, I1, ry, q1⟩ => thn (ho pins s1 σ H1 _ I1 q1) fun u s2 ⟨x, H2, I2, rx, a, ov, ex, g, q2⟩ => ?_
  subst ex
  obtain rfl : u = Value.ref a := rx
  exact d_notIn hu I2 g ry fun s3 I3 => ⟨.bl (!ov.isSome), H2, I3, rfl, q2⟩
theorem ps_dput (hu : X.A.units + 1 < cLine) (ho : PE X o td) (hi : PE X i ty) (hv : PE X value tv) (hs : swapsWith value (some (.Subscript o i pos')) pos.line X.env = pure false) :
    PS X (.Assign [.Subscript o i pos'] value pos) (sDPut td ty tv) := by
  intro pins s σ H D I h
  refine wpAny_Assign_Subscript (thn (hv pins s σ H _ I h) fun r s1 ⟨v, H1, I1, rv, q1⟩ => thn (ho pins s1 σ H1 _ I1 q1) fun u s2 ⟨x, H2, I2, rx, q2⟩ => thn (hi pins s2 σ H2 _ I2 q2) fun iv s3 ⟨y, H3, I3, ry, a, H4, ex, g, q3⟩ => ?_) hs
  subst ex
  obtain rfl : u = Value.ref a := rx
  exact d_setItem hu I3 g ry rv fun s4 I4 => ⟨σ, H4, I4, q3⟩
end


/-! ### displays -/
theorem dt_empty {P : Program} {w : World} {H : Hp} (h : Heap) (hb : sysModules < h.objs.size) : ObjOk P w H (h.push { cls := .type "dict", data := .dict #[] }) h.objs.size (.dT []) :=
  ⟨Nat.zero_le _, beq_eq_false_iff_ne.mpr (Ne.symm (Nat.ne_of_lt hb)), [], .nil, _, #[], 0, Heap.get?_push_size _ rfl, ⟨rfl, rfl, rfl⟩, rfl, rfl, List.nodup_nil⟩
def tDNewT : TE := fun _ H Q => ∀ p, H p = none → Q (.ref p) (upd H p (.dT []))
section
variable {X : Cx} {pos : Pos}
theorem pe_dnewT : PE X (.Dict [] [] pos) tDNewT := fun pins s σ H Q I h =>
  wpAny_Dict_empty ⟨.ref s.heap.objs.size, _, I.laid (a := s.heap.objs.size) (o := .dT []) (t' := s.toks) (fun _ _ q => Heap.get?_push_of_some _ q) (Nat.le_refl _) (dt_empty s.heap I.big), rfl, h _ (I.hok.fresh (Nat.le_refl _))⟩
end

/-! ### methods -/
/-- a method call o.m(e) of a built-in, with one argument: what must be seen of the text -/
structure M1 (X : Cx) (o : Expr) (m : Str) (apos : Pos) (e : Expr) (cpos : Pos) : Prop where
  base : attributeBase o m X.env (eval o X.env) = eval o X.env
  few : ((backTo cpos (starEach [e] X.env)).all (fun x => !x.1) && (backToKw cpos (keywordEach [] X.env)).all (fun x => x.1.isSome)
    && decide (([e] : List Expr).length + ([] : List Keyword).length + (if ([] : List Keyword).isEmpty then 0 else 1) < 30)) = true
  line : (apos.endLine == cpos.line) = true
  trees : backTo cpos (starEach [e] X.env) = [(false, eval e X.env)]
structure M2 (X : Cx) (o : Expr) (m : Str) (apos : Pos) (e f : Expr) (cpos : Pos) : Prop where
  base : attributeBase o m X.env (eval o X.env) = eval o X.env
  few : ((backTo cpos (starEach [e, f] X.env)).all (fun x => !x.1) && (backToKw cpos (keywordEach [] X.env)).all (fun x => x.1.isSome)
    && decide (([e, f] : List Expr).length + ([] : List Keyword).length + (if ([] : List Keyword).isEmpty then 0 else 1) < 30)) = true
  line : (apos.endLine == cpos.line) = true
  trees : backTo cpos (starEach [e, f] X.env) = [(false, eval e X.env), (false, eval f X.env)]

section
variable {X : Cx} {pins : List (Addr × Obj)} {σ : St} {H : Hp} {s : Shared} {a : Addr} {y d : V} {u r : Value} {o : Option V} {A : Around} {E : Value → Shared → Prop}
end

section
variable {X : Cx} {o e f : Expr} {apos cpos : Pos} {td ty tx : TE}
end

/-! ### dict(d): a copy -/
section
variable {X : Cx} {pins : List (Addr × Obj)} {σ : St} {H : Hp} {s : Shared} {a : Addr} {kvs : List (Key × V)} {A : Around} {E : Value → Shared → Prop}
end


section
variable {X : Cx} {pins : List (Addr × Obj)} {σ : St} {H : Hp} {s : Shared} {a : Addr} {y : V} {u : Value} {A : Around} {E : Value → Shared → Prop}
end
end L2


/-! numbers: the mathematics -/
namespace Nm
/-- the measure that both defs divide by -/
def msr (a b : Int) : Int := if b < 0 then -(Int.gcd a b : Int) else (Int.gcd a b : Int)
theorem gcd_pos {a b : Int} (hb : b ≠ 0) : 0 < Int.gcd a b := Nat.pos_of_ne_zero fun h => hb (Int.gcd_eq_zero_iff.mp h).2
theorem msr_ne {a b : Int} (hb : b ≠ 0) : msr a b ≠ 0 := by
  have := gcd_pos (a := a) hb
  unfold msr; split <;> lia
theorem fdiv_neg_dvd {a g : Int} (h : g ∣ a) : a.fdiv (-g) = -(a / g) := by
  obtain ⟨k, rfl⟩ := h
  by_cases hg : g = 0
  · subst hg; simp
  · rw [Int.mul_ediv_cancel_left _ hg, show g * k = -g * -k by rw [Int.neg_mul_neg], Int.mul_fdiv_cancel_left _ (by lia)]
theorem fdiv_dvd {a g : Int} (h : g ∣ a) : a.fdiv g = a / g := by
  obtain ⟨k, rfl⟩ := h
  by_cases hg : g = 0
  · subst hg; simp
  · rw [Int.mul_ediv_cancel_left _ hg, Int.mul_fdiv_cancel_left _ hg]
theorem top_msr {a b : Int} (hb : b ≠ 0) : a.fdiv (msr a b) = (Rat.divInt a b).num := by
  rw [Rat.num_divInt, Int.gcd_comm b a]
  have d : (Int.gcd a b : Int) ∣ a := Int.gcd_dvd_left ..
  unfold msr
  split
  · rename_i h
    rw [fdiv_neg_dvd d, Int.sign_eq_neg_one_of_neg h, Int.neg_mul, Int.one_mul, Int.neg_ediv_of_dvd d]
  · rw [fdiv_dvd d, Int.sign_eq_one_of_pos (by lia), Int.one_mul]
theorem bottom_msr {a b : Int} (hb : b ≠ 0) : b.fdiv (msr a b) = (Rat.divInt a b).den := by
  rw [Rat.den_divInt, if_neg hb, Int.gcd_comm b a]
  have d : (Int.gcd a b : Int) ∣ b := Int.gcd_dvd_right ..
  rw [Int.natCast_ediv]
  unfold msr
  split
  · rename_i h
    rw [fdiv_neg_dvd d, ← Int.neg_ediv_of_dvd d, Int.ofNat_natAbs_of_nonpos (by lia)]
  · rw [fdiv_dvd d, Int.natAbs_of_nonneg (by lia)]
/-- one turn of the search for the common measure -/
theorem gcd_turn (x y : Int) : Int.gcd y (x % y) = Int.gcd x y := by
  have e : x % y + y * (x / y) = x := Int.emod_add_mul_ediv x y
  have h : Int.gcd (x % y + y * (x / y)) y = Int.gcd (x % y) y := Int.gcd_add_mul_left_left ..
  rw [e] at h
  rw [h, Int.gcd_comm]
theorem abs_if (i : Int) : (if i < 0 then -i else i) = (i.natAbs : Int) := by split <;> lia
theorem num_mul (q : Rat) : ((q.num : Int) : Rat) = q * ((q.den : Int) : Rat) := by
  have hd : ((q.den : Nat) : Int) ≠ 0 := by have := q.den_pos; lia
  have h1 : q = (q.num : Rat) / ((q.den : Int) : Rat) := by
    have := Rat.num_divInt_den q
    rw [Rat.divInt_eq_div] at this
    exact this.symm
  have h0 : (((q.den : Int)) : Rat) ≠ 0 := fun z => hd (by exact_mod_cast z)
  conv => rhs; lhs; rw [h1]
  rw [Rat.div_mul_cancel h0]
theorem den_ne (q : Rat) : ((q.den : Nat) : Int) ≠ 0 := by have := q.den_pos; lia
theorem cast_ne {a : Int} (h : a ≠ 0) : (a : Rat) ≠ 0 := fun z => h (by exact_mod_cast z)
theorem div_eq {t b : Int} {q : Rat} (hb : b ≠ 0) (h : (t : Rat) = q * (b : Rat)) : Rat.divInt t b = q := by
  rw [Rat.divInt_eq_div, h, Rat.mul_div_cancel (cast_ne hb)]
theorem plus_eq (p q : Rat) : Rat.divInt (p.num * q.den + q.num * p.den) (p.den * q.den) = p + q :=
  div_eq (Int.mul_ne_zero (den_ne p) (den_ne q)) (by rw [Rat.intCast_add, Rat.intCast_mul, Rat.intCast_mul, Rat.intCast_mul, num_mul p, num_mul q]; grind)
theorem minus_eq (p q : Rat) : Rat.divInt (p.num * q.den - q.num * p.den) (p.den * q.den) = p - q :=
  div_eq (Int.mul_ne_zero (den_ne p) (den_ne q)) (by rw [Rat.intCast_sub, Rat.intCast_mul, Rat.intCast_mul, Rat.intCast_mul, num_mul p, num_mul q]; grind)
theorem times_eq (p q : Rat) : Rat.divInt (p.num * q.num) (p.den * q.den) = p * q :=
  div_eq (Int.mul_ne_zero (den_ne p) (den_ne q)) (by rw [Rat.intCast_mul, Rat.intCast_mul, num_mul p, num_mul q]; grind)
theorem pow_add (x : Rat) (m : Nat) : ∀ n : Nat, x ^ (m + n) = x ^ m * x ^ n
  | 0 => by rw [Nat.add_zero, Rat.pow_zero]; grind
  | n + 1 => by rw [← Nat.add_assoc, Rat.pow_succ, Rat.pow_succ, pow_add x m n]; grind
end Nm

/-! curves: the mathematics -/
namespace Cv
/-- the height at x -/
def ev : List Rat → Rat → Rat
  | [], _ => 0
  | q :: r, x => q + x * ev r x
/-- without the noughts at the end -/
def strip : List Rat → List Rat
  | [] => []
  | q :: r => if strip r = [] ∧ q = 0 then [] else q :: strip r
theorem ev_strip (x : Rat) : ∀ qs, ev (strip qs) x = ev qs x
  | [] => rfl
  | q :: r => by
    have ih := ev_strip x r
    unfold strip
    split
    · rename_i h
      rw [h.1] at ih
      show (0 : Rat) = q + x * ev r x
      rw [← ih, h.2]; show (0 : Rat) = 0 + x * 0; grind
    · show q + x * ev (strip r) x = _
      rw [ih]; rfl
theorem strip_length : ∀ qs, (strip qs).length ≤ qs.length
  | [] => Nat.le_refl _
  | q :: r => by
    have ih := strip_length r
    unfold strip
    split
    · exact Nat.zero_le _
    · exact Nat.succ_le_succ ih
theorem strip_last : ∀ qs, strip qs ≠ [] → (strip qs)[(strip qs).length - 1]? ≠ some 0
  | [], h => absurd rfl h
  | q :: r, h => by
    have ih := strip_last r
    unfold strip at h ⊢
    split at h
    · exact absurd rfl h
    · rename_i hc
      rw [if_neg hc]
      by_cases e : strip r = []
      · rw [e]
        intro z
        have z' : q = 0 := by simpa using z
        exact hc ⟨e, z'⟩
      · have hl : 0 < (strip r).length := List.length_pos_iff.mpr e
        rw [List.length_cons, show (strip r).length + 1 - 1 = ((strip r).length - 1) + 1 by lia, List.getElem?_cons_succ]
        exact ih e
/-- what the loop from the end finds -/
theorem take_strip : ∀ (qs : List Rat) (w : Nat), (∀ j q, w ≤ j → qs[j]? = some q → q = 0) → (w = 0 ∨ ∃ q, qs[w - 1]? = some q ∧ q ≠ 0) → qs.take w = strip qs
  | [], w, _, _ => by simp [strip]
  | p :: r, 0, h, _ => by
    have ih := take_strip r 0 (fun j q _ e => h (j + 1) q (by lia) (by simpa using e)) (.inl rfl)
    have hp : p = 0 := h 0 p (Nat.le_refl _) rfl
    unfold strip
    rw [← ih, if_pos ⟨rfl, hp⟩]; rfl
  | p :: r, w + 1, h, h2 => by
    have hz : ∀ j q, w ≤ j → r[j]? = some q → q = 0 := fun j q hj e => h (j + 1) q (by lia) (by simpa using e)
    by_cases hw : w = 0
    · subst hw
      have ih := take_strip r 0 hz (.inl rfl)
      rcases h2 with z | ⟨q, e, hq⟩
      · exact absurd z (by lia)
      · have e' : p = q := by simpa using e
        subst e'
        unfold strip
        rw [← ih, if_neg (fun z => hq z.2)]; rfl
    · have ih := take_strip r w hz (by
        rcases h2 with z | ⟨q, e, hq⟩
        · exact absurd z (by lia)
        · refine .inr ⟨q, ?_, hq⟩
          rw [show w + 1 - 1 = (w - 1) + 1 by lia, List.getElem?_cons_succ] at e
          exact e)
      have hne : strip r ≠ [] := by
        rw [← ih]
        rcases h2 with z | ⟨q, e, hq⟩
        · exact absurd z (by lia)
        · rw [show w + 1 - 1 = (w - 1) + 1 by lia, List.getElem?_cons_succ] at e
          intro z
          have hl : 0 < (r.take w).length := by
            rw [List.length_take]
            have := (List.getElem?_eq_some_iff.mp e).1
            lia
          rw [z] at hl; simp at hl
      unfold strip
      rw [← ih, if_neg (fun z => hne (by rw [← ih]; exact z.1))]; rfl
/-- by powers -/
def pw : List Rat → Rat → Rat → Rat
  | [], _, _ => 0
  | q :: r, x, p => q * p + pw r x (p * x)
theorem ev_scale (c x : Rat) : ∀ qs, ev (qs.map (· * c)) x = ev qs x * c
  | [] => by show (0 : Rat) = 0 * c; grind
  | q :: r => by
    show q * c + x * ev (r.map (· * c)) x = (q + x * ev r x) * c
    rw [ev_scale c x r]; grind
theorem ev_snoc (x q : Rat) : ∀ l : List Rat, ev (l ++ [q]) x = ev l x + q * x ^ l.length
  | [] => by show q + x * 0 = 0 + q * x ^ 0; rw [Rat.pow_zero]; grind
  | p :: r => by
    show p + x * ev (r ++ [q]) x = (p + x * ev r x) + q * x ^ (r.length + 1)
    rw [ev_snoc x q r, Rat.pow_succ]; grind
theorem strip_zeros : ∀ (qs : List Rat) (n : Nat), strip (qs ++ List.replicate n 0) = strip qs
  | [], 0 => rfl
  | [], n + 1 => by
    have ih := strip_zeros [] n
    show strip (0 :: List.replicate n 0) = []
    unfold strip
    have e : strip (List.replicate n 0) = [] := by simpa [strip] using ih
    rw [if_pos ⟨e, rfl⟩]
  | q :: r, n => by
    have ih := strip_zeros r n
    show strip (q :: (r ++ List.replicate n 0)) = strip (q :: r)
    unfold strip
    rw [ih]
theorem ev_set (x d : Rat) : ∀ (l : List Rat) (i : Nat) (v : Rat), l[i]? = some v → ev (l.set i (v + d)) x = ev l x + d * x ^ i
  | [], _, _, h => by simp at h
  | q :: r, 0, v, h => by
    have e : q = v := by simpa using h
    subst e
    show (q + d) + x * ev r x = (q + x * ev r x) + d * x ^ 0
    rw [Rat.pow_zero]; grind
  | q :: r, i + 1, v, h => by
    show q + x * ev (r.set i (v + d)) x = (q + x * ev r x) + d * x ^ (i + 1)
    rw [ev_set x d r i v (by simpa using h), Rat.pow_succ]; grind
theorem ev_zeros (x : Rat) : ∀ n, ev (List.replicate n 0) x = 0
  | 0 => rfl
  | n + 1 => by
    show (0 : Rat) + x * ev (List.replicate n 0) x = 0
    rw [ev_zeros x n]; grind
/-- whole tops -/
def evI (ts : List Int) (x : Rat) : Rat := ev (ts.map fun t : Int => (t : Rat)) x
theorem evI_set (x : Rat) (l : List Int) (i : Nat) (v d : Int) (h : l[i]? = some v) : evI (l.set i (v + d)) x = evI l x + (d : Rat) * x ^ i := by
  unfold evI
  rw [List.map_set, Rat.intCast_add]
  exact ev_set x _ _ i _ (by rw [List.getElem?_map, h]; rfl)
theorem evI_take_succ (x : Rat) (l : List Int) (i : Nat) (v : Int) (h : l[i]? = some v) : evI (l.take (i + 1)) x = evI (l.take i) x + (v : Rat) * x ^ i := by
  have hi : i < l.length := (List.getElem?_eq_some_iff.mp h).1
  unfold evI
  rw [List.take_add_one, h]
  show ev ((l.take i ++ [v]).map _) x = _
  rw [List.map_append]
  show ev (_ ++ [(v : Rat)]) x = _
  rw [ev_snoc, List.length_map, List.length_take, Nat.min_eq_left (by lia)]
theorem evI_cons (x : Rat) (t : Int) (l : List Int) : evI (t :: l) x = (t : Rat) + x * evI l x := rfl
theorem evI_scale (x : Rat) (c : Int) (l : List Int) : evI (l.map (c * ·)) x = (c : Rat) * evI l x := by
  induction l with
  | nil => show (0 : Rat) = _ * 0; grind
  | cons t l ih => rw [List.map_cons, evI_cons, evI_cons, ih, Rat.intCast_mul]; grind
theorem evI_last (x : Rat) (l : List Int) (t : Int) (h : l[l.length - 1]? = some t) : evI l x = evI (l.take (l.length - 1)) x + (t : Rat) * x ^ (l.length - 1) := by
  have hl : l.length - 1 < l.length := (List.getElem?_eq_some_iff.mp h).1
  have := evI_take_succ x l (l.length - 1) t h
  rw [show l.length - 1 + 1 = l.length by lia, List.take_length] at this
  exact this
/-! ### a curve that is nought at more places than it has numbers -/
/-- what is left when the curve, less its height at c, is divided by x - c -/
def quot (c : Rat) : List Rat → List Rat
  | [] => []
  | [_] => []
  | _ :: b :: l => ev (b :: l) c :: quot c (b :: l)
theorem quot_ev (c x : Rat) : ∀ l : List Rat, ev l x = ev l c + (x - c) * ev (quot c l) x
  | [] => by show (0 : Rat) = 0 + _ * 0; grind
  | [a] => by show a + x * 0 = a + c * 0 + (x - c) * 0; grind
  | a :: b :: l => by
    have h := quot_ev c x (b :: l)
    show a + x * ev (b :: l) x = a + c * ev (b :: l) c + (x - c) * (ev (b :: l) c + x * ev (quot c (b :: l)) x)
    rw [h]; grind
theorem quot_length (c : Rat) : ∀ l : List Rat, (quot c l).length = l.length - 1
  | [] => rfl
  | [_] => rfl
  | _ :: b :: l => by
    show (quot c (b :: l)).length + 1 = _
    rw [quot_length c (b :: l)]
    simp
theorem ev_none (x : Rat) : ∀ l : List Rat, (∀ q ∈ l, q = 0) → ev l x = 0
  | [], _ => rfl
  | a :: l, h => by
    show a + x * ev l x = 0
    rw [h a List.mem_cons_self, ev_none x l fun q hq => h q (List.mem_cons_of_mem _ hq)]
    grind
theorem ident : ∀ (n : Nat) (l : List Rat), l.length ≤ n → ∀ s : Nat, (∀ k : Nat, s ≤ k → ev l (k : Rat) = 0) → ∀ q ∈ l, q = 0
  | 0, l, hl, _, _ => by
    have e : l = [] := List.eq_nil_of_length_eq_zero (by lia)
    rw [e]
    exact fun q h => nomatch h
  | n + 1, [], _, _, _ => fun q h => nomatch h
  | n + 1, a :: t, hl, s, h => by
    have hs := h s (Nat.le_refl _)
    have hq : ∀ q ∈ quot (s : Rat) (a :: t), q = 0 := ident n _ (by rw [quot_length]; simp at hl ⊢; lia) (s + 1) fun k hk => by
      have e := quot_ev (s : Rat) (k : Rat) (a :: t)
      rw [h k (by lia), hs] at e
      have e2 : ((k : Rat) - (s : Rat)) * ev (quot (s : Rat) (a :: t)) (k : Rat) = 0 := by grind
      rcases Rat.mul_eq_zero.mp e2 with z | z
      · have z2 : (k : Rat) = (s : Rat) := by grind
        have z3 : k = s := by exact_mod_cast z2
        lia
      · exact z
    have hall : ∀ x, ev (a :: t) x = 0 := fun x => by
      rw [quot_ev (s : Rat) x (a :: t), hs, ev_none x _ hq]; grind
    have ha : a = 0 := by
      have := hall 0
      show a = 0
      have e : ev (a :: t) 0 = a + 0 * ev t 0 := rfl
      rw [e] at this
      grind
    have ht : ∀ q ∈ t, q = 0 := ident n t (by simp at hl; lia) 1 fun k hk => by
      have e := hall (k : Rat)
      have e1 : ev (a :: t) (k : Rat) = a + (k : Rat) * ev t (k : Rat) := rfl
      rw [e1, ha] at e
      have e2 : (k : Rat) * ev t (k : Rat) = 0 := by grind
      rcases Rat.mul_eq_zero.mp e2 with z | z
      · have z3 : k = 0 := by exact_mod_cast z
        lia
      · exact z
    intro q hq'
    rcases List.mem_cons.mp hq' with z | z
    · rw [z]; exact ha
    · exact ht q z
/-- the difference, number by number -/
def dif : List Rat → List Rat → List Rat
  | [], m => m.map (· * (-1))
  | a :: l, m => (a - m.headD 0) :: dif l m.tail
theorem ev_head (x : Rat) (m : List Rat) : ev m x = m.headD 0 + x * ev m.tail x := by
  cases m with
  | nil => show (0 : Rat) = 0 + x * 0; grind
  | cons b m => rfl
theorem dif_ev (x : Rat) : ∀ l m : List Rat, ev (dif l m) x = ev l x - ev m x
  | [], m => by
    show ev (m.map (· * (-1))) x = 0 - ev m x
    rw [ev_scale]; grind
  | a :: l, m => by
    show (a - m.headD 0) + x * ev (dif l m.tail) x = (a + x * ev l x) - ev m x
    rw [dif_ev x l m.tail, ev_head x m]; grind
theorem dif_none : ∀ l m : List Rat, l.length = m.length → (∀ q ∈ dif l m, q = 0) → l = m
  | [], [], _, _ => rfl
  | [], _ :: _, e, _ => nomatch e
  | _ :: _, [], e, _ => nomatch e
  | a :: l, b :: m, e, h => by
    have h1 : a - b = 0 := h _ List.mem_cons_self
    have h2 := dif_none l m (by simpa using e) fun q hq => h q (List.mem_cons_of_mem _ hq)
    rw [h2, show a = b by grind]
/-- two lists of one length that come to the same everywhere are one -/
theorem same_of (l m : List Rat) (e : l.length = m.length) (h : ∀ x, ev l x = ev m x) : l = m :=
  dif_none l m e (ident _ _ (Nat.le_refl _) 0 fun k _ => by rw [dif_ev, h]; grind)
end Cv

/-! own layer, part 1: a list comprehension -/
namespace L2
open PySem PySem.Spec PyProof.Rows

/-! ### the cells that a comprehension closes over -/
theorem closure_ok {env : Env} : ∀ (names : List (Str × NameKind)) (acc : List (Str × Addr)), (∀ x ∈ names, x.2 = .free → ∃ c, env.cells.lookup x.1 = some c) →
    ∃ cl : List (Str × Addr), (forIn (m := Sem) names acc fun x r => do
        if x.2 == .free then pure (ForInStep.yield ((x.1, ← cellOf env x.1) :: r)) else pure (ForInStep.yield r)) = pure cl ∧
      (∀ p ∈ cl, p ∈ acc ∨ env.cells.lookup p.1 = some p.2) ∧ (∀ p ∈ acc, p ∈ cl) ∧ ∀ x ∈ names, x.2 = .free → ∃ c, (x.1, c) ∈ cl
  | [], acc, _ => ⟨acc, rfl, fun _ h => .inl h, fun _ h => h, fun _ h => nomatch h⟩
  | x :: r, acc, h => by
    by_cases hk : x.2 = .free
    · obtain ⟨c, hc⟩ := h x List.mem_cons_self hk
      obtain ⟨cl, e, h1, h2, h3⟩ := closure_ok r ((x.1, c) :: acc) fun y hy => h y (List.mem_cons_of_mem _ hy)
      refine ⟨cl, ?_, fun p hp => ?_, fun p hp => h2 p (List.mem_cons_of_mem _ hp), fun y hy hf => ?_⟩
      · rw [List.forIn_cons]
        have z : (x.2 == NameKind.free) = true := by rw [hk]; rfl
        have cell : cellOf env x.1 = pure c := by unfold cellOf; rw [hc]
        simp only [z, if_true, cell]
        exact e
      · rcases h1 p hp with q | q
        · rcases List.mem_cons.mp q with rfl | q
          · exact .inr hc
          · exact .inl q
        · exact .inr q
      · rcases List.mem_cons.mp hy with rfl | hy
        · exact ⟨c, h2 _ List.mem_cons_self⟩
        · exact h3 y hy hf
    · obtain ⟨cl, e, h1, h2, h3⟩ := closure_ok r acc fun y hy => h y (List.mem_cons_of_mem _ hy)
      refine ⟨cl, ?_, h1, h2, fun y hy hf => ?_⟩
      · rw [List.forIn_cons]
        have z : (x.2 == NameKind.free) = false := by
          cases e : x.2 <;> first | rfl | exact absurd e hk
        simp only [z, Bool.false_eq_true, if_false]
        exact e
      · rcases List.mem_cons.mp hy with rfl | hy
        · exact absurd hf hk
        · exact h3 y hy hf
theorem lookup_of_mem {x : Str} {c : Addr} : ∀ {cl : List (Str × Addr)}, (x, c) ∈ cl → ∃ c', cl.lookup x = some c'
  | [], h => nomatch h
  | (y, d) :: r, h => by
    by_cases e : x = y
    · subst e; exact ⟨d, by simp⟩
    · rcases List.mem_cons.mp h with q | q
      · cases q; exact absurd rfl e
      · obtain ⟨c', q'⟩ := lookup_of_mem q
        refine ⟨c', ?_⟩
        have : (x == y) = false := by simpa using e
        rw [List.lookup_cons, this]
        exact q'
theorem closureFor_ok {scope : Scope} {env : Env} (h : ∀ x ∈ scope.names, x.2 = .free → ∃ c, env.cells.lookup x.1 = some c) :
    ∃ cl : List (Str × Addr), closureFor scope env = pure cl ∧ (∀ x c, cl.lookup x = some c → env.cells.lookup x = some c) ∧ ∀ x ∈ scope.names, x.2 = .free → ∃ c, cl.lookup x.1 = some c := by
  obtain ⟨cl, e, h1, _, h3⟩ := closure_ok scope.names [] h
  refine ⟨cl, ?_, fun x c q => ?_, fun x hx hf => ?_⟩
  · unfold closureFor
    simp only [bind_pure]
    exact e
  · rcases h1 _ (PySem.mem_of_lookup q) with z | z
    · exact nomatch z
    · exact z
  · obtain ⟨c, hc⟩ := h3 x hx hf
    exact lookup_of_mem hc

/-- what stands in the block's table: a name that was free -/
theorem lookup_relabel_free {env : Env} : ∀ {names : List (Str × NameKind)} {x : Str}, names.lookup x = some .free →
    (names.map fun (n, k) => if (k == NameKind.free && env.scope.kind == .function && env.kindOf n == some .cell) then (n, NameKind.cell) else (n, k)).lookup x = some .cell ∨
    (names.map fun (n, k) => if (k == NameKind.free && env.scope.kind == .function && env.kindOf n == some .cell) then (n, NameKind.cell) else (n, k)).lookup x = some .free
  | [], _, h => by simp at h
  | (n, k) :: r, x, h => by
    have ih := @lookup_relabel_free env r x
    show List.lookup x ((if (k == NameKind.free && env.scope.kind == .function && env.kindOf n == some .cell) = true then (n, NameKind.cell) else (n, k)) :: _) = _ ∨ List.lookup x ((if (k == NameKind.free && env.scope.kind == .function && env.kindOf n == some .cell) = true then (n, NameKind.cell) else (n, k)) :: _) = _
    cases hx : x == n with
    | true =>
      simp only [List.lookup_cons, hx] at h
      cases h
      by_cases hc : (NameKind.free == NameKind.free && env.scope.kind == .function && env.kindOf n == some .cell) = true
      · rw [if_pos hc]; simp [List.lookup_cons, hx]
      · rw [if_neg hc]; simp [List.lookup_cons, hx]
    | false =>
      simp only [List.lookup_cons, hx] at h
      by_cases hc : (k == NameKind.free && env.scope.kind == .function && env.kindOf n == some .cell) = true
      · rw [if_pos hc]; simp only [List.lookup_cons, hx]; exact ih h
      · rw [if_neg hc]; simp only [List.lookup_cons, hx]; exact ih h
/-- a name of the block that has a cell was free -/
theorem relabel_free {env : Env} {x : Str} : ∀ {names : List (Str × NameKind)}, (∀ y ∈ names, y.2 ≠ .cell) →
    ((names.map fun (n, k) => if (k == NameKind.free && env.scope.kind == .function && env.kindOf n == some .cell) then (n, NameKind.cell) else (n, k)).lookup x = some .cell ∨
     (names.map fun (n, k) => if (k == NameKind.free && env.scope.kind == .function && env.kindOf n == some .cell) then (n, NameKind.cell) else (n, k)).lookup x = some .free) → (x, NameKind.free) ∈ names
  | [], _, h => by simp at h
  | (n, k) :: r, hc, h => by
    have ih := @relabel_free env x r fun y hy => hc y (List.mem_cons_of_mem _ hy)
    have hk : k ≠ .cell := hc (n, k) List.mem_cons_self
    change List.lookup x ((if (k == NameKind.free && env.scope.kind == .function && env.kindOf n == some .cell) = true then (n, NameKind.cell) else (n, k)) :: _) = _ ∨ List.lookup x ((if (k == NameKind.free && env.scope.kind == .function && env.kindOf n == some .cell) = true then (n, NameKind.cell) else (n, k)) :: _) = _ at h
    cases hx : x == n with
    | true =>
      have e : x = n := by simpa using hx
      subst e
      by_cases hq : (k == NameKind.free && env.scope.kind == .function && env.kindOf x == some .cell) = true
      · have : k = .free := by
          cases k <;> first | rfl | (simp at hq)
        subst this; exact List.mem_cons_self
      · rw [if_neg hq] at h
        simp only [List.lookup_cons, hx] at h
        rcases h with h | h
        · cases h; exact absurd rfl hk
        · cases h; exact List.mem_cons_self
    | false =>
      refine List.mem_cons_of_mem _ (ih ?_)
      by_cases hq : (k == NameKind.free && env.scope.kind == .function && env.kindOf n == some .cell) = true
      · rw [if_pos hq] at h; simpa only [List.lookup_cons, hx] using h
      · rw [if_neg hq] at h; simpa only [List.lookup_cons, hx] using h

/-! ### the block -/
/-- the context of a comprehension's block: its names are the target's, then those that it closes over -/
def cxComp (X : Cx) (N : List Str) (scope : Scope) (cl : List (Str × Addr)) (C : Addr) (s : Shared) (H : Hp) (fp : List Addr) : Cx :=
  { prog := X.prog, w := X.w, K := X.K, mg := X.mg, base := X.base, A := X.A, N := N, s₀ := s, H₀ := H, env := compEnvC scope cl C X.env, outer := X.stack, stack := X.stack, ex := fp,
    fn := fun _ => false, calm := X.calm, pn := [], xe := fun _ _ => False }
/-- the block's slots: nt for the target, then the outer ones at js -/
def cS (nt : Nat) (js : List Nat) (σ : St) : St := List.replicate nt none ++ js.map fun i => σ.getD i none
abbrev lstO (ys : List Value) : Obj := { cls := .type "list", data := .seq ys.toArray ys.length }

theorem compLoop_any {prog : Program} {w : World} {A : Around} {R : Result → Shared → Prop} {s : Shared} {elt target iter : Expr} {ifs : List Expr} {scope : Scope} {pos : Pos} {it acc : Value} {env : Env} (I : Nat → Shared → Prop)
    (turn : ∀ n s, I n s → wpAny (model prog w) A (pyNext it) (fun r s₁ => match r with
      | none => R (.ok .next) s₁
      | some v => wpAny (model prog w) A (letOwnedTupleGo target it v) (fun _ s₁' => wpAny (model prog w) A (assign target env v) (fun _ s₂ =>
          wpAny (model prog w) A (forIn ifs true fun c r => if r = true then do let ok ← isTrue c env (eval c env); pure (ForInStep.yield ok) else pure (ForInStep.yield r)) (fun ok s₃ =>
            if ok = true then wpAny (model prog w) A (eval elt env) (fun x s₄ =>
              wpAny (model prog w) A (call (.builtin "list.append") [acc, x]) (fun _ s₅ => ∃ m, m < n ∧ I m s₅) (fun _ _ => False) s₄) (fun _ _ => False) s₃
            else ∃ m, m < n ∧ I m s₃) (fun _ _ => False) s₂) (fun _ _ => False) s₁') (fun _ _ => False) s₁) (fun _ _ => False) s)
    (n : Nat) (h : I n s) :
    codeAny (model prog w) A (.compLoop (.ListComp elt [⟨target, iter, ifs, 0⟩] scope pos) 0 it acc env) R s := by
  refine codeAny_loop rfl I (fun n s hI => ?_) n h
  show wpAny _ A ((compTurn (.ListComp elt [⟨target, iter, ifs, 0⟩] scope pos) 0 it acc env).onRaise (fun x => do noteFrame x env; theTreesLotGoes x)) _ _ s
  refine wpAny_noted ?_
  rw [compTurn_list]
  refine wpAny_bind (wpAny_standAt (wpAny_bind (wpAny_mono (turn n s hI) (fun r s₁ h₁ => ?_) fun _ _ h' => h'.elim)))
  cases r with
  | none => exact wpAny_pure h₁
  | some v =>
    refine wpAny_bind (wpAny_mono h₁ (fun _ s₁' h₁' => ?_) fun _ _ h' => h'.elim)
    refine wpAny_bind (wpAny_mono h₁' (fun _ s₂ h₂ => wpAny_bind (wpAny_mono h₂ (fun ok s₃ h₃ => ?_) fun _ _ h' => h'.elim)) fun _ _ h' => h'.elim)
    cases ok with
    | false => exact wpAny_pure ⟨rfl, h₃⟩
    | true =>
      exact wpAny_bind (wpAny_bind (wpAny_mono h₃ (fun x s₄ h₄ => wpAny_bind (wpAny_mono h₄ (fun _ s₅ h₅ => wpAny_pure (wpAny_pure ⟨rfl, h₅⟩)) fun _ _ h' => h'.elim)) fun _ _ h' => h'.elim))

/-- the tests of a clause -/
def PTs (X : Cx) (ifs : List Expr) (t : TT) : Prop :=
  ∀ (pins : List (Addr × Obj)) (s : Shared) (σ : St) (H : Hp) (Q : Bool → Hp → Prop), Inv X pins σ H s → t σ H Q →
    wpAny (model X.prog X.w) X.A (forIn ifs true fun c r => if r = true then do let ok ← isTrue c X.env (eval c X.env); pure (ForInStep.yield ok) else pure (ForInStep.yield r)) (TP X pins σ Q) X.xe s
def tYes : TT := fun _ H Q => Q true H
theorem pts_nil {X : Cx} : PTs X [] tYes := fun _ _ _ H _ I h => wpAny_tests_nil ⟨H, I, h⟩
theorem pts_one {X : Cx} {c : Expr} {t : TT} (h : PT X c t) : PTs X [c] t := fun pins s σ H Q I q => wpAny_tests_one (h pins s σ H Q I q)

/-- what a comprehension's n turns are to keep -/
structure LcW (J : It) (n nt : Nat) (js : List Nat) (σ : St) (g : TG) (tc : TT) (te : TE) (Fin : List V → Hp → Prop) (W : Nat → List V → Hp → Prop) : Prop where
  go : ∀ i zs H, i < n → W i zs H → J.go i H ∧ zs.length < sizeLine
  step : ∀ i zs H x H', i < n → W i zs H → J.yld i H x H' → g x (cS nt js σ) H' fun σ2 H2 => tc σ2 H2 fun b H3 => if b = true then te σ2 H3 fun y H4 => W (i + 1) (zs ++ [y]) H4 else W (i + 1) zs H3
  stop : ∀ zs H, W n zs H → J.stop n H ∧ zs.length ≤ sizeLine ∧ Fin zs H
@[irreducible] def tLC (wi : TI) (nt : Nat) (js : List Nat) (g : TG) (tc : TT) (te : TE) : TE := fun σ H Q => wi σ H fun J H1 =>
  ∃ (n : Nat) (W : Nat → List V → Hp → Prop), W 0 [] H1 ∧ LcW J n nt js σ g tc te (fun zs H' => ∀ p, H' p = none → Q (.ref p) (upd H' p (.lst zs))) W

theorem lc_of {wi : TI} {nt : Nat} {js : List Nat} {g : TG} {tc : TT} {te : TE} {σ : St} {H : Hp} {Q : VK}
    (h : wi σ H fun J H1 => ∃ (n : Nat) (W : Nat → List V → Hp → Prop), W 0 [] H1 ∧ LcW J n nt js σ g tc te (fun zs H' => ∀ p, H' p = none → Q (.ref p) (upd H' p (.lst zs))) W) : tLC wi nt js g tc te σ H Q := by
  unfold tLC; exact h
theorem lc_to {wi : TI} {nt : Nat} {js : List Nat} {g : TG} {tc : TT} {te : TE} {σ : St} {H : Hp} {Q : VK} (h : tLC wi nt js g tc te σ H Q) :
    wi σ H fun J H1 => ∃ (n : Nat) (W : Nat → List V → Hp → Prop), W 0 [] H1 ∧ LcW J n nt js σ g tc te (fun zs H' => ∀ p, H' p = none → Q (.ref p) (upd H' p (.lst zs))) W := by
  unfold tLC at h; exact h

/-- what the block's names need -/
structure CompOk (X : Cx) (N : List Str) (nt : Nat) (js : List Nat) (scope : Scope) : Prop where
  kind : scope.kind = .function
  nocell : ∀ y ∈ scope.names, y.2 ≠ .cell
  names : ∀ y ∈ scope.names, y.2 = .local → scope.names.lookup y.1 = some .local
  free : ∀ y ∈ scope.names, y.2 = .free → X.env.kindOf y.1 = some .cell ∨ X.env.kindOf y.1 = some .free
  len : N.length = nt + js.length
  outer : ∀ j i, js[j]? = some i → ∃ x, N[nt + j]? = some x ∧ X.N[i]? = some x ∧ scope.names.lookup x = some .free

/-- .. by looking -/
def compOkB (NX : List Str) (sc : Scope) (N : List Str) (nt : Nat) (js : List Nat) (scope : Scope) : Bool :=
  decide (scope.kind = .function) && scope.names.all (fun y => decide (y.2 ≠ .cell)) && scope.names.all (fun y => decide (y.2 ≠ .local) || decide (scope.names.lookup y.1 = some .local)) &&
  scope.names.all (fun y => decide (y.2 ≠ .free) || (decide (sc.names.lookup y.1 = some .cell) || decide (sc.names.lookup y.1 = some .free))) && decide (N.length = nt + js.length) &&
  (List.range js.length).all fun j => match js[j]?, N[nt + j]? with
    | some i, some x => decide (NX[i]? = some x) && decide (scope.names.lookup x = some .free)
    | _, _ => false
theorem CompOk.look {X : Cx} {NX N : List Str} {sc scope : Scope} {nt : Nat} {js : List Nat} (hN : X.N = NX) (hs : X.env.scope = sc) (h : compOkB NX sc N nt js scope = true) : CompOk X N nt js scope := by
  unfold compOkB at h
  simp only [Bool.and_eq_true, List.all_eq_true, Bool.or_eq_true, decide_eq_true_eq] at h
  obtain ⟨⟨⟨⟨⟨h1, h2⟩, h3⟩, h4⟩, h5⟩, h6⟩ := h
  refine ⟨h1, h2, fun y hy hl => (h3 y hy).resolve_left fun z => z hl, fun y hy hf => ?_, h5, fun j i e => ?_⟩
  · have q := (h4 y hy).resolve_left fun z => z hf
    rw [← hs] at q
    exact q
  · have hj : j < js.length := (List.getElem?_eq_some_iff.mp e).1
    have q := h6 j (List.mem_range.mpr hj)
    rw [e] at q
    cases en : N[nt + j]? with
    | none => rw [en] at q; cases q
    | some x =>
      rw [en] at q
      simp only [Bool.and_eq_true, decide_eq_true_eq] at q
      exact ⟨x, rfl, by rw [hN]; exact q.1, q.2⟩

section
variable {X : Cx} {N : List Str} {nt : Nat} {js : List Nat} {scope : Scope} {cl : List (Str × Addr)}
theorem HOk.track {P : Program} {w : World} {H : Hp} {h : Heap} {a : Addr} {o : HO} (x : HOk P w H h) (hn : H a = none) (new : ObjOk P w (upd H a o) h a o) : HOk P w (upd H a o) h := fun b u e => by
  by_cases hb : b = a
  · subst hb; rw [upd_same] at e; cases e; exact new
  · rw [upd_ne hb] at e
    exact (x b u e).stay (fun c v _ q => q) (fun c q => by rw [upd_ne (ne_of_none q hn)]; exact q) fun c xs q => by rw [upd_ne (ne_of_none q hn)]; exact q

/-- the block's entry -/
theorem inv_comp {pins : List (Addr × Obj)} {σ : St} {H : Hp} {s : Shared} {C D : Addr} {h' : Heap} {tk : Nat} {fp : List Addr} {m : Str → Option Value} (I : Inv X pins σ H s) (ok : CompOk X N nt js scope)
    (hcl : ∀ x c, cl.lookup x = some c → X.env.cells.lookup x = some c) (hcl2 : ∀ x ∈ scope.names, x.2 = .free → ∃ c, cl.lookup x.1 = some c)
    (hf : ∀ b ∈ fp, FpOk X pins H b) (ho : ∀ b ∈ fp, ∃ o, s.heap.get? b = some o ∧ ∀ v, o.data ≠ .cell v)
    (hD : s.heap.objs.size ≤ D) (hC : s.heap.objs.size ≤ C) (hDC : D ≠ C) (k : ∀ b o, s.heap.get? b = some o → h'.get? b = some o) (hn : h'.Ns C m) (hd : h'.get? D = some (lstO [])) :
    Inv (cxComp X N scope cl C s H fp) [(D, lstO [])] (cS nt js σ) H { s with heap := h', toks := tk } := by
  have lt : ∀ b ∈ fp, b < s.heap.objs.size := fun b hb => by obtain ⟨o, e, _⟩ := ho b hb; exact Heap.lt_size e
  have frlt : ∀ b ∈ frs X.stack, b < s.heap.objs.size := fun b hb => by
    obtain ⟨_, o, e, _⟩ := I.stack.mem hb
    exact Heap.lt_size e
  refine ⟨⟨I.ok.mod, ok.kind, I.ok.glob, I.ok.blt, hC, fun x y c h1 h2 => I.ok.inj x y c (hcl x c h1) (hcl y c h2), fun x hx => ?_, fun x c hx => absurd hx Bool.false_ne_true, I.ok.hd, I.ok.frames, .inl rfl, fun b hb => ⟨?_, fun x c e => (hf b hb).2.2.2.2.1 x c (hcl x c e)⟩, I.bs,
      Nat.le_trans I.ok.bsz I.sz, fun b o e hb => ?_, fun b hb hs => ?_, I.stack, I.stkFree⟩, rfl, I.bare, Un.kept k, ⟨m, hn, fun j x v h1 h2 h3 => ?_⟩, fun x c e => ?_, I.hok.fresh hC, fun x c e => I.freeC x c (hcl x c e), fun p hp => ?_, I.hok.kept k, ?_⟩
  · obtain ⟨c, hc⟩ := hcl2 (x, .free) (relabel_free ok.nocell hx) rfl
    exact ⟨c, hc⟩
  · exact Nat.ne_of_lt (Nat.lt_of_lt_of_le (lt b hb) hC)
  · rcases (hf b hb).2.2.2.1 with z | z
    · exact I.ok.noex b o e z
    · exact absurd (Nat.lt_of_lt_of_le (Heap.lt_size e) (Nat.le_trans I.ok.bsz z)) (Nat.lt_irrefl _)
  · rcases List.mem_cons.mp (I.stkSub b hs) with z | z
    · exact (hf b hb).2.1 z
    · exact (hf b hb).2.2.1 z
  · change N[j]? = some x at h1
    unfold cS at h2
    by_cases hj : j < nt
    · rw [List.getElem?_append_left (by simpa using hj), List.getElem?_replicate] at h2
      rw [if_pos hj] at h2; cases h2
    · rw [List.getElem?_append_right (by simpa using Nat.not_lt.mp hj), List.length_replicate, List.getElem?_map] at h2
      cases ei : js[j - nt]? with
      | none => rw [ei] at h2; cases h2
      | some i =>
        rw [ei] at h2
        obtain ⟨y, e1, e2, e3⟩ := ok.outer _ i ei
        rw [show nt + (j - nt) = j by lia, h1] at e1
        cases e1
        have hv : σ[i]? = some (some v) := by
          simp only [Option.map_some, Option.some.injEq] at h2
          rw [List.getD_eq_getElem?_getD] at h2
          cases eσ : σ[i]? with
          | none => rw [eσ] at h2; cases h2
          | some z => rw [eσ] at h2; simp at h2; rw [h2]
        obtain ⟨m₀, _, hl⟩ := I.loc
        have kf := ok.free (x, .free) (PySem.mem_of_lookup e3) rfl
        obtain ⟨u, r, l⟩ := hl i x v e2 hv (kf.elim (fun z => .inr (.inl z)) fun z => .inr (.inr z))
        refine ⟨u, r, .inr ⟨lookup_relabel_free e3, ?_⟩⟩
        rcases l with ⟨kl, _⟩ | ⟨_, c, ec, ⟨oc, hoc, hod⟩⟩
        · rcases kf with z | z <;> (rw [z] at kl; cases kl)
        · obtain ⟨c', hc'⟩ := hcl2 (x, .free) (PySem.mem_of_lookup e3) rfl
          have e' := hcl x c' hc'
          rw [ec] at e'
          cases e'
          exact ⟨c, hc', oc, k _ _ hoc, hod⟩
  · obtain ⟨v, oc, hoc, hod⟩ := I.cell x c (hcl x c e)
    exact ⟨v, oc, k _ _ hoc, hod⟩
  · have e : p = (D, lstO []) := by
      have hp' : p ∈ [(D, lstO [])] := hp
      simpa using hp'
    subst e
    refine ⟨hd, I.hok.fresh hD, hDC, fun hb => absurd (Nat.lt_of_lt_of_le (frlt D hb) hD) (Nat.lt_irrefl _), fun v z => by cases z⟩
  · show (cS nt js σ).length = N.length
    unfold cS
    rw [List.length_append, List.length_replicate, List.length_map, ok.len]
end
end L2

/-! own layer, part 2: a list comprehension runs -/
namespace L2
open PySem PySem.Spec PyProof.Rows

/-- the target's store leaves the other slots -/
def Stays (g : TG) (nt : Nat) : Prop := ∀ x σ H Q, g x σ H Q → g x σ H fun σ2 H2 => (σ2.length = σ.length ∧ σ2.drop nt = σ.drop nt) ∧ Q σ2 H2
theorem stays_name {i nt : Nat} (h : i < nt) : Stays (gName i) nt := fun x σ H Q q => ⟨⟨List.length_set, by
  apply List.ext_getElem?
  intro k
  rw [List.getElem?_drop, List.getElem?_drop, List.getElem?_set_ne (by lia)]⟩, q⟩

section
variable {X : Cx} {N : List Str} {nt : Nat} {js : List Nat} {scope : Scope} {elt iter tg : Expr} {ifs : List Expr} {pos : Pos} {g : TG} {tc : TT} {te : TE} {wi : TI}

theorem cS_weak {σ σ2 : St} (hl : σ2.length = (cS nt js σ).length) (hd : σ2.drop nt = (cS nt js σ).drop nt) : ∀ (i : Nat) v, (cS nt js σ)[i]? = some (some v) → σ2[i]? = some (some v) := fun i v e => by
  by_cases hi : i < nt
  · unfold cS at e
    rw [List.getElem?_append_left (by simpa using hi), List.getElem?_replicate, if_pos hi] at e
    cases e
  · have q : ((cS nt js σ).drop nt)[i - nt]? = some (some v) := by rw [List.getElem?_drop, show nt + (i - nt) = i by lia]; exact e
    rw [← hd, List.getElem?_drop, show nt + (i - nt) = i by lia] at q
    exact q

set_option maxHeartbeats 4000000 in
theorem comp_run {pins : List (Addr × Obj)} {σ : St} {H : Hp} {s₂ : Shared} {cl : List (Str × Addr)} {J : It} {fp : List Addr} {it : Addr} {tn : Nat → Heap → Prop} {E : Value → Shared → Prop} {Fin : List V → Hp → Prop} {W : Nat → List V → Hp → Prop} {nn : Nat}
    {RR : Value → Addr → Result → Shared → Prop} (hcalm : X.calm = true) (ok : CompOk X N nt js scope)
    (hcl : ∀ x c, cl.lookup x = some c → X.env.cells.lookup x = some c) (hcl2 : ∀ x ∈ scope.names, x.2 = .free → ∃ c, cl.lookup x.1 = some c)
    (hg : ∀ cl C s H fp, PG (cxComp X N scope cl C s H fp) tg g) (hk : Stays g nt) (hc : ∀ cl C s H fp, PTs (cxComp X N scope cl C s H fp) ifs tc) (he : ∀ cl C s H fp, PE (cxComp X N scope cl C s H fp) elt te)
    (I : Inv X pins σ H s₂) (T : Turn X.prog X.w X.K tg J fp it tn) (st : tn 0 s₂.heap) (hf : ∀ b ∈ fp, FpOk X pins H b) (w0 : W 0 [] H) (lw : LcW J nn nt js σ g tc te Fin W)
    (hRR : ∀ D C s' H' zs m, Inv X pins σ (upd H' D (.lst zs)) s' → s'.heap.Ns C m → H' D = none → (upd H' D (.lst zs)) C = none → C ≠ X.env.locals → X.s₀.heap.objs.size ≤ C → (∀ x c, X.env.cells.lookup x = some c → c ≠ C) →
      (∀ p ∈ X.pn ++ pins, p.1 ≠ C) → Fin zs H' → RR (.ref D) C (.ok .next) s') :
    wpAny (model X.prog X.w) X.A (newList []) (fun acc s₃ => wpAny (model X.prog X.w) X.A (newFunctionEnv scope X.env.globals cl [] X.env.qual none .none (some X.env)) (fun cenv s₄ =>
      codeAny (model X.prog X.w) X.A (.compStart (.ListComp elt [⟨tg, iter, ifs, 0⟩] scope pos) 0 (.ref it) acc { cenv with scope := relabel scope X.env }) (RR acc cenv.locals) s₄) E s₃) E s₂ := by
  refine wpAny_newObj_type (wpAny_newFunctionEnv ok.nocell (by intro y hy; simp at hy) (fun h₁ hns₁ hsb₁ => ?_) ok.kind)
  dsimp only at hns₁ hsb₁ ⊢
  generalize hH2 : s₂.heap.push { cls := .type "list", dict := none, data := .seq ([] : List Value).toArray } = H2 at hns₁ hsb₁ ⊢
  have hC : H2.objs.size = s₂.heap.objs.size + 1 := by rw [← hH2, Heap.size_push]
  have hDC : s₂.heap.objs.size ≠ H2.objs.size := by rw [hC]; exact Nat.ne_of_lt (Nat.lt_succ_self _)
  have hCle : s₂.heap.objs.size ≤ H2.objs.size := by rw [hC]; exact Nat.le_succ _
  have below : ∀ b, b < s₂.heap.objs.size → b ≠ H2.objs.size ∧ b ≠ s₂.heap.objs.size := fun b hb => ⟨by rw [hC]; exact Nat.ne_of_lt (Nat.lt_succ_of_lt hb), Nat.ne_of_lt hb⟩
  have old : ∀ b o, s₂.heap.get? b = some o → h₁.get? b = some o := fun b o e => hsb₁.extBut b o (below b (Heap.lt_size e)).1 (Heap.get?_push_of_some _ (hH2 ▸ Heap.get?_push_of_some _ e))
  have hacc : h₁.get? s₂.heap.objs.size = some (lstO []) := hsb₁.extBut _ _ hDC (Heap.get?_push_of_some _ (hH2 ▸ Heap.get?_push_size _ rfl))
  have ho := T.obj 0 _ st
  have lt : ∀ b ∈ fp, b < s₂.heap.objs.size := fun b hb => by obtain ⟨o, e, _⟩ := ho b hb; exact Heap.lt_size e
  have loop : ∀ s₃ : Shared, s₃ = { s₂ with heap := h₁, toks := s₂.toks + ([] : List (Str × Value)).length } →
      codeAny (model X.prog X.w) X.A (.compLoop (.ListComp elt [⟨tg, iter, ifs, 0⟩] scope pos) 0 (.ref it) (.ref s₂.heap.objs.size) (compEnvC scope cl H2.objs.size X.env)) (RR (.ref s₂.heap.objs.size) H2.objs.size) s₃ := by
    rintro s₃ rfl
    have I0 : Inv (cxComp X N scope cl H2.objs.size s₂ H fp) [(s₂.heap.objs.size, lstO [])] (cS nt js σ) H { s₂ with heap := h₁, toks := s₂.toks + ([] : List (Str × Value)).length } :=
      inv_comp I ok hcl hcl2 hf ho (Nat.le_refl _) hCle hDC old hns₁ hacc
    have fpy : ∀ {H' : Hp} {ys : List Value}, (∀ b ∈ fp, H' b = none) → ∀ b ∈ fp, FpOk (cxComp X N scope cl H2.objs.size s₂ H fp) [(s₂.heap.objs.size, lstO ys)] H' b := fun {H' ys} hn b hb =>
      ⟨hn b hb, (below b (lt b hb)).1, I0.ok.exfs b hb, .inl hb, (I0.ok.exf b hb).2, fun p hp => by
        have hp' : p ∈ [(s₂.heap.objs.size, lstO ys)] := hp
        have e : p = (s₂.heap.objs.size, lstO ys) := by simpa using hp'
        rw [e]; exact Ne.symm (below b (lt b hb)).2⟩
    refine compLoop_any (fun n s' => ∃ i zs ys H', n = nn - i ∧ i ≤ nn ∧ Inv (cxComp X N scope cl H2.objs.size s₂ H fp) [(s₂.heap.objs.size, lstO ys)] (cS nt js σ) H' s' ∧ Vals zs ys ∧ tn i s'.heap ∧ (∀ b ∈ fp, H' b = none) ∧ W i zs H') ?_ nn
      ⟨0, [], [], H, rfl, Nat.zero_le _, I0, .nil, T.keep 0 _ _ st (fun b _ o e => old b o e), fun b hb => (hf b hb).1, w0⟩
    rintro n s' ⟨i, zs, ys, H', hn0, hile, I', rv, st', fr', w'⟩
    by_cases hlt : i < nn
    case neg =>
      have hie : i = nn := Nat.le_antisymm hile (Nat.not_lt.mp hlt)
      rw [hie] at w' st'
      obtain ⟨stop, zl, fin⟩ := lw.stop zs H' w'
      refine thn (T.done (cxComp X N scope cl H2.objs.size s₂ H fp) rfl rfl rfl hcalm nn _ s' _ H' (fun _ _ => False) I' (fpy fr') st' stop) fun r s4 ⟨hr, I4⟩ => ?_
      subst hr
      have zD := (I4.pin (s₂.heap.objs.size, lstO ys) (List.mem_append_right _ (List.mem_singleton.mpr rfl)))
      have u := I4.base
      have u2 : Un (frs X.stack) fp H (upd H' s₂.heap.objs.size (.lst zs)) s₂.heap s4.heap :=
        ⟨u.keep, u.slot, fun b o q n hx => by rw [upd_ne (Nat.ne_of_lt (Heap.lt_size q))]; exact u.free b o q n hx, u.there, fun b xs q => by rw [upd_ne (ne_of_none (u.tups b xs q) zD.2.1)]; exact u.tups b xs q,
         fun b o xs q => by rw [upd_ne (ne_of_none (u.frzs b o xs q) zD.2.1)]; exact u.frzs b o xs q, fun b ps q => by
           obtain ⟨more, e⟩ := u.tbls b ps q
           exact ⟨more, by rw [upd_ne (ne_of_none e zD.2.1)]; exact e⟩⟩
      have hok2 : HOk X.prog X.w (upd H' s₂.heap.objs.size (.lst zs)) s4.heap := HOk.track I4.hok zD.2.1 ⟨zl, ys, _, rv, zD.1⟩
      have I5 : Inv X pins σ (upd H' s₂.heap.objs.size (.lst zs)) s4 := I.call' I4.os u2 hok2 I4.bare fun b hb => ⟨(hf b hb).2.2.2.1, (hf b hb).2.1, (hf b hb).2.2.2.2.1, (hf b hb).2.2.2.2.2⟩
      obtain ⟨m, hn, _⟩ := I4.loc
      refine hRR _ _ s4 H' zs m I5 hn zD.2.1 ?_ ?_ (Nat.le_trans I.sz hCle) ?_ ?_ fin
      · rw [upd_ne (Ne.symm hDC)]; exact I4.free
      · exact Nat.ne_of_gt (Nat.lt_of_lt_of_le I.lt hCle)
      · intro x c e z
        obtain ⟨v, q⟩ := I.cell x c e
        exact absurd (Nat.lt_of_lt_of_le q.lt (by rw [z]; exact hCle)) (Nat.lt_irrefl _)
      · intro p hp z
        exact absurd (Nat.lt_of_lt_of_le (Heap.lt_size (I.pin p hp).1) (by rw [z]; exact hCle)) (Nat.lt_irrefl _)
    case pos =>
      obtain ⟨go, zl⟩ := lw.go i zs H' hlt w'
      have step := lw.step i zs H'
      refine thn (T.item (cxComp X N scope cl H2.objs.size s₂ H fp) rfl rfl rfl hcalm i _ s' _ H' (fun _ _ => False) I' (fpy fr') st' go) fun r s4 ⟨u, hr, h4⟩ => ?_
      subst hr
      refine thn h4 fun _ s5 ⟨x, H5, I5, r5, y5, st5, fr5⟩ => ?_
      have I5' := I5.pinned (fpy fr5) (T.obj _ _ st5)
      refine thn (hg cl _ s₂ H fp _ s5 _ H5 x u _ I5' r5 (hk _ _ _ _ (step x H5 hlt w' y5))) fun _ s6 ⟨σ6, H6, I6, ⟨hl6, hd6⟩, q6⟩ => ?_
      refine thn (hc cl _ s₂ H fp _ s6 σ6 H6 _ I6 q6) fun okb s7 ⟨H7, I7, q7⟩ => ?_
      have frs' : ∀ {H8 : Hp} {σ8 : St} {s8 : Shared}, Inv (cxComp X N scope cl H2.objs.size s₂ H fp) ([(s₂.heap.objs.size, lstO ys)] ++ pinsAt fp s5.heap) σ8 H8 s8 → tn (i + 1) s8.heap ∧ ∀ b ∈ fp, H8 b = none := fun {H8 σ8 s8} I8 =>
        ⟨T.keep _ _ _ st5 fun b hb o e => (I8.pin (b, o) (List.mem_append_right _ (List.mem_append_right _ (mem_pinsAt hb e)))).1, fun b hb => by
          obtain ⟨o, e, d⟩ := T.obj _ _ st5 b hb
          exact (I8.pin (b, o) (List.mem_append_right _ (List.mem_append_right _ (mem_pinsAt hb e)))).2.1⟩
      cases okb with
      | false =>
        rw [if_neg Bool.false_ne_true] at q7 ⊢
        obtain ⟨a1, a2⟩ := frs' I7
        exact ⟨nn - (i + 1), by rw [hn0]; exact Nat.sub_lt_sub_left hlt (Nat.lt_succ_self i), i + 1, zs, ys, H7, rfl, hlt, I7.unpinned.weak (by rw [hl6]) (cS_weak hl6 hd6), rv, a1, a2, q7⟩
      | true =>
        rw [if_pos rfl] at q7 ⊢
        refine thn (he cl _ s₂ H fp _ s7 σ6 H7 _ I7 q7) fun v s8 ⟨y, H8, I8, r8, q8⟩ => ?_
        have zD := (I8.pin (s₂.heap.objs.size, lstO ys) (List.mem_append_right _ (List.mem_append_left _ (List.mem_singleton.mpr rfl))))
        have ylen : ys.length < sizeLine := by rw [← rv.length]; exact zl
        obtain ⟨a1, a2⟩ := frs' I8
        refine append_at (hsz := by rw [List.size_toArray]; exact Nat.le_of_lt ylen) zD.1 fun h9 hs9 hD9 => ?_
        have I8u : Inv (cxComp X N scope cl H2.objs.size s₂ H fp) [] (cS nt js σ) H8 s8 := (I8.pins_of (pins' := []) fun p hp => nomatch hp).weak (by rw [hl6]) (cS_weak hl6 hd6)
        have I9 : Inv (cxComp X N scope cl H2.objs.size s₂ H fp) [] (cS nt js σ) H8 { s8 with heap := h9 } := I8u.turned (t' := s8.toks) (it := s₂.heap.objs.size) (fun b o hb e => hs9.extBut b o hb e) zD.2.1 hDC (.inr (Nat.le_refl _))
          (fun x c e z => by
            obtain ⟨v, q⟩ := I.cell x c (hcl x c e)
            exact absurd (Nat.lt_of_lt_of_le q.lt (by rw [z]; exact Nat.le_refl _)) (Nat.lt_irrefl _)) (fun p hp => nomatch hp)
        refine ⟨nn - (i + 1), by rw [hn0]; exact Nat.sub_lt_sub_left hlt (Nat.lt_succ_self i), i + 1, zs ++ [y], ys ++ [v], H8, rfl, hlt, I9.pins_of (fun p hp => ?_), rv.snoc r8, T.keep _ _ _ a1 fun b hb o e => hs9.extBut b o (below b (lt b hb)).2 e, a2, q8⟩
        have e : p = (s₂.heap.objs.size, lstO (ys ++ [v])) := by simpa using hp
        subst e
        refine ⟨?_, zD.2.1, hDC, zD.2.2.2.1, fun v z => by cases z⟩
        rw [hD9]
        show some ({ cls := .type "list", data := .seq (ys.toArray.push v) (ys.length + 1) } : Obj) = some { cls := .type "list", data := .seq (ys ++ [v]).toArray (ys ++ [v]).length }
        rw [List.length_append, List.length_singleton, List.push_toArray]
  exact codeAny_compStart_list (loop _ rfl) (T.self _ 0 _ _ _ (T.keep 0 _ _ st (fun b _ o e => old b o e)) (loop _ rfl))

/-- [elt for tg in iter if ..] as a value -/
theorem pe_lc (hcalm : X.calm = true) (ok : CompOk X N nt js scope) (hi : PI X tg iter wi) (hg : ∀ cl C s H fp, PG (cxComp X N scope cl C s H fp) tg g) (hk : Stays g nt) (hc : ∀ cl C s H fp, PTs (cxComp X N scope cl C s H fp) ifs tc)
    (he : ∀ cl C s H fp, PE (cxComp X N scope cl C s H fp) elt te) (hs : ∀ x, foldedSetIterable iter X.env x = pure x := by intro _; rfl) : PE X (.ListComp elt [⟨tg, iter, ifs, 0⟩] scope pos) (tLC wi nt js g tc te) := by
  intro pins s σ H Q I h
  obtain ⟨cl, hclos, hcl, hcl2⟩ := closureFor_ok (scope := scope) (env := X.env) fun x hx hf => I.ok.has x.1 (ok.free x hx hf)
  rw [eval_ListComp]
  refine wpAny_comprehension_free (use := none) rfl hs hclos ok.kind ok.names ?_
  refine thn (hi pins s σ H _ I (lc_to h)) fun v s1 h1 => thn h1 fun itv s2 h2 => ?_
  obtain ⟨it, fp, tn, J, H2, e, I2, T, st2, f2, nn, W, w0, lw⟩ := h2
  subst e
  refine comp_run (RR := fun acc C => compPost (model X.prog X.w) X.A X.xe none (EP X pins σ Q) acc C) hcalm ok hcl hcl2 hg hk hc he I2 T st2 f2 w0 lw ?_
  intro D C s' H' zs m I3 hn hDn hCn hCL hC0 hCc hCp fin
  exact ⟨m, hn, fun h'' hs'' => ⟨.ref D, _, I3.turned (t' := s'.toks) (it := C) (fun b o hb e => hs''.extBut b o hb e) hCn hCL (.inr hC0) hCc hCp, rfl, fin D hDn⟩⟩

/-- name = [..], where the store and the leaving of the block change places -/
theorem ps_lc {i : Nat} {y : Str} {py spos : Pos} (hcalm : X.calm = true) (hN : X.N.Nodup) (hi' : X.N[i]? = some y) (hy : X.env.kindOf y = some .local) (ok : CompOk X N nt js scope) (hi : PI X tg iter wi) (hg : ∀ cl C s H fp, PG (cxComp X N scope cl C s H fp) tg g) (hk : Stays g nt)
    (hc : ∀ cl C s H fp, PTs (cxComp X N scope cl C s H fp) ifs tc) (he : ∀ cl C s H fp, PE (cxComp X N scope cl C s H fp) elt te)
    (hsw : swapsWith (.ListComp elt [⟨tg, iter, ifs, 0⟩] scope pos) (some (.Name y py)) spos.line X.env = pure true) (hs : ∀ x, foldedSetIterable iter X.env x = pure x := by intro _; rfl) :
    PS X (.Assign [.Name y py] (.ListComp elt [⟨tg, iter, ifs, 0⟩] scope pos) spos) (tAsg (tLC wi nt js g tc te) (gName i)) := by
  intro pins s σ H D₀ I h
  obtain ⟨cl, hclos, hcl, hcl2⟩ := closureFor_ok (scope := scope) (env := X.env) fun x hx hf => I.ok.has x.1 (ok.free x hx hf)
  rw [exec_Assign_Name_used _ _ _ _ hsw]
  refine wpAny_bind (wpAny_standAt (wpAny_bind ?_))
  show wpAny _ X.A (do let _ ← comprehension (.ListComp elt [⟨tg, iter, ifs, 0⟩] scope pos) scope X.env _ (newList []) false (eval iter X.env) (some (assign (.Name y py) X.env))) _ _ s
  refine wpAny_bind (wpAny_mono (wpAny_comprehension_free (use := some (assign (.Name y py) X.env)) (Q := fun _ s' => SP X pins D₀ .next s') rfl hs hclos ok.kind ok.names
    (thn (hi pins s σ H _ I (lc_to (show tLC wi nt js g tc te σ H fun x H1 => gName i x σ H1 D₀.nx from h))) fun v s1 h1 => thn h1 fun itv s2 h2 => ?_)) (fun _ s' hq => wpAny_pure (wpAny_pure hq)) fun _ _ e => e)
  obtain ⟨it, fp, tn, J, H2, e, I2, T, st2, f2, nn, W, w0, lw⟩ := h2
  subst e
  refine comp_run (RR := fun acc C => compPost (model X.prog X.w) X.A X.xe (some (assign (.Name y py) X.env)) (fun _ s' => SP X pins D₀ .next s') acc C) hcalm ok hcl hcl2 hg hk hc he I2 T st2 f2 w0 lw ?_
  intro D C s' H' zs m I3 hn hDn hCn hCL hC0 hCc hCp fin
  show wpAny _ X.A (assign (.Name y py) X.env (.ref D)) _ _ _
  refine wpAny_assign_Name (store_ok2 (v := .ref D) I3 hN hi' (.inl hy) rfl (fun s3 I4 hsb => ?_) (.inr hy))
  obtain ⟨a, hsb, ha⟩ := hsb
  have haC : C ≠ a := by
    rcases ha with z | z
    · rw [z]; exact hCL
    · exact Ne.symm (hCc y a z)
  refine ⟨m, hn.sameBut hsb haC, fun h'' hs'' => ?_⟩
  exact ⟨_, _, I4.turned (t' := s3.toks) (it := C) (fun b o hb e => hs''.extBut b o hb e) hCn hCL (.inr hC0) hCc hCp, fin D hDn⟩
end

end L2

/-! own layer, part 3: more operations -/
namespace L2
open PySem PySem.Spec PyProof.Rows

/-! ### sizes: an int of at most n bits -/
def Bd (n : Nat) (x : Int) : Prop := x.natAbs < 2 ^ n
theorem Bd.bits {n : Nat} {x : Int} (h : Bd n x) : Builtin.Int.intBits x ≤ n := PySem.intBits_le_iff.mpr h
/-- a product is small enough -/
def MulOk (i j : Int) : Prop := ∃ m n, Bd m i ∧ Bd n j ∧ m + n ≤ 134217728
theorem MulOk.ok {i j : Int} (h : MulOk i j) : IntMulOk i j := by
  obtain ⟨m, n, h1, h2, h3⟩ := h
  exact PySem.IntMulOk.of_le h1.bits h2.bits h3
section
variable {X : Cx}
/-- // by any number but nought: the frames have room for _pylong, and nobody sees it -/
theorem op_fdivX {k : Nat} (hr : Room k X.A) (hT : X.prog.given.tree = none) (hk : 32 ≤ k := by decide)
    (hst : ∃ (env : Env) (l : List Env), X.stack = env :: l ∧ env.scope.isGenerator = false ∧ env.scope.isCoroutine = false ∧ env.builtins = builtinsNs ∧ env.globals = mainGlobals := by exact ⟨_, _, rfl, rfl, rfl, rfl, rfl⟩) :
    OpR X (binaryOp .FloorDiv) (rI (fun _ j => j ≠ 0) fun i j => .int (i.fdiv j)) := by
  intro pins s σ H x y v u Q I rx ry h
  obtain ⟨i, j, rfl, rfl, hc, q⟩ := h
  obtain ⟨t, rfl⟩ := rx
  obtain ⟨t', rfl⟩ := ry
  obtain ⟨env, l, e1, e2, e3, e4, e5⟩ := hst
  have hd : X.A.depth + Builtin.pylongFrames < recursionLimit := by
    have := hr.dp
    have e : Builtin.pylongFrames ≤ 101 := by decide
    lia
  refine floordiv_int hc ⟨.int (i.fdiv j), H, I.tok _, ⟨_, rfl⟩, q⟩ (.inr (PySem.PylongRoom.of I.nolimit hd (PySem.SeerAt.of (I.ok.mod.seer.keeps I.bk) hT (by rw [I.ok.frames, e1]) e2 e3 e4 e5)))
end

/-! ### a def of the text, as a caller takes it -/
structure Fd (P : Program) (w : World) (K : PySem.W.Frag) (mg : Str → Option Value) (base : Heap) (n : Nat) (x : Str) (ps : List Str) (sp : Sp) : Prop where
  ex : ∃ (f : Addr) (fd : FuncData), FnOk P w K mg base CX0 n f fd ps sp ∧ Binds K fd ps [] ∧ PySem.W.keepIn K (.ref f) = true ∧ mg x = some (.ref f)
theorem pe_fn {X : Cx} {n k : Nat} {x : Str} {ps : List Str} {sp : Sp} {e : Expr} {es : List Expr} {t : TA} {p pos : Pos} (F : Fd X.prog X.w X.K X.mg X.base n x ps sp) (hr : Room k X.A) (hg : Gl X x) (ha : PA X (e :: es) t) (hn : n ≤ k := by decide)
    (hdb : (x == ("__debug__" : Str)) = false := by decide) (he : starEach (e :: es) X.env = (false, eval e X.env) :: starEach es X.env := by rfl) (hpl : (backTo pos (starEach es X.env)).any (·.1) = false := by rfl) :
    PE X (.Call (.Name x p) (e :: es) [] pos) (tCall sp [] E0 t) := by
  obtain ⟨f, fd, F1, F2, F3, F4⟩ := F.ex
  exact pe_call F1 (hr.mono hn) hg F4 F3 F2 .nil pass0 ha hdb he hpl
theorem pe_fn0 {X : Cx} {n k : Nat} {x : Str} {ps : List Str} {sp : Sp} {p pos : Pos} (F : Fd X.prog X.w X.K X.mg X.base n x ps sp) (hr : Room k X.A) (hg : Gl X x) (hn : n ≤ k := by decide)
    (hdb : (x == ("__debug__" : Str)) = false := by decide) : PE X (.Call (.Name x p) [] [] pos) (tCall sp [] E0 tNil) := by
  obtain ⟨f, fd, F1, F2, F3, F4⟩ := F.ex
  exact pe_call0 F1 (hr.mono hn) hg F4 F3 F2 .nil pass0 hdb
/-! ### == and != of things with things in them -/
/-- what stands at a value, all the way down -/
inductive Rds (K : PySem.W.Frag) (H : Hp) : V → PyData → Prop where
  | non : Rds K H .non .none
  | bl (b : Bool) : Rds K H (.bl b) (.bool b)
  | int (i : Int) : Rds K H (.int i) (.int i)
  | str (x : Str) : Rds K H (.str x) (.str x)
  | lst {a : Addr} {xs : List V} {ds : List PyData} : SqL K H a xs → xs.length = ds.length → (∀ (i : Nat) x d, xs[i]? = some x → ds[i]? = some d → Rds K H x d) → Rds K H (.ref a) (.list ds)
  | tup {a : Addr} {xs : List V} {ds : List PyData} : SqT K H a xs → xs.length = ds.length → (∀ (i : Nat) x d, xs[i]? = some x → ds[i]? = some d → Rds K H x d) → Rds K H (.ref a) (.tuple ds)
theorem readsAll_of {h : Heap} : ∀ {us : List Value} {xs : List V} {ds : List PyData}, Vals xs us → xs.length = ds.length → (∀ (i : Nat) x d u, xs[i]? = some x → ds[i]? = some d → RelV x u → ∃ as, Reads h u d as) → ∃ as, ReadsAll h us ds as
  | [], _, [], .nil, _, _ => ⟨[], .nil⟩
  | [], _, _ :: _, .nil, hl, _ => by simp at hl
  | _ :: _, _, [], .cons _ _, hl, _ => by simp at hl
  | u :: us, x :: xs, d :: ds, .cons r t, hl, hr => by
    obtain ⟨a1, r1⟩ := hr 0 x d u rfl rfl r
    obtain ⟨a2, r2⟩ := readsAll_of (us := us) (xs := xs) (ds := ds) t (by simpa using hl) fun i x' d' u' e1 e2 q => hr (i + 1) x' d' u' (by simpa using e1) (by simpa using e2) q
    exact ⟨_, .cons r1 r2⟩
theorem reads_of {X : Cx} {pins : List (Addr × Obj)} {σ : St} {H : Hp} {s : Shared} (I : Inv X pins σ H s) {x : V} {d : PyData} (r : Rds X.K H x d) : ∀ {u : Value}, RelV x u → ∃ as, Reads s.heap u d as := by
  induction r with
  | non => intro u ru; cases ru; exact ⟨_, .none⟩
  | bl b => intro u ru; cases ru; exact ⟨_, .bool b⟩
  | int i => intro u ru; obtain ⟨t, rfl⟩ := ru; exact ⟨_, .int i t⟩
  | str z => intro u ru; obtain ⟨t, rfl⟩ := ru; exact ⟨_, .str z t⟩
  | lst q hl _ ih =>
    intro u ru
    cases ru
    obtain ⟨its, rv, ⟨o, n, e, c, _, dd⟩, _⟩ := I.list q
    obtain ⟨as, ra⟩ := readsAll_of rv hl fun i x d u e1 e2 rr => ih i x d e1 e2 rr
    exact ⟨_, .list e c dd (by simpa using ra)⟩
  | tup q hl _ ih =>
    intro u ru
    cases ru
    obtain ⟨its, rv, ⟨o, e, c, n, dd⟩, _⟩ := I.tuple q
    obtain ⟨as, ra⟩ := readsAll_of rv hl fun i x d u e1 e2 rr => ih i x d e1 e2 rr
    exact ⟨_, .tuple e c dd (by simpa using ra)⟩
section
variable {X : Cx}
@[irreducible] def rEqD (K : PySem.W.Frag) (neg : Bool) : R2 := fun x y H Q => ∃ d e, Rds K H x d ∧ Rds K H y e ∧ SeqAt.shaped d = true ∧ SeqAt.shaped e = true ∧ Q (.bl (if neg then !PyData.eqv d e else PyData.eqv d e)) H
theorem eqD_of {K : PySem.W.Frag} {neg : Bool} {x y : V} {H : Hp} {Q : VK} (h : ∃ d e, Rds K H x d ∧ Rds K H y e ∧ SeqAt.shaped d = true ∧ SeqAt.shaped e = true ∧ Q (.bl (if neg then !PyData.eqv d e else PyData.eqv d e)) H) : rEqD K neg x y H Q := by
  unfold rEqD; exact h
theorem op_eqD (hu : X.A.units + 64 < cLine) : OpR X (compareOp .Eq) (rEqD X.K false) := by
  intro pins s σ H x y v u Q I rx ry h
  unfold rEqD at h
  obtain ⟨d, e, r1, r2, h1, h2, q⟩ := h
  obtain ⟨as, q1⟩ := reads_of I r1 rx
  obtain ⟨bs, q2⟩ := reads_of I r2 ry
  exact SeqAt.compareEq_shaped q1 q2 h1 h2 hu ⟨.bl _, H, I, rfl, q⟩
theorem op_neD (hu : X.A.units + 64 < cLine) : OpR X (compareOp .NotEq) (rEqD X.K true) := by
  intro pins s σ H x y v u Q I rx ry h
  unfold rEqD at h
  obtain ⟨d, e, r1, r2, h1, h2, q⟩ := h
  obtain ⟨as, q1⟩ := reads_of I r1 rx
  obtain ⟨bs, q2⟩ := reads_of I r2 ry
  exact SeqAt.compareNe_shaped q1 q2 h1 h2 hu ⟨.bl _, H, I, rfl, q⟩
end

/-! ### {} -/
end L2

/-! own layer, part 4: names of built-ins, a small ledger, numbers -/
namespace L2
open PySem PySem.Spec PyProof.Rows
theorem bt_len : bootBuiltins "len" = some (.builtin "len") := by decide +kernel
theorem bt_abs : bootBuiltins "abs" = some (.builtin "abs") := by decide +kernel
theorem bt_isinstance : bootBuiltins "isinstance" = some (.builtin "isinstance") := by decide +kernel
theorem bt_all : bootBuiltins "all" = some (.builtin "all") := by decide +kernel
theorem bt_list : bootBuiltins "list" = some (.type "list") := by decide +kernel
theorem bt_tuple : bootBuiltins "tuple" = some (.type "tuple") := by decide +kernel
theorem bt_int : bootBuiltins "int" = some (.type "int") := by decide +kernel
theorem bt_bool : bootBuiltins "bool" = some (.type "bool") := by decide +kernel
/-! ### a small ledger: what stands where -/
def Fx (H : Hp) (L : List (Addr × HO)) : Prop := ∀ p ∈ L, H p.1 = some p.2
/-- all but a stays as it was; there may be more -/
def Mv (a : Addr) (H H' : Hp) : Prop := ∀ b o, b ≠ a → H b = some o → H' b = some o
theorem Mv.trans {a : Addr} {H H1 H2 : Hp} (x : Mv a H H1) (y : Mv a H1 H2) : Mv a H H2 := fun b o n h => y b o n (x b o n h)
theorem Mv.new {a p : Addr} {H : Hp} {o : HO} (h : H p = none) : Mv a H (upd H p o) := fun b u _ q => by rw [upd_ne (ne_of_none q h)]; exact q
/-- an item of a list of ints -/
theorem at_ints {ns : List Int} {k : Int} (h0 : 0 ≤ k) (h : k < (ns.length : Int)) : ∃ v : Int, atI (ns.map V.int) k = some (.int v) := by
  have hk : k.toNat < ns.length := by lia
  have ek : k = ((k.toNat : Nat) : Int) := by lia
  have q : atI (ns.map V.int) ((k.toNat : Nat) : Int) = some (.int ns[k.toNat]) := atI_nat (by rw [List.getElem?_map, List.getElem?_eq_getElem hk] <;> rfl)
  rw [← ek] at q
  exact ⟨_, q⟩

/-! ### a number -/
def nT (q : Rat) : HO := .tup [.int q.num, .int q.den]
/-- the pen of the draws -/
def Pen (H : Hp) (a : Addr) : Prop := ∃ c0 c1 c2 : Int, H a = some (.lst [.int c0, .int c1, .int c2])
theorem Pen.same {H : Hp} {a p : Addr} {o : HO} (x : Pen H a) (h : H p = none) : Pen (upd H p o) a := by
  obtain ⟨c0, c1, c2, e⟩ := x
  exact ⟨c0, c1, c2, by rw [upd_ne (ne_of_none e h)]; exact e⟩
theorem Pen.put {H : Hp} {a : Addr} {c0 c1 c2 : Int} : Pen (upd H a (.lst [.int c0, .int c1, .int c2])) a := ⟨c0, c1, c2, upd_same⟩

/-- a product: one factor is small, or both are of known size -/
def MulC (i j : Int) : Prop := (-(2 ^ 64) < i ∧ i < 2 ^ 64) ∨ (-(2 ^ 64) < j ∧ j < 2 ^ 64) ∨ MulOk i j
theorem MulC.ok {i j : Int} (h : MulC i j) : IntMulOk i j := by
  rcases h with ⟨h1, h2⟩ | ⟨h1, h2⟩ | h
  · exact .of_left (intBits_le_64 h1 h2)
  · exact .of_right (intBits_le_64 h1 h2)
  · exact h.ok
theorem op_mulC {X : Cx} : OpR X (binaryOp .Mult) (rI MulC fun i j => .int (i * j)) := opI fun _ _ _ _ _ _ _ hc q => mul_int q hc.ok

/-- a alone has changed -/
def OnlyAt (a : Addr) (H H' : Hp) : Prop := ∀ b, b ≠ a → H' b = H b
theorem OnlyAt.mv {a : Addr} {H H' : Hp} (x : OnlyAt a H H') : Mv a H H' := fun b o n h => by rw [x b n]; exact h
theorem OnlyAt.put {a : Addr} {H : Hp} {o : HO} : OnlyAt a H (upd H a o) := fun b n => upd_ne n
theorem Pen.ne {H : Hp} {a p : Addr} {o : HO} (x : Pen H a) (h : H p = some o) (hd : ∀ c0 c1 c2 : Int, o ≠ .lst [.int c0, .int c1, .int c2]) : p ≠ a := by
  obtain ⟨c0, c1, c2, e⟩ := x
  exact ne_of h e (hd c0 c1 c2)
/-- a pen and what else stands -/
structure Lg (a : Addr) (H : Hp) (L : List (Addr × HO)) : Prop where
  fx : Fx H L
  ne : ∀ x ∈ L, x.1 ≠ a
  pen : Pen H a
/-- an item of a written list of ints -/
theorem at_menu {xs : List Int} {i : Int} (h0 : 0 ≤ i) (h : i < (xs.length : Int)) : ∃ v : Int, atI (xs.map V.int) i = some (.int v) ∧ v ∈ xs := by
  have hk : i.toNat < xs.length := by lia
  have ek : i = ((i.toNat : Nat) : Int) := by lia
  have q : atI (xs.map V.int) ((i.toNat : Nat) : Int) = some (.int xs[i.toNat]) := atI_nat (by rw [List.getElem?_map, List.getElem?_eq_getElem hk] <;> rfl)
  rw [← ek] at q
  exact ⟨_, q, List.getElem_mem hk⟩

/-- what the promises of the draws' defs say -/
inductive spDraw (vs : List V) (H : Hp) (Q : VK) (E_3 : XK) : Prop
  | mk (a : Addr) (m : Int) (h1 : vs = [.ref a, .int m]) (h2 : Pen H a) (h3 : 1 ≤ m) (h4 : m < 1073741824) (h5 : ∀ (d : Int) (H' : Hp), 0 ≤ d → d < m → OnlyAt a H H' → Pen H' a → Q (.int d) H') : spDraw vs H Q E_3
inductive spPen (K : PySem.W.Frag) (vs : List V) (H : Hp) (Q : VK) (E_3 : XK) : Prop
  | mk (a : Addr) (ns : List Int) (k : Int) (h1 : vs = [.ref a, .int k]) (h2 : SqL K H a (ns.map V.int)) (h3 : ns.length ≤ 63) (h4 : 0 ≤ k) (h5 : k < 2 ^ 62) (h6 : ∀ (p : Addr) (c0 c1 : Int), H p = none → Q (.ref p) (upd H p (.lst [.int c0, .int c1, .int 0]))) : spPen K vs H Q E_3
inductive spLow (vs : List V) (H : Hp) (Q : VK) (E_3 : XK) : Prop
  | mk (t b : Int) (h1 : vs = [.int t, .int b]) (h2 : b ≠ 0) (h3 : ∀ p, H p = none → Q (.ref p) (upd H p (nT (Rat.divInt t b)))) : spLow vs H Q E_3
inductive spGcd (vs : List V) (H : Hp) (Q : VK) (E_3 : XK) : Prop
  | mk (a b : Int) (h1 : vs = [.int a, .int b]) (h2 : Q (.int (Int.gcd a b)) H) : spGcd vs H Q E_3
/-- a drawn number: its top and bottom are of at most n bits -/
inductive spNum (n : Nat) (vs : List V) (H : Hp) (Q : VK) (E_3 : XK) : Prop
  | mk (a : _) (h1 : vs = [.ref a]) (h2 : Pen H a) (h3 : ∀ (q : Rat) (r : Addr) (H' : Hp), Mv a H H' → Pen H' a → H' r = some (nT q) → Bd n q.num → Bd n q.den → Q (.ref r) H') : spNum n vs H Q E_3
inductive spLaw (K : PySem.W.Frag) (vs : List V) (H : Hp) (Q : VK) (E_3 : XK) : Prop
  | mk (a : Addr) (ns : List Int) (h1 : vs = [.ref a]) (h2 : SqL K H a (ns.map V.int)) (h3 : ns.length ≤ 63) (h4 : ∀ H', Q (.bl true) H') : spLaw K vs H Q E_3
/-- the int in slot i, as a measure -/
def mu (i : Nat) (σ : St) : Nat := match σ[i]? with | some (some (.int y)) => y.toNat | _ => 0

theorem Bd.mono {m n : Nat} {x : Int} (h : Bd m x) (hmn : m ≤ n) : Bd n x := Nat.lt_of_lt_of_le h (Nat.pow_le_pow_right (by decide) hmn)
theorem Bd.num {n : Nat} {t b : Int} (h : Bd n t) : Bd n (Rat.divInt t b).num := by
  unfold Bd at *
  by_cases hb : b = 0
  · subst hb; simp; exact Nat.pos_of_ne_zero (by simp)
  · rw [← Nm.top_msr hb]
    exact Nat.lt_of_le_of_lt (PySem.natAbs_fdiv_le t _) h
theorem Bd.den {n : Nat} {t b : Int} (hb : b ≠ 0) (h : Bd n b) : Bd n (Rat.divInt t b).den := by
  unfold Bd at *
  rw [← Nm.bottom_msr hb]
  exact Nat.lt_of_le_of_lt (PySem.natAbs_fdiv_le b _) h
end L2

/-! own layer, part 5: more of what loops walk, all, lists of truths -/
namespace L2
open PySem PySem.Spec PyProof.Rows
/-! ### reversed(a list) -/
section
variable {X : Cx} {tg : Expr}
end
/-! ### all of a list of truths -/
theorem call_allB {X : Cx} (hc : X.calm = true) : CallR X (.builtin "all") (fun xs H Q => ∃ (a : Addr) (bs : List Bool), xs = [.ref a] ∧ SqL X.K H a (bs.map V.bl) ∧ Q (.bl (bs.all id)) H) := by
  intro pins s σ H xs us Q I r h
  obtain ⟨a, bs, rfl, hq, q⟩ := h
  obtain ⟨u, rfl, rfl⟩ := vals1 r
  obtain ⟨its, rv, p, hz⟩ := I.list hq
  have hl := rv.length
  rw [List.length_map] at hl
  have hlt : a < s.heap.objs.size := by obtain ⟨_, e, _⟩ := p.isList; exact Heap.lt_size e
  refine call_all_walk (wpAny_pyIter_list p.isList ?_)
  refine ⟨s.heap.objs.size, [s.heap.objs.size, a], [s.heap.objs.size], its.toArray.size, _, _, fun i => (bs[i]?).getD true, rfl, Walks.list (A := X.A.in1) (I.ok.hd hc) _ a (Nat.ne_of_lt hlt) its.toArray,
    ⟨⟨_, Heap.get?_push_size _ rfl, rfl, rfl⟩, p.isList.push _⟩, fun i v s' Q' E' hP hQ => ?_, fun h' tk hk => ?_⟩
  · have hP' : its[i]? = some v := by simpa using hP
    have hi : i < bs.length := by rw [hl]; exact (List.getElem?_eq_some_iff.mp hP').1
    obtain ⟨u', hu', ru⟩ := rv.get (i := i) (x := .bl bs[i]) (by rw [List.getElem?_map, List.getElem?_eq_getElem hi]; rfl)
    rw [hP'] at hu'
    cases hu'
    cases ru
    dsimp only at hQ
    rw [List.getElem?_eq_getElem hi, Option.getD_some] at hQ
    exact wpAny_truthy_bool hQ
  · have e : ((List.range its.toArray.size).all fun i => (bs[i]?).getD true) = bs.all id := by
      rw [List.size_toArray, ← hl, Bool.eq_iff_iff, List.all_eq_true, List.all_eq_true]
      constructor
      · intro z b hb
        obtain ⟨i, hi, rfl⟩ := List.getElem_of_mem hb
        have := z i (List.mem_range.mpr hi)
        rw [List.getElem?_eq_getElem hi, Option.getD_some] at this
        exact this
      · intro z i hi
        have hi' := List.mem_range.mp hi
        rw [List.getElem?_eq_getElem hi', Option.getD_some]
        exact z _ (List.getElem_mem hi')
    rw [e]
    exact ⟨.bl _, H, I.kept (fun b o e => hk b o (fun hm => by rw [List.mem_singleton.mp hm] at e; exact Nat.lt_irrefl _ (Heap.lt_size e)) (Heap.get?_push_of_some _ e)), rfl, q⟩
end L2

/-! own layer, part 6: numbers and curves on the heap -/
namespace L2
open PySem PySem.Spec PyProof.Rows
theorem SqT.same {K : PySem.W.Frag} {H H' : Hp} {a : Addr} {xs : List V} (h : SqT K H a xs) (e : Same H H') : SqT K H' a xs := by
  rcases h with (h | ⟨o, h⟩) | h
  · exact .inl (.inl (e _ _ h))
  · exact .inl (.inr ⟨o, e _ _ h⟩)
  · exact .inr h
theorem Same.new {H : Hp} {p : Addr} {o : HO} (h : H p = none) : Same H (upd H p o) := fun b u q => by rw [upd_ne (ne_of_none q h)]; exact q
theorem Same.mv {H H' : Hp} {a : Addr} (h : Same H H') : Mv a H H' := fun b o _ q => h b o q

/-! ### pairs of lists -/
theorem Paired.get {α β : Type} {F : α → β → Prop} : ∀ {l₁ : List α} {l₂ : List β} {i : Nat} {a : α}, Paired F l₁ l₂ → l₁[i]? = some a → ∃ b, l₂[i]? = some b ∧ F a b
  | _, _, _, _, .nil, e => by simp at e
  | _, _, 0, _, .cons h _, e => by simp at e; subst e; exact ⟨_, rfl, h⟩
  | _, _, i + 1, _, .cons _ t, e => by
    obtain ⟨b, h1, h2⟩ := Paired.get (i := i) t (by simpa using e)
    exact ⟨b, by simpa using h1, h2⟩
theorem Paired.get' {α β : Type} {F : α → β → Prop} : ∀ {l₁ : List α} {l₂ : List β} {i : Nat} {b : β}, Paired F l₁ l₂ → l₂[i]? = some b → ∃ a, l₁[i]? = some a ∧ F a b
  | _, _, _, _, .nil, e => by simp at e
  | _, _, 0, _, .cons h _, e => by simp at e; subst e; exact ⟨_, rfl, h⟩
  | _, _, i + 1, _, .cons _ t, e => by
    obtain ⟨b, h1, h2⟩ := Paired.get' (i := i) t (by simpa using e)
    exact ⟨b, by simpa using h1, h2⟩
theorem Paired.take {α β : Type} {F : α → β → Prop} : ∀ {l₁ : List α} {l₂ : List β} (n : Nat), Paired F l₁ l₂ → Paired F (l₁.take n) (l₂.take n)
  | _, _, 0, _ => by simp; exact .nil
  | _, _, _ + 1, .nil => .nil
  | _, _, n + 1, .cons h t => .cons h (Paired.take n t)
theorem Paired.append {α β : Type} {F : α → β → Prop} {l₁ l₁' : List α} {l₂ l₂' : List β} (a : Paired F l₁ l₂) (b : Paired F l₁' l₂') : Paired F (l₁ ++ l₁') (l₂ ++ l₂') := by
  induction a with
  | nil => exact b
  | cons h t ih => exact .cons h ih
theorem Paired.set {α β : Type} {F : α → β → Prop} {a : α} {b : β} (q : F a b) : ∀ {l₁ : List α} {l₂ : List β} (i : Nat), Paired F l₁ l₂ → Paired F (l₁.set i a) (l₂.set i b)
  | _, _, _, .nil => .nil
  | _, _, 0, .cons _ t => .cons q t
  | _, _, i + 1, .cons h t => .cons h (Paired.set q i t)

/-! ### a number, numbers -/
def NumV (K : PySem.W.Frag) (H : Hp) (x : V) (q : Rat) : Prop := ∃ r, x = .ref r ∧ SqT K H r [.int q.num, .int q.den]
abbrev Nums (K : PySem.W.Frag) (H : Hp) : List V → List Rat → Prop := Paired (NumV K H)
theorem NumV.of {K : PySem.W.Frag} {H : Hp} {r : Addr} {q : Rat} (h : H r = some (nT q)) : NumV K H (.ref r) q := ⟨r, rfl, SqT.of h⟩
theorem NumV.same {K : PySem.W.Frag} {H H' : Hp} {x : V} {q : Rat} (h : NumV K H x q) (e : Same H H') : NumV K H' x q := by
  obtain ⟨r, rfl, h⟩ := h
  exact ⟨r, rfl, h.same e⟩
theorem Nums.same {K : PySem.W.Frag} {H H' : Hp} {xs : List V} {qs : List Rat} (h : Nums K H xs qs) (e : Same H H') : Nums K H' xs qs := Paired.mapP h fun _ _ z => z.same e
/-- a pen changes, numbers stay -/
theorem SqT.mv {K : PySem.W.Frag} {H H' : Hp} {a p : Addr} {xs : List V} (h : SqT K H a xs) (pn : Pen H p) (m : Mv p H H') : SqT K H' a xs := by
  obtain ⟨c0, c1, c2, e⟩ := pn
  rcases h with (h | ⟨o, h⟩) | h
  · exact .inl (.inl (m _ _ (ne_of h e (fun z => by cases z)) h))
  · exact .inl (.inr ⟨o, m _ _ (ne_of h e (fun z => by cases z)) h⟩)
  · exact .inr h
theorem NumV.mv {K : PySem.W.Frag} {H H' : Hp} {x : V} {q : Rat} {p : Addr} (h : NumV K H x q) (pn : Pen H p) (m : Mv p H H') : NumV K H' x q := by
  obtain ⟨r, rfl, h⟩ := h
  exact ⟨r, rfl, h.mv pn m⟩
theorem Nums.mv {K : PySem.W.Frag} {H H' : Hp} {xs : List V} {qs : List Rat} {p : Addr} (h : Nums K H xs qs) (pn : Pen H p) (m : Mv p H H') : Nums K H' xs qs := Paired.mapP h fun _ _ z => z.mv pn m
/-- a list is written, numbers stay -/
theorem SqT.put {K : PySem.W.Frag} {H : Hp} {a p : Addr} {xs ys : List V} {o : HO} (h : SqT K H a xs) (hp : H p = some (.lst ys)) : SqT K (upd H p o) a xs := by
  rcases h with (h | ⟨u, h⟩) | h
  · exact .inl (.inl (by rw [upd_ne (ne_of h hp (fun z => by cases z))]; exact h))
  · exact .inl (.inr ⟨u, by rw [upd_ne (ne_of h hp (fun z => by cases z))]; exact h⟩)
  · exact .inr h
theorem NumV.put {K : PySem.W.Frag} {H : Hp} {x : V} {q : Rat} {p : Addr} {ys : List V} {o : HO} (h : NumV K H x q) (hp : H p = some (.lst ys)) : NumV K (upd H p o) x q := by
  obtain ⟨r, rfl, h⟩ := h
  exact ⟨r, rfl, h.put hp⟩
theorem Nums.put {K : PySem.W.Frag} {H : Hp} {xs : List V} {qs : List Rat} {p : Addr} {ys : List V} {o : HO} (h : Nums K H xs qs) (hp : H p = some (.lst ys)) : Nums K (upd H p o) xs qs := Paired.mapP h fun _ _ z => z.put hp
/-- a tuple of numbers; a list of numbers -/
def Crv (K : PySem.W.Frag) (H : Hp) (r : Addr) (qs : List Rat) : Prop := ∃ xs, SqT K H r xs ∧ Nums K H xs qs
theorem Crv.same {K : PySem.W.Frag} {H H' : Hp} {r : Addr} {qs : List Rat} (h : Crv K H r qs) (e : Same H H') : Crv K H' r qs := let ⟨xs, a, b⟩ := h; ⟨xs, a.same e, b.same e⟩
theorem Crv.mv {K : PySem.W.Frag} {H H' : Hp} {r p : Addr} {qs : List Rat} (h : Crv K H r qs) (pn : Pen H p) (m : Mv p H H') : Crv K H' r qs := let ⟨xs, a, b⟩ := h; ⟨xs, a.mv pn m, b.mv pn m⟩
/-! ### == of numbers, of lists and tuples of numbers -/
def nD (q : Rat) : PyData := .tuple [.int q.num, .int q.den]
theorem NumV.rds {K : PySem.W.Frag} {H : Hp} {x : V} {q : Rat} (h : NumV K H x q) : Rds K H x (nD q) := by
  obtain ⟨r, rfl, h⟩ := h
  refine .tup h rfl fun i x d e1 e2 => ?_
  match i with
  | 0 => simp at e1 e2; subst e1; subst e2; exact .int _
  | 1 => simp at e1 e2; subst e1; subst e2; exact .int _
  | i + 2 => simp at e1
theorem nD_eqv (p q : Rat) : PyData.eqv (nD p) (nD q) = decide (p = q) := by
  show (p.num == q.num && (((p.den : Int) == (q.den : Int)) && true)) = _
  rw [Bool.and_true, Bool.eq_iff_iff]
  simp only [Bool.and_eq_true, beq_iff_eq, decide_eq_true_eq]
  constructor
  · rintro ⟨h1, h2⟩
    exact Rat.ext h1 (Int.ofNat.inj h2)
  · rintro rfl
    exact ⟨rfl, rfl⟩
theorem nDs_eqv : ∀ ps qs : List Rat, PyData.eqvAll (ps.map nD) (qs.map nD) = decide (ps = qs)
  | [], [] => rfl
  | [], _ :: _ => rfl
  | _ :: _, [] => rfl
  | p :: ps, q :: qs => by
    show (PyData.eqv (nD p) (nD q) && PyData.eqvAll (ps.map nD) (qs.map nD)) = _
    rw [nD_eqv, nDs_eqv ps qs, Bool.eq_iff_iff]
    simp
theorem nD_shaped (q : Rat) : SeqAt.shaped (nD q) = true := by rfl
theorem Nums.rds {K : PySem.W.Frag} {H : Hp} {xs : List V} {qs : List Rat} (h : Nums K H xs qs) : ∀ (i : Nat) x d, xs[i]? = some x → (qs.map nD)[i]? = some d → Rds K H x d := fun i x d e1 e2 => by
  obtain ⟨q, hq, hn⟩ := Paired.get h e1
  rw [List.getElem?_map, hq] at e2
  cases e2
  exact hn.rds
theorem Nums.rdsT {K : PySem.W.Frag} {H : Hp} {r : Addr} {xs : List V} {qs : List Rat} (h : Nums K H xs qs) (s : SqT K H r xs) : Rds K H (.ref r) (.tuple (qs.map nD)) := .tup s (by rw [h.length, List.length_map]) h.rds
theorem Nums.rdsL {K : PySem.W.Frag} {H : Hp} {r : Addr} {xs : List V} {qs : List Rat} (h : Nums K H xs qs) (s : SqL K H r xs) : Rds K H (.ref r) (.list (qs.map nD)) := .lst s (by rw [h.length, List.length_map]) h.rds
theorem nDs_lay : ∀ qs : List Rat, PyData.canLayAll0 (qs.map nD) = true
  | [] => rfl
  | q :: r => by
    show (PyData.canLay0 (nD q) && PyData.canLayAll0 (r.map nD)) = true
    rw [nDs_lay r]; rfl
theorem nDs_depth : ∀ qs : List Rat, PyData.depthAll (qs.map nD) ≤ 1
  | [] => Nat.zero_le _
  | q :: r => by
    have ih := nDs_depth r
    show max (PyData.depth (nD q)) (PyData.depthAll (r.map nD)) ≤ 1
    exact Nat.max_le.mpr ⟨Nat.le_refl _, ih⟩
theorem nDs_shL (qs : List Rat) : SeqAt.shaped (.list (qs.map nD)) = true := by
  show (PyData.canLayAll0 (qs.map nD) && decide (PyData.depthAll (qs.map nD) + 1 ≤ 64)) = true
  rw [nDs_lay, Bool.true_and]
  exact decide_eq_true (by have := nDs_depth qs; lia)
theorem nDs_shT (qs : List Rat) : SeqAt.shaped (.tuple (qs.map nD)) = true := nDs_shL qs
/-- == of two numbers, of two tuples, two lists of numbers, by their values -/
theorem eqN {K : PySem.W.Frag} {H : Hp} {x y : V} {p q : Rat} {Q : VK} {neg : Bool} (h1 : NumV K H x p) (h2 : NumV K H y q) (h : Q (.bl (if neg then !decide (p = q) else decide (p = q))) H) : rEqD K neg x y H Q :=
  eqD_of ⟨_, _, h1.rds, h2.rds, nD_shaped _, nD_shaped _, by rw [nD_eqv]; exact h⟩
theorem eqT {K : PySem.W.Frag} {H : Hp} {a b : Addr} {ps qs : List Rat} {Q : VK} {neg : Bool} (h1 : Crv K H a ps) (h2 : Crv K H b qs) (h : Q (.bl (if neg then !decide (ps = qs) else decide (ps = qs))) H) : rEqD K neg (.ref a) (.ref b) H Q := by
  obtain ⟨xs, s1, n1⟩ := h1
  obtain ⟨ys, s2, n2⟩ := h2
  refine eqD_of ⟨_, _, n1.rdsT s1, n2.rdsT s2, nDs_shT _, nDs_shT _, ?_⟩
  have e : PyData.eqv (.tuple (ps.map nD)) (.tuple (qs.map nD)) = decide (ps = qs) := nDs_eqv ps qs
  rw [e]; exact h
theorem eqL {K : PySem.W.Frag} {H : Hp} {a b : Addr} {xs ys : List V} {ps qs : List Rat} {Q : VK} {neg : Bool} (s1 : SqL K H a xs) (n1 : Nums K H xs ps) (s2 : SqL K H b ys) (n2 : Nums K H ys qs) (h : Q (.bl (if neg then !decide (ps = qs) else decide (ps = qs))) H) : rEqD K neg (.ref a) (.ref b) H Q := by
  refine eqD_of ⟨_, _, n1.rdsL s1, n2.rdsL s2, nDs_shL _, nDs_shL _, ?_⟩
  have e : PyData.eqv (.list (ps.map nD)) (.list (qs.map nD)) = decide (ps = qs) := nDs_eqv ps qs
  rw [e]; exact h

/-! ### a while, by what holds and a measure -/
theorem wh_by {c : TT} {tb : TS} {D : Ends} {σ : St} {H : Hp} (Pv : St → Hp → Prop) (μ : St → Hp → Nat) (h0 : Pv σ H)
    (hs : ∀ σ H, Pv σ H → c σ H fun b H1 => if b = true then ∃ N : St → Hp → Prop, (∀ σ' H', N σ' H' → ∃ m', m' < μ σ H ∧ (m' = μ σ' H' ∧ Pv σ' H')) ∧ tb { D with nx := N, ct := N, bk := D.nx } σ H1 else D.nx σ H1) : tWhile c tb D σ H := by
  refine ⟨fun m σ H => m = μ σ H ∧ Pv σ H, ⟨_, rfl, h0⟩, ?_⟩
  rintro m σ H ⟨rfl, p⟩
  exact hs σ H p
theorem wh_go {tb : TS} {D : Ends} {σ : St} {H1 : Hp} {m : Nat} {Pv : St → Hp → Prop} {μ : St → Hp → Nat}
    (h : tb { D with nx := fun σ' H' => Pv σ' H' ∧ μ σ' H' < m, ct := fun σ' H' => Pv σ' H' ∧ μ σ' H' < m, bk := D.nx } σ H1) :
    ∃ N : St → Hp → Prop, (∀ σ' H', N σ' H' → ∃ m', m' < m ∧ (m' = μ σ' H' ∧ Pv σ' H')) ∧ tb { D with nx := N, ct := N, bk := D.nx } σ H1 :=
  ⟨_, fun _ _ ⟨p, l⟩ => ⟨_, l, rfl, p⟩, h⟩

/-! ### sizes of numbers -/
def RB (n : Nat) (q : Rat) : Prop := Bd n q.num ∧ Bd n (q.den : Int)
theorem Bd.mul {m n : Nat} {x y : Int} (h1 : Bd m x) (h2 : Bd n y) : Bd (m + n) (x * y) := by
  unfold Bd at *
  rw [Int.natAbs_mul, Nat.pow_add]
  exact Nat.mul_lt_mul'' h1 h2
theorem Bd.add {n : Nat} {x y : Int} (h1 : Bd n x) (h2 : Bd n y) : Bd (n + 1) (x + y) := by
  unfold Bd at *
  rw [Nat.pow_succ, Nat.mul_two]
  exact Nat.lt_of_le_of_lt (Int.natAbs_add_le x y) (Nat.add_lt_add h1 h2)
theorem Bd.sub {n : Nat} {x y : Int} (h1 : Bd n x) (h2 : Bd n y) : Bd (n + 1) (x - y) := by
  rw [Int.sub_eq_add_neg]
  exact Bd.add h1 (by unfold Bd; rw [Int.natAbs_neg]; exact h2)
theorem Bd.fdiv {n : Nat} {x y : Int} (h : Bd n x) : Bd n (x.fdiv y) := Nat.lt_of_le_of_lt (PySem.natAbs_fdiv_le x y) h
theorem MulC.bd {m n : Nat} {x y : Int} (h1 : Bd m x) (h2 : Bd n y) (h : m + n ≤ 134217728 := by lia) : MulC x y := .inr (.inr ⟨m, n, h1, h2, h⟩)
theorem RB.mono {m n : Nat} {q : Rat} (h : RB m q) (hmn : m ≤ n) : RB n q := ⟨h.1.mono hmn, h.2.mono hmn⟩
theorem RB.div {m n : Nat} {t b : Int} (h1 : Bd n t) (h2 : Bd n b) (hb : b ≠ 0) : RB n (Rat.divInt t b) := ⟨Bd.num h1, Bd.den hb h2⟩
/-- a tuple that the module holds -/
theorem vals_abs : ∀ {us : List Value} {xs : List V}, us.map absV = xs.map some → (∀ u ∈ us, ∀ x, absV u = some x → RelV x u) → Vals xs us
  | [], [], _, _ => .nil
  | [], _ :: _, e, _ => by simp at e
  | _ :: _, [], e, _ => by simp at e
  | u :: us, x :: xs, e, h => by
    simp only [List.map_cons, List.cons.injEq] at e
    exact .cons (h u List.mem_cons_self x e.1) (vals_abs e.2 fun v hv => h v (List.mem_cons_of_mem _ hv))
theorem absV_rel {u : Value} {x : V} (h : absV u = some x) : RelV x u := by
  cases u <;> first | (cases h; rfl) | (cases h; exact ⟨_, rfl⟩) | cases h
theorem const_num {K : PySem.W.Frag} {H : Hp} {a : Addr} {o : Obj} {vs : Array Value} {n : Nat} {q : Rat} (hk : K.lookup a = some o) (hc : o.cls = .type "tuple") (hd : o.data = .seq vs n) (e : vs.toList.map absV = [some (.int q.num), some (.int (q.den : Int))]) : SqT K H a [.int q.num, .int q.den] := by
  refine .inr ⟨o, vs, n, hk, hc, hd, ?_, vals_abs e fun u _ x h => absV_rel h⟩
  have hl := congrArg List.length e
  simp at hl
  rw [hl]; decide
theorem RB.plus {m n : Nat} {p q : Rat} (h1 : RB m p) (h2 : RB n q) : RB (m + n + 1) (p + q) := by
  rw [← Nm.plus_eq]
  refine ⟨Bd.num (Bd.add (h1.1.mul h2.2) ((h2.1.mul h1.2).mono (by lia))), Bd.den (Int.mul_ne_zero (Nm.den_ne p) (Nm.den_ne q)) ((h1.2.mul h2.2).mono (by lia))⟩
theorem RB.times {m n : Nat} {p q : Rat} (h1 : RB m p) (h2 : RB n q) : RB (m + n) (p * q) := by
  rw [← Nm.times_eq]
  exact ⟨Bd.num (h1.1.mul h2.1), Bd.den (Int.mul_ne_zero (Nm.den_ne p) (Nm.den_ne q)) (h1.2.mul h2.2)⟩
theorem RB.zero {n : Nat} (h : 1 ≤ n) : RB n 0 := ⟨(show Bd 1 0 by unfold Bd; decide).mono h, (show Bd 1 1 by unfold Bd; decide).mono h⟩
theorem RB.one {n : Nat} (h : 1 ≤ n) : RB n 1 := ⟨(show Bd 1 1 by unfold Bd; decide).mono h, (show Bd 1 1 by unfold Bd; decide).mono h⟩
/-- sums, differences, products of two numbers, as the law's own defs and the program's -/
inductive spBin (K : PySem.W.Frag) (g : Rat → Rat → Rat) (vs : List V) (H : Hp) (Q : VK) (E_3 : XK) : Prop
  | mk (x y : V) (p q : Rat) (m n : Nat) (h1 : vs = [x, y]) (h2 : NumV K H x p) (h3 : NumV K H y q) (h4 : RB m p) (h5 : RB n q) (h6 : m + n ≤ 100000000) (h7 : ∀ r, H r = none → Q (.ref r) (upd H r (nT (g p q)))) : spBin K g vs H Q E_3
end L2

/-! own layer, part 7: loops and comprehensions over a list or a tuple -/
namespace L2
open PySem PySem.Spec PyProof.Rows
/-- a list (true) or a tuple (false) -/
def Sq (b : Bool) (K : PySem.W.Frag) (H : Hp) (a : Addr) (xs : List V) : Prop := match b with
  | true => SqL K H a xs
  | false => SqT K H a xs
theorem Sq.same {b : Bool} {K : PySem.W.Frag} {H H' : Hp} {a : Addr} {xs : List V} (h : Sq b K H a xs) (e : Same H H') : Sq b K H' a xs := by
  cases b
  · exact SqT.same h e
  · exact e.seq h
theorem pi_either {X : Cx} {tg l : Expr} {w1 w2 : TI} (h1 : PI X tg l w1) (h2 : PI X tg l w2) : PI X tg l (fun σ H R => w1 σ H R ∨ w2 σ H R) := fun pins s σ H R I h => by
  rcases h with h | h
  · exact h1 pins s σ H R I h
  · exact h2 pins s σ H R I h
abbrev iSeq (K : PySem.W.Frag) (tl : TE) : TI := fun σ H R => iList K tl σ H R ∨ iTup K tl σ H R
theorem for_seq {K : PySem.W.Frag} {b : Bool} {a : Addr} {n : Nat} {xs : List V} {g : TG} {tb : TS} {D : Ends} {σ : St} {H : Hp} (hσ : σ[n]? = some (some (.ref a))) (Pv : Nat → St → Hp → Prop) (h0 : Pv 0 σ H) (hl : ∀ i σ H, i ≤ xs.length → Pv i σ H → Sq b K H a xs)
    (hs : ∀ i x σ H, xs[i]? = some x → Pv i σ H → g x σ H fun σ2 H2 => tb { D with nx := Pv (i + 1), ct := Pv (i + 1), bk := D.nx } σ2 H2) (hd : ∀ σ H, Pv xs.length σ H → D.nx σ H) :
    tFor (iSeq K (tVar n)) g tb D σ H := by
  have q := hl 0 σ H (Nat.zero_le _) h0
  cases b with
  | true => exact .inl ⟨_, hσ, a, rfl, ⟨xs, q⟩, for_list Pv h0 hl hs hd⟩
  | false => exact .inr ⟨_, hσ, a, rfl, ⟨xs, q⟩, for_tup Pv h0 hl hs hd⟩
/-- [e for x in a list or tuple] -/
theorem lc_seq {K : PySem.W.Frag} {b : Bool} {a : Addr} {n : Nat} {js : List Nat} {xs : List V} {te : TE} {σ : St} {H : Hp} {Q : VK} (hσ : σ[n]? = some (some (.ref a))) (Pv : Nat → List V → Hp → Prop) (h0 : Pv 0 [] H)
    (hl : ∀ i zs H, i ≤ xs.length → Pv i zs H → Sq b K H a xs ∧ zs.length = i) (hz : xs.length ≤ sizeLine)
    (hs : ∀ i x zs H, xs[i]? = some x → Pv i zs H → te ((cS 1 js σ).set 0 (some x)) H fun y H4 => Pv (i + 1) (zs ++ [y]) H4) (fin : ∀ zs H', Pv xs.length zs H' → ∀ p, H' p = none → Q (.ref p) (upd H' p (.lst zs))) :
    tLC (iSeq K (tVar n)) 1 js (gName 0) tYes te σ H Q := by
  have q := (hl 0 [] H (Nat.zero_le _) h0).1
  cases b with
  | true =>
    refine lc_of (.inl ⟨_, hσ, a, rfl, ⟨xs, q⟩, xs.length, Pv, h0, ⟨?_, ?_, ?_⟩⟩)
    · intro i zs H' hi p
      have hle := Nat.le_of_lt hi
      obtain ⟨h1, h2⟩ := hl i zs H' hle p
      exact ⟨⟨xs, xs[i], h1, by simp [hi]⟩, by lia⟩
    · rintro i zs H' x H1 hi p ⟨rfl, y⟩
      have hle := Nat.le_of_lt hi
      have hx := y xs (hl i zs _ hle p).1
      exact hs i x zs _ hx p
    · intro zs H' p
      have hle := Nat.le_refl xs.length
      obtain ⟨h1, h2⟩ := hl _ zs H' hle p
      exact ⟨⟨xs, h1, Nat.le_refl _⟩, by lia, fin zs H' p⟩
  | false =>
    refine lc_of (.inr ⟨_, hσ, a, rfl, ⟨xs, q⟩, xs.length, Pv, h0, ⟨?_, ?_, ?_⟩⟩)
    · intro i zs H' hi p
      have hle := Nat.le_of_lt hi
      obtain ⟨h1, h2⟩ := hl i zs H' hle p
      exact ⟨⟨xs, xs[i], h1, by simp [hi]⟩, by lia⟩
    · rintro i zs H' x H1 hi p ⟨rfl, y⟩
      have hle := Nat.le_of_lt hi
      have hx := y xs (hl i zs _ hle p).1
      exact hs i x zs _ hx p
    · intro zs H' p
      have hle := Nat.le_refl xs.length
      obtain ⟨h1, h2⟩ := hl _ zs H' hle p
      exact ⟨⟨xs, h1, Nat.le_refl _⟩, by lia, fin zs H' p⟩

/-! ### the rules that name the written part, by its name -/
section
variable {X : Cx} (K : PySem.W.Frag)
theorem ixT (e : X.K = K := by rfl) : IxR X (rIxT K) := by subst e; exact ix_tup
theorem ixL (e : X.K = K := by rfl) : IxR X (rIxL K) := by subst e; exact ix_list
theorem eqD (hu : X.A.units + 64 < cLine) (e : X.K = K := by rfl) : OpR X (compareOp .Eq) (rEqD K false) := by subst e; exact op_eqD hu
theorem neD (hu : X.A.units + 64 < cLine) (e : X.K = K := by rfl) : OpR X (compareOp .NotEq) (rEqD K true) := by subst e; exact op_neD hu
theorem slL (e : X.K = K := by rfl) : SlR X (rSlL K) := by subst e; exact sl_list
/-- the type of a value: a tuple, a list also where it is the module's or known -/
inductive TyX (K : PySem.W.Frag) (H : Hp) : V → Value → Prop where
  | of {x : V} {t : Value} (h : TyOf K H x t) : TyX K H x t
  | tup {a : Addr} {xs : List V} (h : SqT K H a xs) : TyX K H (.ref a) (.type "tuple")
  | lst {a : Addr} {xs : List V} (h : SqL K H a xs) : TyX K H (.ref a) (.type "list")
inductive cIsi (xs : List V) (H : Hp) (Q : VK) : Prop
  | mk (x : _) (T : _) (t : _) (b : _) (h1 : xs = [x, .ty T]) (h2 : TyX K H x t) (h3 : PySem.W.kitOne K t (.type T) = some b) (h4 : Q (.bl b) H) : cIsi xs H Q
theorem isiK (e : X.K = K := by rfl) : CallR X (.builtin "isinstance") (cIsi K) := by
  subst e
  intro pins s σ H xs us Q I r h
  obtain ⟨x, T, t, b, rfl, ty, e, q⟩ := h
  obtain ⟨u, w', rfl, rx, rT⟩ := vals2 r
  cases rT
  cases ty with
  | of ty => exact isinst_ok I rx ty e fun tk => ⟨.bl b, H, I.tok _, rfl, q⟩
  | tup hq =>
    cases rx
    obtain ⟨its, rv, ⟨o, e1, c, _⟩, _⟩ := I.tuple hq
    exact PySem.W.kia_one PySem.W.kitx_tuple I.kIn ⟨o, e1, c⟩ e (fun z => nomatch z) fun tk => ⟨.bl b, H, I.tok _, rfl, q⟩
  | lst hq =>
    cases rx
    obtain ⟨its, rv, ⟨o, n, e1, c, _⟩, _⟩ := I.list hq
    exact PySem.W.kia_one PySem.W.kitx_list I.kIn ⟨o, e1, c⟩ e (fun z => nomatch z) fun tk => ⟨.bl b, H, I.tok _, rfl, q⟩
inductive cLen (xs : List V) (H : Hp) (Q : VK) : Prop
  | mk (p : _) (ys : _) (h1 : xs = [.ref p]) (h2 : (SqL K H p ys ∨ SqT K H p ys)) (h3 : Q (.int ys.length) H) : cLen xs H Q
theorem lenK (e : X.K = K := by rfl) : CallR X (.builtin "len") (cLen K) := by subst e; exact fun pins s σ H xs us Q I r ⟨p, ys, h1, h2, h3⟩ => call_len_seq pins s σ H xs us Q I r ⟨p, ys, h1, h2, h3⟩
inductive cList (xs : List V) (H : Hp) (Q : VK) : Prop
  | mk (p : _) (ys : _) (h1 : xs = [.ref p]) (h2 : (SqL K H p ys ∨ SqT K H p ys)) (h3 : ∀ l, H l = none → Q (.ref l) (upd H l (.lst ys))) : cList xs H Q
theorem listK (e : X.K = K := by rfl) : CallR X (.type "list") (cList K) := by subst e; exact fun pins s σ H xs us Q I r ⟨p, ys, h1, h2, h3⟩ => call_list_of pins s σ H xs us Q I r ⟨p, ys, h1, h2, h3⟩
inductive cTuple (xs : List V) (H : Hp) (Q : VK) : Prop
  | mk (p : _) (ys : _) (h1 : xs = [.ref p]) (h2 : ((SqL K H p ys ∧ ∀ l, H l = none → Q (.ref l) (upd H l (.tup ys))) ∨ (SqT K H p ys ∧ Q (.ref p) H))) : cTuple xs H Q
theorem tupleK (e : X.K = K := by rfl) : CallR X (.type "tuple") (cTuple K) := by subst e; exact fun pins s σ H xs us Q I r ⟨p, ys, h1, h2⟩ => call_tuple_of pins s σ H xs us Q I r ⟨p, ys, h1, h2⟩
inductive cAll (xs : List V) (H : Hp) (Q : VK) : Prop
  | mk (a : Addr) (bs : List Bool) (h1 : xs = [.ref a]) (h2 : SqL K H a (bs.map V.bl)) (h3 : Q (.bl (bs.all id)) H) : cAll xs H Q
theorem allB (hc : X.calm = true) (e : X.K = K := by rfl) : CallR X (.builtin "all") (cAll K) := by subst e; exact fun pins s σ H xs us Q I r ⟨a, bs, h1, h2, h3⟩ => call_allB hc pins s σ H xs us Q I r ⟨a, bs, h1, h2, h3⟩
variable {tg l : Expr} {tl : TE}
theorem piL (hl : PE X l tl) (e : X.K = K := by rfl) : PI X tg l (iList K tl) := by subst e; exact pi_list hl
theorem piS (hl : PE X l tl) (e : X.K = K := by rfl) : PI X tg l (iSeq K tl) := by subst e; exact pi_either (pi_list hl) (pi_tup hl)
theorem pgT {es : List Expr} {k : Nat} {t : TGs} {n : Nat} {pos : Pos} (hc : X.calm = true) (h : PGs X es t) (hn : (assignEach es X.env).length = n := by rfl) (hst : (assignEach es X.env).findIdx? (·.1) = none := by rfl) (e : X.K = K := by rfl) : PG X (.Tuple es k pos) (gTup K n t) := by subst e; exact pg_tup hc h hn hst
end
/-- the height at a place, number by number -/
inductive spAt (K : PySem.W.Frag) (vs : List V) (H : Hp) (Q : VK) (E_3 : XK) : Prop
  | mk (b : Bool) (r rx : Addr) (xs : List V) (qs : List Rat) (x : Rat) (n : Nat) (h1 : vs = [.ref r, .ref rx]) (h2 : Sq b K H r xs) (h3 : Nums K H xs qs) (h4 : NumV K H (.ref rx) x) (h5 : (∀ q ∈ qs, RB n q)) (h6 : RB n x) (h7 : (n + 2) * ((qs.length + 2) * (qs.length + 2)) ≤ 30000000) (h8 : ∀ p H', Same H H' → H' p = some (nT (Cv.ev qs x)) → RB ((n + 2) * ((qs.length + 2) * (qs.length + 2))) (Cv.ev qs x) → Q (.ref p) H') : spAt K vs H Q E_3
end L2

/-! own layer, part 8: what is a whole number, a number, a curve; comprehensions over a range -/
namespace L2
open PySem PySem.Spec PyProof.Rows
inductive Whole (K : PySem.W.Frag) (H : Hp) : V → Bool → Prop where
  | int (i : Int) : Whole K H (.int i) true
  | bl (b : Bool) : Whole K H (.bl b) false
  | oth {x : V} {t : Value} (ty : TyX K H x t) (h : PySem.W.kitOne K t (.type "int") = some false) : Whole K H x false
inductive spWhole (K : PySem.W.Frag) (vs : List V) (H : Hp) (Q : VK) (E_3 : XK) : Prop
  | mk (x : _) (b : _) (h1 : vs = [x]) (h2 : Whole K H x b) (h3 : Q (.bl b) H) : spWhole K vs H Q E_3
theorem kit_ii (K : PySem.W.Frag) : PySem.W.kitOne K (.type "int") (.type "int") = some true := by kernel_rfl
theorem kit_ib (K : PySem.W.Frag) : PySem.W.kitOne K (.type "int") (.type "bool") = some false := by kernel_rfl
theorem kit_bi (K : PySem.W.Frag) : PySem.W.kitOne K (.type "bool") (.type "int") = some true := by kernel_rfl
theorem kit_bb (K : PySem.W.Frag) : PySem.W.kitOne K (.type "bool") (.type "bool") = some true := by kernel_rfl
theorem kit_tt (K : PySem.W.Frag) : PySem.W.kitOne K (.type "tuple") (.type "tuple") = some true := by kernel_rfl
theorem lc_itr {lo : Int} {n : Nat} {js : List Nat} {te : TE} {σ : St} {H : Hp} {Fin : List V → Hp → Prop} (Pv : Nat → List V → Hp → Prop) (h0 : Pv 0 [] H) (hl : ∀ i zs H, i ≤ n → Pv i zs H → zs.length = i) (hz : n ≤ sizeLine)
    (hs : ∀ i zs H, i < n → Pv i zs H → te ((cS 1 js σ).set 0 (some (.int (lo + i)))) H fun y H4 => Pv (i + 1) (zs ++ [y]) H4) (fin : ∀ zs H', Pv n zs H' → Fin zs H') :
    ∃ (n' : Nat) (W : Nat → List V → Hp → Prop), W 0 [] H ∧ LcW (Itr lo n) n' 1 js σ (gName 0) tYes te Fin W := by
  refine ⟨n, Pv, h0, ⟨?_, ?_, ?_⟩⟩
  · intro i zs H' hi p
    have := hl i zs H' (Nat.le_of_lt hi) p
    exact ⟨hi, by lia⟩
  · rintro i zs H' x H1 hi p ⟨rfl, rfl⟩
    exact hs i zs _ hi p
  · intro zs H' p
    have := hl n zs H' (Nat.le_refl _) p
    exact ⟨Nat.le_refl _, by lia, fin zs H' p⟩
theorem atI_back {α : Type} {xs : List α} {v : α} (h : xs[xs.length - 1]? = some v) : atI xs (-1) = some v := by
  have hl : xs.length - 1 < xs.length := (List.getElem?_eq_some_iff.mp h).1
  have e : ixN xs.length (-1) = some (xs.length - 1) := by
    unfold ixN
    rw [if_neg (by decide), if_pos (by lia)]
    congr 1
    lia
  unfold atI
  rw [e]
  exact h
/-- it is a number: True -/
inductive spIsN (K : PySem.W.Frag) (vs : List V) (H : Hp) (Q : VK) (E_3 : XK) : Prop
  | mk (x : _) (q : _) (h1 : vs = [x]) (h2 : NumV K H x q) (h3 : ∀ H', Same H H' → Q (.bl true) H') : spIsN K vs H Q E_3
/-- it is a curve: True -/
def Good (qs : List Rat) : Prop := qs = [] ∨ ∃ q, qs[qs.length - 1]? = some q ∧ q ≠ 0
inductive spIsC (K : PySem.W.Frag) (vs : List V) (H : Hp) (Q : VK) (E_3 : XK) : Prop
  | mk (r : _) (qs : _) (h1 : vs = [.ref r]) (h2 : Crv K H r qs) (h3 : qs.length ≤ 1000) (h4 : Good qs) (h5 : ∀ H', Same H H' → Q (.bl true) H') : spIsC K vs H Q E_3
theorem good_strip (qs : List Rat) : Good (Cv.strip qs) := by
  by_cases h : Cv.strip qs = []
  · exact .inl h
  · have hl : 0 < (Cv.strip qs).length := List.length_pos_iff.mpr h
    have e := List.getElem?_eq_getElem (l := Cv.strip qs) (i := (Cv.strip qs).length - 1) (by lia)
    refine .inr ⟨_, e, fun z => Cv.strip_last qs h ?_⟩
    rw [e, z]
theorem all_rep (n : Nat) : (List.replicate n true).all id = true := by
  rw [List.all_eq_true]
  intro b hb
  exact (List.mem_replicate.mp hb).2
theorem Pen.sm {H H' : Hp} {p : Addr} (h : Pen H p) (e : Same H H') : Pen H' p := let ⟨c0, c1, c2, z⟩ := h; ⟨c0, c1, c2, e _ _ z⟩
theorem rep_nums {K : PySem.W.Frag} {H : Hp} {x : V} {q : Rat} (h : NumV K H x q) : ∀ n : Nat, Nums K H (List.replicate n [x]).flatten (List.replicate n q)
  | 0 => .nil
  | n + 1 => by
    rw [List.replicate_succ, List.flatten_cons, List.replicate_succ]
    exact .cons h (rep_nums h n)
theorem at_plus {ns : List Int} {i : Nat} {t : Int} {k : Int} (h : ns[i]? = some t) (e : k = (i : Int)) : atI (ns.map V.int) k = some (.int t) := by
  subst e
  exact atI_nat (by rw [List.getElem?_map, h]; rfl)
theorem ixN_plus {n i : Nat} {k : Int} (h : i < n) (e : k = (i : Int)) : ixN n k = some i := by
  subst e
  unfold ixN
  rw [if_pos (by lia), if_pos (by lia), Int.toNat_natCast]
theorem Same.put {H H' : Hp} {p : Addr} {o : HO} (h : Same H H') (hp : H p = none) : Same H (upd H' p o) := fun b u q => by rw [upd_ne (ne_of_none q hp)]; exact h b u q
end L2

/-! own layer, part 9: an exception that leaves a def, raise, and try with one except around a call -/
namespace L2
open PySem PySem.Spec PyProof.Rows
/-- how an exception lies behind a call: it flies over B, and B holds all that is known -/
def CX1 (P : Program) (w : World) : CXT := fun outer H s E e s' => ∃ (ea : Addr) (cls a0 : Value) (B : Heap) (H' : Hp), e = .ref ea ∧ s'.os = s.os ∧ AllBare s'.gens ∧ Un (frs outer) [] H H' s.heap s'.heap ∧ HOk P w H' s'.heap ∧
  Heap.FlyingW B outer ea cls a0 s'.heap ∧ (∀ b o, s.heap.get? b = some o → b ∉ frs outer → ∃ o', B.get? b = some o') ∧ (∀ b u, H' b = some u → ∃ o', B.get? b = some o') ∧ E cls none H'
theorem ObjOk.got {P : Program} {w : World} {H : Hp} {h : Heap} {a : Addr} {o : HO} (x : ObjOk P w H h a o) : ∃ ob, h.get? a = some ob := by
  induction o with
  | lst xs => obtain ⟨_, _, _, _, e⟩ := x; exact ⟨_, e⟩
  | tup xs => obtain ⟨_, _, _, ob, e, _⟩ := x; exact ⟨_, e⟩
  | dK kvs => obtain ⟨_, _, _, _, ob, _, _, e, _⟩ := x; exact ⟨_, e⟩
  | dT kvs => obtain ⟨_, _, _, _, ob, _, _, e, _⟩ := x; exact ⟨_, e⟩
  | set S n => obtain ⟨ob, _, _, _, e, _⟩ := x; exact ⟨_, e⟩
  | ins C dx fs => obtain ⟨_, _, _, e, _⟩ := x; exact ⟨_, e⟩
  | own y => exact x
  | xd fs => obtain ⟨_, ⟨ob, _, _, e, _⟩, _⟩ := x; exact ⟨_, e⟩
  | met f y => exact ⟨_, x⟩
  | rng lo hi => obtain ⟨_, _, _, e⟩ := x; exact ⟨_, e⟩
  | frz ob u ih => exact ⟨_, x.1⟩
  | tbl ps => exact ⟨_, x⟩
  | ext φ => exact x.2.1
section
variable {X : Cx} {pins : List (Addr × Obj)} {σ : St} {H H' : Hp} {s s' : Shared} {B : Heap}
/-- behind a flight's station: all that B holds is as it was, the frames are kept up to slots -/
theorem Inv.flown {h2 : Heap} {toks : Nat} (I : Inv X pins σ H s) (un : Un (frs X.stack) [] H H' s.heap s'.heap) (hok : HOk X.prog X.w H' s'.heap) (os : s'.os = s.os) (bare : AllBare s'.gens)
    (hs : ∀ b o, B.get? b = some o → s'.heap.get? b = some o) (k1 : ∀ b o, s.heap.get? b = some o → b ∉ frs X.stack → ∃ o', B.get? b = some o') (k2 : ∀ b u, H' b = some u → ∃ o', B.get? b = some o')
    (h2s : ∀ b o, B.get? b = some o → h2.get? b = some o) (sl : ∀ b o, b ∈ frs X.stack → s'.heap.get? b = some o → ∃ z, h2.get? b = some { o with slots := z }) : Inv X pins σ H' { s' with heap := h2, toks := toks } := by
  have key : ∀ b o, s'.heap.get? b = some o → (∃ o', B.get? b = some o') → h2.get? b = some o := fun b o e ⟨o', q⟩ => by
    have := hs b o' q
    rw [e] at this
    cases this
    exact h2s b o q
  refine I.call' (ch := []) os ⟨fun b o e n nb nx => key b o (un.keep b o e n nb nx) (k1 b o e nb), fun b o e n nb nx => ?_, un.free, fun b o e nx => ?_, un.tups, un.frzs, un.tbls⟩ (fun b u e => ?_) bare (fun _ z => nomatch z)
  · obtain ⟨z, q⟩ := un.slot b o e n nb nx
    obtain ⟨z', q'⟩ := sl b _ nb q
    exact ⟨z', q'⟩
  · obtain ⟨o', q⟩ := un.there b o e nx
    by_cases hb : b ∈ frs X.stack
    · obtain ⟨z', q'⟩ := sl b _ hb q
      exact ⟨_, q'⟩
    · exact ⟨_, key b o' q (k1 b o e hb)⟩
  · refine (hok b u e).stay (fun c v hc q => key c v q ?_) (fun _ q => q) fun _ _ q => q
    rcases hc with rfl | z
    · exact k2 _ u e
    · exact k2 c _ z
theorem hid_frs (h : Heap) (l : List Env) : ∀ env ∈ l, ∀ b, env.frame = some b → b ∈ frs l := fun env he b hb => List.mem_filterMap.mpr ⟨env, he, hb⟩
theorem Inv.slots {h2 : Heap} (hf : s'.heap.FunFrames B X.stack) (u : s'.heap.UpToSlots h2) : ∀ b o, b ∈ frs X.stack → s'.heap.get? b = some o → ∃ z, h2.get? b = some { o with slots := z } := fun b o hb e => by
  obtain ⟨_, o', e', nf⟩ := hf.mem hb
  rw [e] at e'
  cases e'
  exact u b o e nf
end
section
variable {P : Program} {w : World} {K : PySem.W.Frag} {mg : Str → Option Value} {base : Heap} {N : List Str} {qual : Str} {scope : Scope} {f : Addr} {cd : Value} {A : Around} {outer : List Env} {s : Shared} {H : Hp} {E : XK}
end
/-- an own class of exceptions, under ValueError -/
structure XCls (K : PySem.W.Frag) (x : Str) (C : Addr) : Prop where
  ns : PySem.W.nsIn K mainGlobals x = some (some (.ref C))
  ob : ∃ bm N nm q bs hdct sn sub ab col dd k0 k1 k2 k3 k5, K.lookup C = some (excClassObj nm q C N bs bm hdct sn sub ab col dd k0 k1 k2 k3 k5 "ValueError.__new__")
  ex : PySem.W.excIn K C [.type "ValueError", .type "Exception", .type "BaseException", .type "object"] "ValueError.__new__" = true
def tRaise (E : XK) (C : Addr) (t : TA) : TS := fun _ σ H => t σ H fun xs H1 => xs.length ≤ sizeLine ∧ E (.ref C) none H1
def Makes (X : Cx) (E : XK) : Prop := ∀ (pins : List (Addr × Obj)) (σ : St) (H1 : Hp) (s1 : Shared) (h2 : Heap) (ea : Addr) (cls : Value) (vs : List Value), Inv X pins σ H1 s1 → Heap.MadeExcOf s1.heap h2 ea cls vs → E cls none H1 → X.xe (.ref ea) { s1 with heap := h2 }
theorem own_in {K : PySem.W.Frag} {h : Heap} {mg : Str → Option Value} {x : Str} {C : Addr} (X : K.In h) (g : h.Ns mainGlobals mg) (c : XCls K x C) : OwnCls x C [.type "ValueError", .type "Exception", .type "BaseException", .type "object"] "ValueError.__new__" mg h := by
  obtain ⟨bm, N, nm, q, bs, hdct, sn, sub, ab, col, dd, k0, k1, k2, k3, k5, l⟩ := c.ob
  have ex := c.ex
  unfold PySem.W.excIn at ex
  rw [l] at ex
  simp only [excClassObj, Bool.and_eq_true, beq_iff_eq] at ex
  exact ⟨PySem.W.mg_of X g c.ns, bm, N, nm, q, bs, hdct, sn, sub, ab, col, dd, k0, k1, k2, k3, k5, _, X _ _ l, .of_isNs (PySem.W.isNs_of_in X ex.1.2), PySem.W.nsMap_none_of_in X ex.1.2 ex.2, PySem.W.tail_of_in X ex.1.1.2⟩
theorem ps_raise {X : Cx} {E : XK} {x : Str} {C : Addr} {np cpos pos : Pos} {e₀ : Expr} {rest : List Expr} {t : TA} (c : XCls X.K x C) (hg : Gl X x) (hM : Makes X E) (hc : X.calm = true) (ha : PA X (e₀ :: rest) t)
    (hdb : (x == ("__debug__" : Str)) = false := by decide) (he : starEach (e₀ :: rest) X.env = (false, eval e₀ X.env) :: starEach rest X.env := by rfl) (hpl : (backTo cpos (starEach rest X.env)).any (·.1) = false := by rfl) :
    PS X (.Raise (some (.Call (.Name x np) (e₀ :: rest) [] cpos)) none pos) (tRaise E C t) := by
  intro pins s σ H D I h
  have O := own_in I.mod.kin I.mod.glob c
  obtain ⟨tl, N, nm, q, bs, hdct, sn, sub, ab, col, dd, k0, k1, k2, k3, k5, mN, hC, hN, hni, T⟩ := O.obj
  have FB := PySem.F.excBase_ValueError
  refine wpAny_Raise_call_subT (C := C) (nm := nm) (q := q) (N := N) (bs := bs) (bm := tl) (hdct := hdct) (sn := sn) (sub := sub) (ab := ab) (col := col) (dd := dd) (k0 := k0) (k1 := k1) (k2 := k2) (k3 := k3) (k5 := k5)
    FB (mN := mN) (T.hasType FB.hasBase) (I.ok.hd hc) (by rw [he]; show (false || (backTo cpos (starEach rest X.env)).any (·.1)) = false; rw [hpl]; rfl) hni (ld_glob I hg O.bound ⟨rfl, ?_⟩ hdb)
  rw [he]
  refine Calls.evalArgs_plain ?_
  have z := ha cpos pins s σ H _ I h
  rw [he] at z
  refine thn z fun us s2 ⟨xs, H1, I1, r, hz, hE⟩ => ⟨rfl, by rw [← r.length]; exact hz, I1.bk _ _ hC, hN.keeps I1.bk, T.keeps I1.bk, fun h' e hx => hM pins σ H1 s2 h' e _ _ I1 hx hE⟩

/-! ### try, with one except, around one call -/
/-- within an except suite -/
abbrev Cx.marked (X : Cx) (ea : Addr) : Cx := { X with A := X.A.mark (some (.ref ea)), calm := false, xe := fun _ _ => False }
section
variable {X : Cx} {pins : List (Addr × Obj)} {σ : St} {H H' : Hp} {s s' : Shared} {B : Heap}
theorem Cx.Ok.marked (ok : X.Ok) (ea : Addr) : (X.marked ea).Ok :=
  ⟨ok.mod, ok.kind, ok.glob, ok.blt, ok.above, ok.inj, ok.has, ok.cab, (fun z => nomatch z), ok.frames, ok.stk, ok.exf, ok.bs, ok.bsz, ok.noex, ok.exfs, ok.funs, ok.frf⟩
theorem Inv.marked (I : Inv X pins σ H s) (ea : Addr) : Inv (X.marked ea) pins σ H s := ⟨I.ok.marked ea, I.os, I.bare, I.base, I.loc, I.cell, I.free, I.freeC, I.pin, I.hok, I.len⟩
/-- a name of the frame is gone -/
theorem Inv.gone {h2 : Heap} {toks : Nat} {i : Nat} {n : Str} {v : Option Value} {m : Str → Option Value} (I : Inv X pins σ H s) (hN : X.N.Nodup) (hi : X.N[i]? = some n)
    (hl : ∀ (j : Nat) (x : Str) (v : V), X.N[j]? = some x → σ[j]? = some (some v) → Vis X.env.scope x → ∃ u, RelV v u ∧ Look X.env s.heap m x u)
    (hn : h2.Ns X.env.locals fun x => if x = n then v else m x) (sb : Heap.SameBut X.env.locals s.heap h2) : Inv X pins (σ.set i none) H { s with heap := h2, toks := toks } := by
  have kp : ∀ b o, b ≠ X.env.locals → s.heap.get? b = some o → h2.get? b = some o := fun b o nb e => (sb.2 b nb).trans e
  have neL : ∀ b o, X.s₀.heap.get? b = some o → b ≠ X.env.locals := fun b o e => Nat.ne_of_lt (Nat.lt_of_lt_of_le (Heap.lt_size e) I.ok.above)
  have cellK : ∀ x c, X.env.cells.lookup x = some c → ∀ v, s.heap.IsCell c v → h2.IsCell c v := fun x c e v ⟨o, ho, hd⟩ => ⟨o, kp c o (I.cne x c e) ho, hd⟩
  refine ⟨I.ok, I.os, I.bare, ⟨fun b o e nn hb hx => kp b o (neL b o e) (I.base.keep b o e nn hb hx), fun b o e nn hb hx => ?_, I.base.free, fun b o e hx => ?_, I.base.tups, I.base.frzs, I.base.tbls⟩, ⟨_, hn, fun j x v' e1 e2 e3 => ?_⟩, fun x c e => ?_, I.free, I.freeC, fun p hp => ?_, fun b u e => ?_, by rw [List.length_set]; exact I.len⟩
  · obtain ⟨sl, q⟩ := I.base.slot b o e nn hb hx
    exact ⟨sl, kp b _ (neL b o e) q⟩
  · obtain ⟨o', q⟩ := I.base.there b o e hx
    exact ⟨o', kp b _ (neL b o e) q⟩
  · by_cases hij : i = j
    · subst hij
      rw [List.getElem?_set] at e2
      split at e2
      · split at e2 <;> cases e2
      · exact absurd rfl (by assumption)
    · rw [List.getElem?_set_ne hij] at e2
      obtain ⟨u, r, l⟩ := hl j x v' e1 e2 e3
      have hx : x ≠ n := fun z => hij (nodup_ix hN hi (by rw [← z]; exact e1))
      refine ⟨u, r, ?_⟩
      rcases l with ⟨k, l⟩ | ⟨k, c, e, z⟩
      · exact .inl ⟨k, by show (if x = n then v else m x) = _; rw [if_neg hx]; exact l⟩
      · exact .inr ⟨k, c, e, cellK x c e _ z⟩
  · obtain ⟨v, z⟩ := I.cell x c e
    exact ⟨v, cellK x c e v z⟩
  · obtain ⟨e, nn, ne, nf, d⟩ := I.pin p hp
    exact ⟨kp _ _ ne e, nn, ne, nf, d⟩
  · refine (I.hok b u e).stay (fun c v hc q => kp c v ?_ q) (fun _ q => q) fun _ _ q => q
    rcases hc with rfl | z
    · intro y; rw [y, I.free] at e; cases e
    · intro y; rw [y, I.free] at z; cases z
end
/-! ### isinstance of a caught exception -/
section
open PySem.W PySem.Builtin PySem.Builtin.ObjectAttr PySem.Builtin.Getset_descriptor
variable {prog : Program} {w : World} {A : Around} {E : Value → Shared → Prop} {s : Shared} {K : PySem.W.Frag} {x D : Addr}
/-- what the class answers about its instances' class -/
structure XTy (K : PySem.W.Frag) (D : Addr) : Prop where
  ga : findIn K (.ref D) "__getattribute__" = some (some (.builtin "BaseException.__getattribute__"))
  gt : findIn K (.ref D) "__getattr__" = some none
  ca : findIn K (.ref D) "__class__" = some (some (.builtin "object.__class__"))
  gg : specialIn K (.builtin "object.__class__") "__get__" = some (some (.builtin "getset_descriptor.__get__"))
  tk : takesIn K (.builtin "object.__class__") = some true
  ob : mroIn K D (.type "object") = some true
  be : mroIn K D (.type "BaseException") = some true
  cl : ∃ c d cd sl, K.lookup D = some ⟨c, d, .cls cd, sl⟩
theorem look_data (X : K.In s.heap) (T : XTy K D) : Looks (model prog w) s.heap (find (.ref x) (.ref D) "__class__") (.bind (.builtin "getset_descriptor.__get__") (.builtin "object.__class__")) := by
  have L1 := looks_findIn (M := model prog w) X T.ca
  have L2 : Looks (model prog w) s.heap (getOf (some (.builtin "object.__class__"))) (some (.builtin "getset_descriptor.__get__")) := looks_specialIn X T.gg
  have L3 := looks_takesIn (M := model prog w) X T.tk
  exact L1.andThen (L2.andThen ((show Looks (model prog w) s.heap (dataDescriptor? (some (.builtin "object.__class__")) (some (.builtin "getset_descriptor.__get__"))) (some (.builtin "getset_descriptor.__get__", .builtin "object.__class__")) from L3.andThen .now).andThen (Looks.tag .now)))
theorem exc_class {Q : Option Value → Shared → Prop} (X : K.In s.heap) (L0 : Looks (model prog w) s.heap (typeOf (.ref x)) (.ref D)) (T : XTy K D) (h : Q (some (.ref D)) { s with toks := s.toks + 1 }) : wpAny (model prog w) A (getAttr? (.ref x) "__class__") Q E s := by
  have L1 := looks_findIn (M := model prog w) X T.ga
  have L2 := look_data (prog := prog) (w := w) (x := x) X T
  have L3 := looks_findIn (M := model prog w) X T.gt
  have L4 := looks_mroIn (M := model prog w) X T.ob
  obtain ⟨hh, g, d, t, os⟩ := s
  unfold getAttr? getAttrBy? getAttrBy
  have L5 := looks_mroIn (M := model prog w) X T.be
  refine wpAny_bind (wpAny_mkText (wpAny_bind (wpAny_attempt (wpAny_holding (wpAny_bind (L0.at (wpAny_bind (L1.at ?_))))))))
  have hx2 : (Value.builtin "BaseException.__getattribute__" == Value.builtin "object.__getattribute__") = false := by decide +kernel
  dsimp only
  rw [hx2, Bool.and_false, if_neg (by decide)]
  have hk : builtinKind "BaseException.__getattribute__" = some .slot := by decide +kernel
  have hsplit : splitId "BaseException.__getattribute__" = some ("BaseException", "__getattribute__") := by decide +kernel
  have ha := F.args_bexc_ga (.ref x) (.str "__class__" t)
  unfold getAttrByItsOwn hookBefore
  refine wpAny_bind ?_
  show wpAny _ _ (typeLookup (.ref D) "__getattr__") _ _ _
  refine L3.at (wpAny_bind (wpAny_attempt (wpAny_holding ?_)))
  show wpAny _ _ (boundAndCalled (.builtin "BaseException.__getattribute__") (.ref x) _) _ _ _
  unfold boundAndCalled
  rw [F.excAttr_ValueError.ga.bind (.ref x)]
  refine wpAny_bind (wpAny_pure ?_)
  first | refine wpAny_call (codeAny_call_builtin F.excAttr_ValueError.ga.plain F.entry_bexc_ga ?_) | refine wpAny_holding (wpAny_call (codeAny_call_builtin F.excAttr_ValueError.ga.plain F.entry_bexc_ga ?_))
  simp only [checkBuiltinCall, hk, hsplit]
  unfold isInstance
  show wpAny _ _ (do let b ← (do let tp ← typeOf (.ref x); isSubtype tp (.type "BaseException")); _) _ _ _
  refine wpAny_bind (wpAny_bind (L0.at (L5.at ?_)))
  rw [if_neg (by decide)]
  unfold argsOk at ha
  refine wpAny_of_eq ha ?_
  show wpAny _ _ (Builtin.«object.__getattribute__» ⟨[.ref x, .str "__class__" t], []⟩) _ _ _
  unfold Builtin.«object.__getattribute__»
  refine wpAny_bind (wpAny_of_eq (show slotArgs "__getattribute__" 1 ⟨[.ref x, .str "__class__" t], []⟩ = pure (.ref x, [.str "__class__" t]) from by kernel_rfl) ?_)
  refine wpAny_bind (wpAny_of_eq (show attrName (.str "__class__" t) = pure "__class__" from by kernel_rfl) ?_)
  refine wpAny_bind (L0.at (wpAny_bind (L2.at ?_)))
  unfold bindTo
  show wpAny _ _ (holding [Value.builtin "object.__class__"] (call (.builtin "getset_descriptor.__get__") [.builtin "object.__class__", .ref x, .ref D]) >>= ret) _ _ _
  refine wpAny_bind (wpAny_holding (wpAny_call ?_))
  refine codeAny_call_builtin KF.slot_gs.plain KF.entry_gs (KF.slot_gs.check _ _ _ _ _ _ _ _ KF.type_class (KF.args_gs _ _ _) ?_)
  unfold Builtin.«getset_descriptor.__get__» descrGet
  rw [dga_obj]
  refine wpAny_bind (wpAny_pure ?_)
  unfold descrGetter descrCheckInstance descrNameAndClass isInstance
  simp only [KF.owner_class]
  repeat lk
  refine ⟨Code.quiet_builtin _ (by decide +kernel), codeAny_builtin KF.entry_class ?_⟩
  unfold Builtin.«object.__class__» shownTypeOf
  repeat lk
  exact h
/-- an exception of the class at D stands at x -/
def ExAt (x D : Addr) (h : Heap) : Prop := ∃ o, h.get? x = some o ∧ o.cls = .ref D
theorem exAt_ty {M : Model} {h : Heap} (p : ExAt x D h) : Looks M h (typeOf (.ref x)) (.ref D) := by
  obtain ⟨o, h1, h2⟩ := p
  exact h2 ▸ (Looks.ld h1).andThen .now
theorem kitx_exc (T : XTy K D) : KitX K (.ref x) (.ref D) (ExAt x D) where
  ty := fun _ _ _ p => exAt_ty p
  it := fun _ _ X _ => by
    obtain ⟨c, d, cd, sl, ho⟩ := T.cl
    intro A' Q' E' s' k q
    unfold isType loadHead
    exact wpAny_bind (wpAny_loadPart (k _ _ (X _ _ ho)) (wpAny_pure q))
  ne := fun h tp dd its n sl X htp => by
    obtain ⟨c, d, cd, sl', ho⟩ := T.cl
    refine Bool.eq_false_iff.mpr fun q => ?_
    have e : D = tp := Value.ref.inj (beq_iff_eq.mp q)
    subst e
    have z := (X _ _ ho).symm.trans htp
    cases z
  ca := fun X p k => exc_class X (exAt_ty p) T k
def clsV : V → Option Value
  | .ref a => some (.ref a)
  | .ty T => some (.type T)
  | _ => none
theorem clsV_rel {y : V} {u c : Value} (r : RelV y u) (e : clsV y = some c) : u = c := by
  cases y <;> cases e <;> exact r
end
section
open PySem.W
variable {X : Cx} (K : PySem.W.Frag)
end

/-! ### a def from which an exception may leave, as its text stands and as a caller takes it -/
section
variable {P : Program} {w : World} {K : PySem.W.Frag} {mg : Str → Option Value} {base : Heap}
end
structure FdX (P : Program) (w : World) (K : PySem.W.Frag) (mg : Str → Option Value) (base : Heap) (n : Nat) (x : Str) (ps : List Str) (sp : Sp) : Prop where
  ex : ∃ (f : Addr) (fd : FuncData), FnOk P w K mg base (CX1 P w) n f fd ps sp ∧ Binds K fd ps [] ∧ PySem.W.keepIn K (.ref f) = true ∧ mg x = some (.ref f)
end L2

/-! own layer, part 10: range(a, b, -1) -/
namespace L2
open PySem PySem.Spec PyProof.Rows
/-- lo, lo - 1, .. (n of them) -/
def Itd (lo : Int) (n : Nat) : It := ⟨fun i _ => i < n, fun i H x H' => H' = H ∧ x = .int (lo - i), fun i _ => n ≤ i⟩
theorem turn_down {P : Program} {w : World} {K : PySem.W.Frag} {tg : Expr} (it : Addr) (lo : Int) (n : Nat) : Turn P w K tg (Itd lo n) [it] it (fun i h => IsRangeIter h it (lo + (i : Nat) * (-1)) ((n : Int) - (i : Nat)) (-1)) where
  mem := by simp
  obj := fun i h st b hb => by
    have e : b = it := by simpa using hb
    subst e
    exact ⟨_, st, fun v z => by
      have z' : Data.fields _ = Data.cell v := z
      cases z'⟩
  keep := fun i h h' st k => k it (by simp) _ st
  item := by
    intro X hP hw hK hc i pins s σ H E I hf st hg
    subst hP hw hK
    obtain ⟨f0, f1, f2, f3, f4, f5⟩ := hf it (by simp)
    refine (Walks.range (prog := X.prog) (w := X.w) (I.ok.hd hc) it lo (-1) n).item i s _ _ hg st fun v h' tk hv st' kk => ?_
    obtain ⟨t, rfl⟩ := hv
    have I1 : Inv X pins σ H { s with heap := h', toks := tk } := I.turned (fun b o hb e => kk b o (by simpa using hb) e) f0 f1 f3 f4 f5
    refine ⟨_, rfl, go_of (s := { s with heap := h', toks := tk }) (n := "range_iterator") st' rfl rfl (by decide) ⟨.int (lo - i), H, I1, ⟨t, ?_⟩, ⟨rfl, rfl⟩, st', fun b hb => (hf b hb).1⟩⟩
    rw [show lo + (i : Int) * -1 = lo - i by lia]
  done := by
    intro X hP hw hK hc i pins s σ H E I hf st hg
    subst hP hw hK
    obtain ⟨f0, f1, f2, f3, f4, f5⟩ := hf it (by simp)
    exact wpAny_pyNext_range_end (I.ok.hd hc) st (by have : n ≤ i := hg; lia) fun h' eb => ⟨rfl, I.turned (t' := s.toks) (fun b o hb e => eb b o hb e) f0 f1 f3 f4 f5⟩
  self := fun _ _ _ _ _ st h => wpAny_pyIter_rangeiter st h
theorem size_down (a b : Int) : Builtin.Range.rangeSize a b (-1) = (((a - b).toNat : Nat) : Int) := by
  unfold Builtin.Range.rangeSize
  rw [if_neg (by decide)]
  split
  · rw [show -(-1 : Int) = 1 by decide, Int.ediv_one]; lia
  · lia
section
variable {X : Cx} {tg : Expr}
def iDown (ta : TA) : TI := fun σ H R => ta σ H fun vs H1 => ∃ i j : Int, vs = [.int i, .int j, .int (-1)] ∧ (-1000000 ≤ i ∧ i ≤ 1000000 ∧ -1000000 ≤ j ∧ j ≤ 1000000) ∧ R (Itd i (i - j).toNat) H1
theorem pi_down {a b c : Expr} {ta : TA} {p pos : Pos} (hg : Gl X "range") (hm : X.mg "range" = none) (ha : PA X [a, b, c] ta) (hs : starEach [a, b, c] X.env = [(false, eval a X.env), (false, eval b X.env), (false, eval c X.env)] := by rfl)
    (hs2 : starEach [b, c] X.env = [(false, eval b X.env), (false, eval c X.env)] := by rfl) : PI X tg (.Call (.Name "range" p) [a, b, c] [] pos) (iDown ta) := by
  intro pins s σ H R I h
  refine Call_ (ld_blt I hg hm boot_range (PyProof.Rows.callWith_type1 (thn (ha pos pins s σ H _ I h) fun us s1 ⟨vs, H1, I1, r1, q1⟩ => ?_) (by rw [hs, hs2]) (by rw [hs2]; rfl)))
  obtain ⟨i, j, e, ⟨q1, q2, q3, q4⟩, q⟩ := q1
  subst e
  cases r1 with
  | cons r rr =>
    cases rr with
    | cons r' rr =>
      cases rr with
      | cons r3 rr =>
        cases rr
        obtain ⟨t, rfl⟩ := r
        obtain ⟨t', rfl⟩ := r'
        obtain ⟨t3, rfl⟩ := r3
        have sm : Builtin.Range.small i j (-1) = true := by
          unfold Builtin.Range.small
          rw [size_down]
          simp only [Builtin.Range.rangeFitsLong, Bool.and_eq_true, Bool.or_eq_true, decide_eq_true_eq, beq_iff_eq]
          rw [if_neg (by decide)]
          simp only [Bool.and_eq_true, decide_eq_true_eq]
          lia
        refine call_range_3 (by decide) ?_ (.inl (PyProof.noPylong_small (by lia)))
        refine wpAny_pyIter_range (IsRange.new ..) sm ?_
        have I2 : Inv X pins σ H1 { s1 with heap := s1.heap.push { cls := .type "range", data := .fields #[.int i t, .int j t', .int (-1) t3] }, toks := s1.toks } := I1.kept fun b o e => Heap.get?_push_of_some _ e
        refine ⟨_, [_], _, _, H1, rfl, I2.kept (t' := s1.toks) fun b o e => Heap.get?_push_of_some _ e, turn_down _ i (i - j).toNat, ?_, fun b hb => ?_, q⟩
        · show IsRangeIter _ _ (i + ((0 : Nat) : Int) * (-1)) ((((i - j).toNat : Nat) : Int) - ((0 : Nat) : Int)) (-1)
          rw [show i + ((0 : Nat) : Int) * (-1) = i by lia, show (((i - j).toNat : Nat) : Int) - ((0 : Nat) : Int) = Builtin.Range.rangeSize i j (-1) by rw [size_down]; lia]
          exact Heap.get?_push_size _ rfl
        · have e := List.mem_singleton.mp hb
          subst e
          exact I2.fpOk (Nat.le_refl _) (I2.hok.fresh (Nat.le_refl _))
end
theorem for_down {lo : Int} {n : Nat} {g : TG} {tb : TS} {D : Ends} {σ : St} {H : Hp} (Pv : Nat → St → Hp → Prop) (h0 : Pv 0 σ H)
    (hs : ∀ i σ H, i < n → Pv i σ H → g (.int (lo - i)) σ H fun σ2 H2 => tb { D with nx := Pv (i + 1), ct := Pv (i + 1), bk := D.nx } σ2 H2) (hd : ∀ σ H, Pv n σ H → D.nx σ H) :
    ∃ W : Nat → Nat → St → Hp → Prop, (∃ m, W 0 m σ H) ∧ ∀ i m σ H, W i m σ H →
      ((Itd lo n).stop i H ∧ D.nx σ H) ∨ ((Itd lo n).go i H ∧ ∃ N : St → Hp → Prop, (∀ σ' H', N σ' H' → ∃ m', m' < m ∧ W (i + 1) m' σ' H') ∧ ∀ x H', (Itd lo n).yld i H x H' → g x σ H' fun σ2 H2 => tb { D with nx := N, ct := N, bk := D.nx } σ2 H2) := by
  refine ⟨fun i m σ H => m = n - i ∧ i ≤ n ∧ Pv i σ H, ⟨n, by simp, Nat.zero_le _, h0⟩, ?_⟩
  rintro i m σ H ⟨rfl, hi, p⟩
  by_cases hlt : i < n
  · refine .inr ⟨hlt, Pv (i + 1), fun σ' H' p' => ⟨n - (i + 1), by lia, rfl, hlt, p'⟩, fun x H' y => ?_⟩
    obtain ⟨rfl, rfl⟩ := y
    exact hs i σ _ hlt p
  · have e : i = n := by lia
    subst e
    exact .inl ⟨Nat.le_refl _, hd σ H p⟩
/-- a comprehension over a list that its elements leave as it is -/
theorem lc_lst {K : PySem.W.Frag} {a : Addr} {js : List Nat} {xs : List V} {te : TE} {σ : St} {H : Hp} {Fin : List V → Hp → Prop} (Pv : Nat → List V → Hp → Prop) (h0 : Pv 0 [] H)
    (hl : ∀ i zs H, i ≤ xs.length → Pv i zs H → SqL K H a xs ∧ zs.length = i) (hz : xs.length ≤ sizeLine)
    (hs : ∀ i x zs H, xs[i]? = some x → Pv i zs H → te ((cS 1 js σ).set 0 (some x)) H fun y H4 => Pv (i + 1) (zs ++ [y]) H4) (fin : ∀ zs H', Pv xs.length zs H' → Fin zs H') :
    ∃ (n' : Nat) (W : Nat → List V → Hp → Prop), W 0 [] H ∧ LcW (Itl K a) n' 1 js σ (gName 0) tYes te Fin W := by
  refine ⟨xs.length, Pv, h0, ⟨?_, ?_, ?_⟩⟩
  · intro i zs H' hi p
    obtain ⟨h1, h2⟩ := hl i zs H' (Nat.le_of_lt hi) p
    exact ⟨⟨xs, xs[i], h1, by simp [hi]⟩, by lia⟩
  · rintro i zs H' x H1 hi p ⟨rfl, y⟩
    exact hs i x zs _ (y xs (hl i zs _ (Nat.le_of_lt hi) p).1) p
  · intro zs H' p
    obtain ⟨h1, h2⟩ := hl _ zs H' (Nat.le_refl _) p
    exact ⟨⟨xs, h1, Nat.le_refl _⟩, by lia, fin zs H' p⟩
theorem cut_back (xs : List V) : cutV xs none (some (-1)) = xs.take (xs.length - 1) := by
  unfold cutV
  have e1 : HT.sIx xs.length 0 none = 0 := rfl
  have e2 : HT.sIx xs.length xs.length (some (-1)) = xs.length - 1 := by
    show (if (-1 : Int) < 0 then ((-1 : Int) + (xs.length : Int)).toNat else min (-1 : Int).toNat xs.length) = xs.length - 1
    rw [if_pos (by decide)]
    lia
  rw [e1, e2, List.drop_zero, Nat.sub_zero]
theorem Bd.pow {L : Nat} {b : Int} (h : Bd L b) : ∀ n : Nat, Bd (L * n + 1) (b ^ n)
  | 0 => by rw [Int.pow_zero]; exact (show Bd 1 1 by unfold Bd; decide).mono (by lia)
  | n + 1 => by
    rw [Int.pow_succ]
    exact ((Bd.pow h n).mul h).mono (by rw [Nat.mul_add]; lia)
theorem ints_scale {lead : Int} {ts : List Int} (i : Nat) {t : Int} (h : ts[i]? = some t) : (((ts.take i).map (lead * ·)).map V.int) ++ [V.int (lead * t)] = ((ts.take (i + 1)).map (lead * ·)).map V.int := by
  rw [List.take_add_one, h, List.map_append, List.map_append]
  rfl
theorem bt_ValueError : bootBuiltins "ValueError" = some (.type "ValueError") := by decide +kernel
end L2

/-! own layer, part 11: what stands behind a statement; lists of drawn numbers; whole tops over a bottom -/
namespace L2
open PySem PySem.Spec PyProof.Rows
/-- what a statement comes to, and what goes on from there -/
theorem seq_join {s rest : TS} {D : Ends} {σ : St} {H : Hp} (Pv : St → Hp → Prop) (h : ∀ nx : St → Hp → Prop, (∀ σ' H', Pv σ' H' → nx σ' H') → s { D with nx := nx } σ H) (k : ∀ σ' H', Pv σ' H' → rest D σ' H') : tSeq s rest D σ H := h _ k
theorem seq_joinN {i : Nat} {v : V} {c : TT} {t u rest : TS} {D : Ends} {σ : St} {H : Hp} (Pv : St → Hp → Prop) (h : ∀ nx : St → Hp → Prop, (∀ σ' H', Pv σ' H' → nx σ' H') → tIfS c t u { D with nx := nx } (σ.set i (some v)) H) (k : ∀ σ' H', Pv σ' H' → rest D σ' H') : gName i v σ H (tSeq (tIfS c t u) rest D) := h _ k
theorem Bd.neg {n : Nat} {x : Int} (h : Bd n x) : Bd n (-x) := by unfold Bd at *; rw [Int.natAbs_neg]; exact h
theorem Mv.free {a l : Addr} {H H' : Hp} (m : Mv a H H') (la : l ≠ a) (h : H' l = none) : H l = none := by
  cases z : H l with
  | none => rfl
  | some u => rw [m l u la z] at h; cases h
theorem Pen.put' {H : Hp} {a l : Addr} {o : HO} (h : Pen H a) (la : l ≠ a) : Pen (upd H l o) a := let ⟨x0, x1, x2, ex⟩ := h; ⟨x0, x1, x2, by rw [upd_ne (Ne.symm la)]; exact ex⟩
theorem Pen.ne' {H : Hp} {a l : Addr} (h : Pen H a) (hl : H l = none) : l ≠ a := let ⟨_, _, _, ex⟩ := h; (ne_of_none ex hl).symm
/-! ### a list of lists of numbers -/
def RowV (K : PySem.W.Frag) (H : Hp) (x : V) (rs : List Rat) : Prop := ∃ a ys, x = .ref a ∧ SqL K H a ys ∧ Nums K H ys rs
abbrev Rows (K : PySem.W.Frag) (H : Hp) : List V → List (List Rat) → Prop := Paired (RowV K H)
end L2

/-! own layer, part 12: x in a list of numbers; points -/
namespace L2
open PySem PySem.Spec PyProof.Rows
section
variable {X : Cx}
/-- x in a list of things, by what stands there -/
@[irreducible] def rInD (K : PySem.W.Frag) (neg : Bool) : R2 := fun x y H Q => ∃ p ds d, y = .ref p ∧ Rds K H (.ref p) (.list ds) ∧ Rds K H x d ∧ SeqAt.shaped (.list ds) = true ∧ SeqAt.shaped d = true ∧ Q (.bl (if neg then !(ds.any fun y => PyData.eqv y d) else ds.any fun y => PyData.eqv y d)) H
theorem inD_of {K : PySem.W.Frag} {neg : Bool} {x y : V} {H : Hp} {Q : VK} (h : ∃ p ds d, y = .ref p ∧ Rds K H (.ref p) (.list ds) ∧ Rds K H x d ∧ SeqAt.shaped (.list ds) = true ∧ SeqAt.shaped d = true ∧ Q (.bl (if neg then !(ds.any fun y => PyData.eqv y d) else ds.any fun y => PyData.eqv y d)) H) : rInD K neg x y H Q := by
  unfold rInD; exact h
end
/-! ### points: tuples of numbers in a tuple -/
/-! ### told numbers -/
structure Told where
  x : Rat
  k : Int
  n : Rat
deriving DecidableEq
end L2

/-! own layer, part 13: xs[::-1] -/
namespace L2
open PySem PySem.Spec PyProof.Rows
section
variable {X : Cx} {e : Expr} {te : TE}
end
/-! ### tuples as targets of a comprehension -/
def StaysS (t : TGs) (nt : Nat) : Prop := ∀ (vs : List V) (σ : St) (H : Hp) (Q : St → Hp → Prop) (σ0 : St), (σ.length = σ0.length ∧ σ.drop nt = σ0.drop nt) → t vs σ H Q → t vs σ H fun σ2 H2 => (σ2.length = σ0.length ∧ σ2.drop nt = σ0.drop nt) ∧ Q σ2 H2
theorem stays_nilS {nt : Nat} : StaysS gNil nt := fun _ _ _ _ _ r ⟨e, q⟩ => ⟨e, r, q⟩
theorem stays_consS {i nt : Nat} {u : TGs} (h : i < nt) (hu : StaysS u nt) : StaysS (gCons (gName i) u) nt := fun vs σ H Q σ0 r ⟨v, rs, e, q⟩ => ⟨v, rs, e, hu rs (σ.set i (some v)) H Q σ0 ⟨by rw [List.length_set]; exact r.1, by
  rw [← r.2]
  apply List.ext_getElem?
  intro k
  rw [List.getElem?_drop, List.getElem?_drop, List.getElem?_set_ne (by lia)]⟩ q⟩
theorem stays_tup {K : PySem.W.Frag} {n nt : Nat} {t : TGs} (h : StaysS t nt) : Stays (gTup K n t) nt := fun _ σ H Q ⟨a, xs, e, s, l, q⟩ => ⟨a, xs, e, s, l, h xs σ H Q σ ⟨rfl, rfl⟩ q⟩
end L2

/-! own layer, part 14: curves are one where they come to the same; a division is one -/
namespace L2
def addL : List Rat → List Rat → List Rat
  | [], m => m
  | a :: l, [] => a :: l
  | a :: l, b :: m => (a + b) :: addL l m
theorem addL_nil (l : List Rat) : addL l [] = l := by cases l <;> rfl
theorem ev_addL (x : Rat) : ∀ l m, Cv.ev (addL l m) x = Cv.ev l x + Cv.ev m x
  | [], m => by show _ = 0 + _; grind [addL]
  | a :: l, [] => by show _ = _ + 0; rw [addL]; grind
  | a :: l, b :: m => by
    have ih := ev_addL x l m
    show (a + b) + x * Cv.ev (addL l m) x = (a + x * Cv.ev l x) + (b + x * Cv.ev m x)
    rw [ih]; grind
theorem addL_length : ∀ l m, (addL l m).length = max l.length m.length
  | [], m => by show m.length = max 0 m.length; lia
  | a :: l, [] => by show l.length + 1 = max (l.length + 1) 0; lia
  | a :: l, b :: m => by
    have ih := addL_length l m
    show (addL l m).length + 1 = max (l.length + 1) (m.length + 1)
    lia
theorem addL_far : ∀ (l m : List Rat) (i : Nat), l.length ≤ i → (addL l m)[i]? = m[i]?
  | [], m, i, _ => rfl
  | a :: l, [], i, h => by rw [addL_nil, List.getElem?_eq_none h]; rfl
  | a :: l, b :: m, 0, h => by simp at h
  | a :: l, b :: m, i + 1, h => by
    have ih := addL_far l m i (by simpa using h)
    show (addL l m)[i]? = m[i]?
    exact ih
def mulL : List Rat → List Rat → List Rat
  | [], _ => []
  | a :: l, m => addL (m.map (· * a)) (0 :: mulL l m)
theorem ev_mulL (x : Rat) (m : List Rat) : ∀ l, Cv.ev (mulL l m) x = Cv.ev l x * Cv.ev m x
  | [] => by show (0 : Rat) = 0 * _; grind
  | a :: l => by
    have ih := ev_mulL x m l
    show Cv.ev (addL (m.map (· * a)) (0 :: mulL l m)) x = (a + x * Cv.ev l x) * _
    rw [ev_addL, Cv.ev_scale]
    show _ + (0 + x * Cv.ev (mulL l m) x) = _
    rw [ih]; grind
theorem mulL_length (m : List Rat) (hm : 1 ≤ m.length) : ∀ l, 1 ≤ l.length → (mulL l m).length = l.length + m.length - 1
  | [], h => by simp at h
  | [a], _ => by
    show (addL (m.map (· * a)) [0]).length = 1 + m.length - 1
    rw [addL_length, List.length_map]
    show max m.length 1 = _
    lia
  | a :: b :: l, _ => by
    have ih := mulL_length m hm (b :: l) (by simp)
    show (addL (m.map (· * a)) (0 :: mulL (b :: l) m)).length = l.length + 1 + 1 + m.length - 1
    rw [addL_length, List.length_map]
    show max m.length ((mulL (b :: l) m).length + 1) = _
    rw [ih]
    show max m.length (l.length + 1 + m.length - 1 + 1) = _
    lia
theorem mulL_last (m : List Rat) (u : Rat) (hu : m[m.length - 1]? = some u) : ∀ (l : List Rat) (v : Rat), l[l.length - 1]? = some v → (mulL l m)[l.length + m.length - 2]? = some (u * v)
  | [], v, h => by simp at h
  | [a], v, h => by
    have hm : m.length - 1 < m.length := (List.getElem?_eq_some_iff.mp hu).1
    have e : a = v := by simpa using h
    subst e
    show (addL (m.map (· * a)) [0])[1 + m.length - 2]? = _
    cases m with
    | nil => simp at hm
    | cons b m' =>
      rw [show 1 + (b :: m').length - 2 = m'.length by simp only [List.length_cons]; lia]
      have hu' : (b :: m')[m'.length]? = some u := hu
      cases m' with
      | nil =>
        have e : b = u := by simpa using hu'
        subst e
        show some (b * a + 0) = some (b * a)
        congr 1; grind
      | cons c m'' =>
        show (addL ((c :: m'').map (· * a)) [])[m''.length]? = _
        rw [addL_nil, List.getElem?_map]
        have hu2 : (c :: m'')[m''.length]? = some u := hu'
        rw [hu2]; rfl
  | a :: b :: l, v, h => by
    have hm : m.length - 1 < m.length := (List.getElem?_eq_some_iff.mp hu).1
    have ih := mulL_last m u hu (b :: l) v h
    show (addL (m.map (· * a)) (0 :: mulL (b :: l) m))[l.length + 1 + 1 + m.length - 2]? = _
    rw [addL_far _ _ _ (by rw [List.length_map]; lia)]
    rw [show l.length + 1 + 1 + m.length - 2 = (l.length + 1 + m.length - 2) + 1 by lia]
    exact ih
theorem good_mul {l m : List Rat} (hl : Good l) (hm : Good m) (nl : l ≠ []) (nm : m ≠ []) : Good (mulL l m) := by
  rcases hl with h | ⟨v, hv, v0⟩
  · exact absurd h nl
  rcases hm with h | ⟨u, hu, u0⟩
  · exact absurd h nm
  have l1 : 1 ≤ l.length := List.length_pos_iff.mpr nl
  have m1 : 1 ≤ m.length := List.length_pos_iff.mpr nm
  refine .inr ⟨u * v, ?_, fun z => ?_⟩
  · rw [mulL_length m m1 l l1, show l.length + m.length - 1 - 1 = l.length + m.length - 2 by lia]
    exact mulL_last m u hu l v hv
  · rcases Rat.mul_eq_zero.mp z with z | z
    · exact u0 z
    · exact v0 z
theorem good_le {l m : List Rat} (hm : Good m) (hle : l.length ≤ m.length) (h : ∀ x, Cv.ev l x = Cv.ev m x) : l = m := by
  have e : l ++ List.replicate (m.length - l.length) 0 = m := by
    refine Cv.same_of _ _ (by rw [List.length_append, List.length_replicate]; lia) fun x => ?_
    rw [← Cv.ev_strip, Cv.strip_zeros, Cv.ev_strip]
    exact h x
  by_cases hlt : l.length < m.length
  · rcases hm with hm | ⟨q, hq, q0⟩
    · rw [hm] at hlt; simp at hlt
    · exfalso
      rw [← e, List.length_append, List.length_replicate, List.getElem?_append_right (by lia), List.getElem?_replicate, if_pos (by lia)] at hq
      exact q0 (Option.some.inj hq).symm
  · rw [show m.length - l.length = 0 by lia, List.replicate_zero, List.append_nil] at e
    exact e
/-- two curves that come to the same everywhere are one -/
theorem good_one {l m : List Rat} (hl : Good l) (hm : Good m) (h : ∀ x, Cv.ev l x = Cv.ev m x) : l = m := by
  by_cases hle : l.length ≤ m.length
  · exact good_le hm hle h
  · exact (good_le hl (by lia) fun x => (h x).symm).symm
/-- a division is one -/
theorem div_one {ps os rs os' rs' : List Rat} (hp : Good ps) (np : ps ≠ []) (ho : Good os) (ho' : Good os') (hr : Good rs) (hr' : Good rs') (l : rs.length < ps.length) (l' : rs'.length < ps.length)
    (h : ∀ x, Cv.ev os x * Cv.ev ps x + Cv.ev rs x = Cv.ev os' x * Cv.ev ps x + Cv.ev rs' x) : os = os' ∧ rs = rs' := by
  have key : Cv.strip (addL os (os'.map (· * (-1)))) = [] := by
    by_cases hD : Cv.strip (addL os (os'.map (· * (-1)))) = []
    · exact hD
    exfalso
    have gD := good_strip (addL os (os'.map (· * (-1))))
    have gM := good_mul gD hp hD np
    have gE := good_strip (addL rs' (rs.map (· * (-1))))
    have e := good_one gM gE fun x => by
      rw [ev_mulL, Cv.ev_strip, Cv.ev_strip, ev_addL, ev_addL, Cv.ev_scale, Cv.ev_scale]
      have := h x
      grind
    have p1 : 1 ≤ ps.length := List.length_pos_iff.mpr np
    have d1 : 1 ≤ (Cv.strip (addL os (os'.map (· * (-1))))).length := List.length_pos_iff.mpr hD
    have len := mulL_length ps p1 _ d1
    rw [e] at len
    have le := Cv.strip_length (addL rs' (rs.map (· * (-1))))
    rw [addL_length, List.length_map] at le
    lia
  have eo : os = os' := good_one ho ho' fun x => by
    have z : Cv.ev (Cv.strip (addL os (os'.map (· * (-1))))) x = 0 := by rw [key]; rfl
    rw [Cv.ev_strip, ev_addL, Cv.ev_scale] at z
    grind
  subst eo
  refine ⟨rfl, good_one hr hr' fun x => ?_⟩
  have := h x
  grind
open PySem PySem.Spec PyProof.Rows
end L2

/-! own layer, part 15: heights between two places -/
namespace L2
/-! how many ways there are to take k of n -/
def ch : Nat → Nat → Nat
  | _, 0 => 1
  | 0, _ + 1 => 0
  | n + 1, k + 1 => ch n k + ch n (k + 1)
/-! neighbours added, neighbours meant -/
/-! lists -/
def aQ (l : List Rat) : List Rat := (List.range (l.length - 1)).map fun j => l.getD j 0 + l.getD (j + 1) 0
def aQN : Nat → List Rat → List Rat
  | 0, l => l
  | n + 1, l => aQ (aQN n l)
/-- the numbers along the stretch, each over how many ways there are -/
def partsQ (al : List Rat) : List Rat := (List.range al.length).map fun k => al.getD k 0 / ((ch (al.length - 1) k : Nat) : Rat)
def htsQ (al : List Rat) : List Rat := (List.range al.length).map fun j => (aQN j (partsQ al)).getD 0 0
/-! a curve put together with a line, number by number -/
def goL (a b : Rat) : Rat → List Rat → List Rat
  | p, [] => [a * p]
  | p, c :: r => (a * p + b * c) :: goL a b c r
def compL (a b : Rat) : List Rat → List Rat
  | [] => []
  | q :: r => match compL a b r with
    | [] => [q]
    | c :: s => (q + b * c) :: goL a b c s
/-- the heights of a curve between two places -/
def hts (cs : List Rat) (lo hi : Rat) : List Rat := if cs = [] then [0] else htsQ (compL (hi - lo) lo cs)
end L2

/-! own layer, part 16: differences of a curve's heights, and their sums -/
namespace L2
def sd : List Rat → List Rat
  | [] => []
  | [_] => []
  | _ :: p :: r => addL (0 :: sd (p :: r)) (compL 1 1 (p :: r))
theorem cast_next (n : Nat) : ((n + 1 : Nat) : Rat) = ((n : Nat) : Rat) + 1 := by rw [Rat.natCast_add]; rfl
/-- knots j, j + 1, .. with steps c j, c (j + 1), .. -/
def nw (c : Nat → Rat) (x : Rat) : Nat → Nat → Rat
  | _, 0 => 0
  | j, n + 1 => c j + (x - ((j : Nat) : Rat)) * nw c x (j + 1) n
/-! whole heights -/
end L2

/-! own layer, part 17: the least and the greatest of a list of ints, and where one stands -/
namespace L2
open PySem PySem.Spec PyProof.Rows PySem.SeqAt
end L2

/-! own layer, part 18: slopes of curves; curves that are nought at told places -/
namespace L2
/-- the curve of the slopes -/
def dL : List Rat → List Rat
  | [] => []
  | _ :: r => addL r (0 :: dL r)
theorem ev_dL (q : Rat) (r : List Rat) (x : Rat) : Cv.ev (dL (q :: r)) x = Cv.ev r x + x * Cv.ev (dL r) x := by
  show Cv.ev (addL r (0 :: dL r)) x = _
  rw [ev_addL]
  show _ + (0 + x * Cv.ev (dL r) x) = _
  grind
def wL (l : List Rat) (c : Nat) : List Rat := (List.range l.length).map fun j => l.getD j 0 * ((j + c : Nat) : Rat)
theorem wL_cons (a : Rat) (r : List Rat) (c : Nat) : wL (a :: r) c = a * ((c : Nat) : Rat) :: wL r (c + 1) := by
  unfold wL
  show (List.range (r.length + 1)).map _ = _
  rw [List.range_succ_eq_map, List.map_cons, List.map_map]
  refine congr (congrArg List.cons ?_) ?_
  · show a * ((0 + c : Nat) : Rat) = _
    rw [Nat.zero_add]
  · refine List.map_congr_left fun j _ => ?_
    show r.getD j 0 * ((j + 1 + c : Nat) : Rat) = r.getD j 0 * ((j + (c + 1) : Nat) : Rat)
    rw [show j + 1 + c = j + (c + 1) by lia]
theorem ev_wL (x : Rat) : ∀ (l : List Rat) (c : Nat), Cv.ev (wL l c) x = ((c : Nat) : Rat) * Cv.ev l x + x * Cv.ev (dL l) x
  | [], c => by show (0 : Rat) = _ * 0 + x * 0; grind
  | a :: r, c => by
    rw [wL_cons, ev_dL]
    show a * ((c : Nat) : Rat) + x * Cv.ev (wL r (c + 1)) x = ((c : Nat) : Rat) * (a + x * Cv.ev r x) + _
    rw [ev_wL x r (c + 1), cast_next]
    grind
theorem slope_ev (x : Rat) : ∀ l : List Rat, Cv.ev ((List.range (l.length - 1)).map fun j => l.getD (j + 1) 0 * ((j + 1 : Nat) : Rat)) x = Cv.ev (dL l) x
  | [] => rfl
  | q :: r => by
    rw [ev_dL]
    have h := ev_wL x r 1
    have e : ((1 : Nat) : Rat) = 1 := rfl
    rw [e, Rat.one_mul] at h
    rw [← h]
    rfl
/-- the curve about a place -/
def ty (x : Rat) : List Rat → List Rat
  | [] => []
  | q :: r => addL (q :: ty x r) ((ty x r).map (· * x))
theorem ev_ty (x h : Rat) : ∀ l, Cv.ev (ty x l) h = Cv.ev l (x + h)
  | [] => rfl
  | q :: r => by
    have ih := ev_ty x h r
    show Cv.ev (addL (q :: ty x r) ((ty x r).map (· * x))) h = q + (x + h) * Cv.ev r (x + h)
    rw [ev_addL, Cv.ev_scale]
    show (q + h * Cv.ev (ty x r) h) + _ = _
    rw [ih]; grind
theorem getD_addL : ∀ (l m : List Rat) (k : Nat), (addL l m).getD k 0 = l.getD k 0 + m.getD k 0
  | [], m, k => by show m.getD k 0 = 0 + m.getD k 0; grind
  | a :: l, [], k => by show (a :: l).getD k 0 = (a :: l).getD k 0 + 0; grind
  | a :: l, b :: m, 0 => rfl
  | a :: l, b :: m, k + 1 => getD_addL l m k
theorem getD_scale (y : Rat) (l : List Rat) (k : Nat) : (l.map (· * y)).getD k 0 = l.getD k 0 * y := by
  rw [List.getD_eq_getElem?_getD, List.getD_eq_getElem?_getD, List.getElem?_map]
  cases l[k]? with
  | none => show (0 : Rat) = 0 * y; grind
  | some t => rfl
theorem ty_zero (x : Rat) : ∀ l, (ty x l).getD 0 0 = Cv.ev l x
  | [] => rfl
  | q :: r => by
    have ih := ty_zero x r
    show (addL (q :: ty x r) ((ty x r).map (· * x))).getD 0 0 = q + x * Cv.ev r x
    rw [getD_addL, getD_scale, ih]
    show q + _ = _
    grind
theorem ty_one (x : Rat) : ∀ l, (ty x l).getD 1 0 = Cv.ev (dL l) x
  | [] => rfl
  | q :: r => by
    have ih := ty_one x r
    have i0 := ty_zero x r
    rw [ev_dL]
    show (addL (q :: ty x r) ((ty x r).map (· * x))).getD 1 0 = _
    rw [getD_addL, getD_scale, ih]
    show (ty x r).getD 0 0 + _ = _
    rw [i0]; grind
/-- curves that come to the same at all whole places have the same numbers -/
theorem coef_one {l m : List Rat} (h : ∀ k : Nat, Cv.ev l ((k : Nat) : Rat) = Cv.ev m ((k : Nat) : Rat)) (k : Nat) : l.getD k 0 = m.getD k 0 := by
  have z := Cv.ident _ (addL l (m.map (· * (-1)))) (Nat.le_refl _) 0 fun k _ => by
    rw [ev_addL, Cv.ev_scale, h k]; grind
  have e : (addL l (m.map (· * (-1)))).getD k 0 = 0 := by
    rw [List.getD_eq_getElem?_getD]
    cases q : (addL l (m.map (· * (-1))))[k]? with
    | none => rfl
    | some t => exact z t (List.mem_of_getElem? q)
  rw [getD_addL, getD_scale] at e
  grind
theorem slope_one {l m : List Rat} (h : ∀ x, Cv.ev l x = Cv.ev m x) (x : Rat) : Cv.ev (dL l) x = Cv.ev (dL m) x := by
  rw [← ty_one, ← ty_one]
  exact coef_one (fun k => by rw [ev_ty, ev_ty, h]) 1
theorem getD_mul0 (a b : List Rat) : (mulL a b).getD 0 0 = a.getD 0 0 * b.getD 0 0 := by
  cases a with
  | nil => show (0 : Rat) = 0 * _; grind
  | cons a l =>
    show (addL (b.map (· * a)) (0 :: mulL l b)).getD 0 0 = a * _
    rw [getD_addL, getD_scale]
    show _ + 0 = _
    grind
theorem getD_mul1 (a b : List Rat) : (mulL a b).getD 1 0 = a.getD 0 0 * b.getD 1 0 + a.getD 1 0 * b.getD 0 0 := by
  cases a with
  | nil => show (0 : Rat) = 0 * _ + 0 * _; grind
  | cons a l =>
    show (addL (b.map (· * a)) (0 :: mulL l b)).getD 1 0 = a * _ + l.getD 0 0 * _
    rw [getD_addL, getD_scale]
    show _ + (mulL l b).getD 0 0 = _
    rw [getD_mul0]; grind
/-- the slope of a product -/
theorem slope_mul {l a b : List Rat} (h : ∀ x, Cv.ev l x = Cv.ev a x * Cv.ev b x) (x : Rat) : Cv.ev (dL l) x = Cv.ev a x * Cv.ev (dL b) x + Cv.ev (dL a) x * Cv.ev b x := by
  rw [← ty_one, ← ty_one, ← ty_one, ← ty_zero, ← ty_zero, ← getD_mul1]
  exact coef_one (fun k => by rw [ev_ty, ev_mulL, ev_ty, ev_ty, h]) 1
theorem slope_const (c x : Rat) : Cv.ev (dL [c]) x = 0 := by
  rw [ev_dL]; show (0 : Rat) + x * 0 = 0; grind
/-- what a curve is, divided by a line through a place -/
def quo (c : Rat) : List Rat → List Rat
  | [] => []
  | _ :: r => addL r ((quo c r).map (· * c))
theorem quo_ev (c x : Rat) : ∀ l, Cv.ev l x = Cv.ev l c + (x - c) * Cv.ev (quo c l) x
  | [] => by show (0 : Rat) = 0 + _ * 0; grind
  | q :: r => by
    have ih := quo_ev c x r
    show q + x * Cv.ev r x = (q + c * Cv.ev r c) + (x - c) * Cv.ev (addL r ((quo c r).map (· * c))) x
    rw [ev_addL, Cv.ev_scale]
    have h : (x - c) * (Cv.ev r x + Cv.ev (quo c r) x * c) = x * Cv.ev r x - c * (Cv.ev r x - (x - c) * Cv.ev (quo c r) x) := by grind
    rw [h, show Cv.ev r x - (x - c) * Cv.ev (quo c r) x = Cv.ev r c by grind]
    grind
end L2

/-! own layer, part 19: products of lines, and shares -/
namespace L2
end L2

/-! own layer, part 20: a comprehension with a test -/
namespace L2
open PySem PySem.Spec PyProof.Rows
end L2

/-! own layer, part 21: a tuple so many times -/
namespace PySem
open Sem (wp)
open Builtin
set_option maxRecDepth 100000
end PySem
namespace L2
open PySem PySem.Spec PyProof.Rows
variable {X : Cx}
end L2

/-! own layer, part 22: lists and tuples of tuples of numbers are compared -/
namespace L2
open PySem PySem.Spec PyProof.Rows
end L2

/-! own layer, part 23: numbers that are told of by their own object; dicts with such keys -/
namespace L2
open PySem PySem.Spec PyProof.Rows
theorem Room.units1 {k : Nat} {A : Around} (r : Room k A) : A.units + 1 < cLine := by have := r.un; lia
/-- a number as a key -/
def kQ (q : Rat) : List Key := [.inl q.num, .inl (q.den : Int)]
section
variable {K : PySem.W.Frag} {H H' : Hp} {x : V} {ps : List Rat} {xs : List V} {pss : List (List Rat)} {p : Addr} {ys : List V} {o : HO}
end
section
variable {K : PySem.W.Frag} {H H' : Hp} {x : V} {t : Told} {xs : List V} {ts : List Told} {p : Addr} {ys : List V} {o : HO}
end
end L2

/-! own layer, part 24: steps from a table, and the curve that they make -/
namespace L2
end L2

/-! own layer, part 25: the whole of a tuple, cut out -/
namespace HT
open PySem PyProof.Rows
open PySem.SeqAt
open PySem.AutoSeq1 (wpAny_loadPart')
open PySem.MeetsSeq PySem.MeetsSeq2 PySem.MeetsSeq3
end HT
namespace L2
open PySem PySem.Spec PyProof.Rows
section
variable {X : Cx} {K : PySem.W.Frag}
end
theorem cut_to (xs : List V) (v : Nat) : cutV xs none (some (v : Int)) = xs.take v := by
  unfold cutV
  have e1 : HT.sIx xs.length 0 none = 0 := rfl
  have e2 : HT.sIx xs.length xs.length (some (v : Int)) = min v xs.length := HT.sIx_nat _ _ v
  rw [e1, e2, List.drop_zero, Nat.sub_zero]
  by_cases h : v ≤ xs.length
  · rw [Nat.min_eq_left h]
  · rw [Nat.min_eq_right (by lia), List.take_of_length_le (Nat.le_refl _), List.take_of_length_le (by lia)]
end L2

/-! own layer, part 26: the sum of a list of ints; tuple + tuple, the first one empty too -/
namespace L2
open PySem PySem.Spec PyProof.Rows PySem.SeqAt
section
variable {X : Cx}
theorem _root_.HT.cat_tup0 {prog : Program} {w : World} {A : Around} {E : Value → Shared → Prop} {s : Shared} {t b : Addr} {ws : List Value} {Q : Value → Shared → Prop} (ht : IsTup s.heap t ([] : List Value).toArray) (hb : IsTup s.heap b ws.toArray)
    (h1 : Q (.ref b) s) : wpAny (model prog w) A (binaryOp .Add (.ref t) (.ref b)) Q E s := by
  obtain ⟨⟨cls, dd, data, sl⟩, ho, hc, n, hd⟩ := id ht
  obtain ⟨⟨cls2, dd2, data2, sl2⟩, ho2, hc2, n2, hd2⟩ := id hb
  simp only at hc hd hc2 hd2
  subst hc hd hc2 hd2
  exact concat_meets ⟨_, ho, rfl⟩ ⟨_, ho2, rfl⟩ noFill_tuple_add seq_tuple_add PySem.F.slot_tuple_add PySem.F.entry_tuple_add (PySem.F.args_tuple_add_2 _ _)
      (tuple_addW0 t b ([] : List Value).toArray ws.toArray n n2 dd dd2 sl sl2 (by simp)) ⟨ho, ho2, h1⟩
/-- t + u, whatever they hold -/
def rCatTA (K : PySem.W.Frag) : R2 := fun x y H Q => rCatT K x y H Q ∨ ∃ a b ys, x = .ref a ∧ y = .ref b ∧ SqT K H a [] ∧ SqT K H b ys ∧ Q (.ref b) H
theorem op_catTA : OpR X (binaryOp .Add) (rCatTA X.K) := by
  intro pins s σ H x y v u Q I rx ry h
  rcases h with h | ⟨a, b, ys, rfl, rfl, ha, hb, q⟩
  · exact op_catT pins s σ H x y v u Q I rx ry h
  · cases rx
    cases ry
    obtain ⟨its, r1, p1, _⟩ := I.tuple ha
    obtain ⟨its2, r2, p2, _⟩ := I.tuple hb
    cases r1
    exact HT.cat_tup0 p1 p2 ⟨.ref b, H, I, rfl, q⟩
theorem catTA (K : PySem.W.Frag) (e : X.K = K := by rfl) : OpR X (binaryOp .Add) (rCatTA K) := by subst e; exact op_catTA
end
end L2

/-! own layer, part 27: zip of two lists, in a loop with a tuple of targets -/
namespace L2
open PySem PySem.Spec PyProof.Rows
section
variable {X : Cx} {pins : List (Addr × Obj)} {σ : List (Option V)} {H : Hp} {s : Shared} {h' : Heap}
end
section
variable {X : Cx}
end
end L2

/-! own layer, part 28: the table of a set, where its places are found -/
namespace L2
open PySem PySem.Spec PyProof.Rows
namespace St
open SetTable
def it (mask : Nat) : Nat → Nat → Nat
  | 0, i => i
  | n + 1, i => it mask n ((i * 5 + 1) % (mask + 1))
/-- the places at which a run begins -/
def bs (mask : Nat) (b : Nat) : Nat → Nat × Nat
  | 0 => (b % (mask + 1), b)
  | n + 1 => leap mask (bs mask b n).1 (bs mask b n).2
def base (mask i pert : Nat) : Probe := { j := i, more := runEnd mask i - i, i, perturb := pert, dummy := none }
end St
end L2

/-! own layer, part 29: a number put into a set -/
namespace L2
open PySem PySem.Spec PyProof.Rows
namespace St
open SetTable
section
variable {prog : Program} {w : World} {K : Type} [DecidableEq K] (knd : KeyKind prog w K)
/-- a tuple of ints at a, as a key -/
def IsN (h : Heap) (ks : List K) (a : Addr) : Prop := ∃ o items n, h.get? a = some o ∧ o.cls = .type "tuple" ∧ o.data = .seq items n ∧ ItemsAre knd ks items.toList ∧ ∀ v ∈ items.toList, ∃ k t, v = .int k t
variable {knd}
variable {A : Around} {E : Value → Shared → Prop} {s : Shared}
/-- elements of a set that are numbers, none of them the key ks -/
def Ns (knd : KeyKind prog w K) (h : Heap) (l : List Value) (ks : List K) : Prop := ∀ v ∈ l, ∃ b k', v = .ref b ∧ IsN knd h k' b ∧ k' ≠ ks
end
end St
end L2

/-! own layer, part 30: a set's table laid anew -/
namespace L2
open PySem PySem.Spec PyProof.Rows
namespace St
open SetTable
end St
end L2

/-! own layer, part 31: a number put into a set of unlike numbers; set of a list of them; its length -/
namespace L2
open PySem PySem.Spec PyProof.Rows
namespace St
open SetTable
section
variable {prog : Program} {w : World} {K : Type} [DecidableEq K] (knd : KeyKind prog w K) (G : Addr → Prop)
variable {knd} {G}
variable {A : Around} {E : Value → Shared → Prop} {s : Shared}
end
end St
end L2

/-! own layer, part 32: set of a list of unlike numbers, its length -/
namespace L2
open PySem PySem.Spec PyProof.Rows
namespace St
section
variable {prog : Program} {w : World} {K : Type} [DecidableEq K] {knd : KeyKind prog w K} {G : Addr → Prop} {A : Around} {R : Result → Shared → Prop} {I : Addr} {fp wr : List Addr} {GG : Array GenState → Array GenState → Prop} {n : Nat} {P : Nat → Value → Prop} {St : Nat → Shared → Prop}
end
section
variable {prog : Program} {w : World} {K : Type} [DecidableEq K] {knd : KeyKind prog w K} {A : Around} {E : Value → Shared → Prop} {s : Shared}
end
end St
end L2

/-! own layer, part 33: set of a list of unlike numbers, and its length, as rules -/
namespace L2
open PySem PySem.Spec PyProof.Rows
/-- a set of n things, by its own object -/
def SetO (p : Addr) (n : Nat) : HO := .ext fun h => ∃ o es ep t, h.get? p = some o ∧ o.ExactSet ∧ o.data = .set es ep t ∧ SetTable.fits t es.size = true ∧ es.size = n
section
variable {X : Cx}
end
end L2

/-! own layer, part 34: isinstance of a list or a tuple, and several types -/
namespace L2
open PySem PySem.Spec PyProof.Rows
section
open PySem.W
variable {X : Cx} (K : PySem.W.Frag)
end
end L2

/-! own layer, part 35: a list comprehension whose target lies in a cell (another comprehension within closes over it) -/
namespace L2
open PySem PySem.Spec PyProof.Rows

structure CompOkC (X : Cx) (N : List Str) (nt : Nat) (js : List Nat) (scope : Scope) (x : Str) : Prop where
  kind : scope.kind = .function
  split : ∃ pre post, scope.names = pre ++ (x, .cell) :: post ∧ (∀ y ∈ pre, y.2 ≠ .cell) ∧ ∀ y ∈ post, y.2 ≠ .cell
  only : ∀ y ∈ scope.names, y.2 = .cell → y.1 = x
  lx : scope.names.lookup x = some .cell
  names : ∀ y ∈ scope.names, y.2 = .local → scope.names.lookup y.1 = some .local
  free : ∀ y ∈ scope.names, y.2 = .free → X.env.kindOf y.1 = some .cell ∨ X.env.kindOf y.1 = some .free
  len : N.length = nt + js.length
  outer : ∀ j i, js[j]? = some i → ∃ x, N[nt + j]? = some x ∧ X.N[i]? = some x ∧ scope.names.lookup x = some .free

section
variable {X : Cx} {N : List Str} {nt : Nat} {js : List Nat} {scope : Scope} {cl : List (Str × Addr)} {x : Str} {c : Addr}
end

section
variable {X : Cx} {N : List Str} {nt : Nat} {js : List Nat} {scope : Scope} {elt iter tg : Expr} {ifs : List Expr} {pos : Pos} {g : TG} {tc : TT} {te : TE} {wi : TI} {xn : Str}
end

end L2

/-! own layer, part 36: what follows a statement is written once -/
namespace L2
open PySem PySem.Spec PyProof.Rows
@[reducible] def Cl (u : PySem.W.Frag → TS) (K : PySem.W.Frag) : TS := u K
theorem pss_consC {X : Cx} {st : Stmt} {rest : List Stmt} {t v : TS} {K : PySem.W.Frag} {u : PySem.W.Frag → TS} (h1 : PS X st t) (h2 : PSs X rest v) (e : v = u K) : PSs X (st :: rest) (tSeq t (Cl u K)) := by
  subst e; exact pss_cons h1 h2
section
variable {X : Cx} {o e : Expr} {es : List Expr} {to : TE} {t : TA} {name : Str} {apos cpos : Pos} {T id : String} {r : V → List V → Hp → VK → Prop}
theorem pe_bmK0 (K : PySem.W.Frag) (pa : PlainAttrs T) (slot : Slot T name id) (hty : typeOf (.builtin id) = pure (.type "method_descriptor")) (hm : MtR X id r) (ho : PE X o to)
    (hbase : attributeBase o name X.env (eval o X.env) = eval o X.env := by rfl) (hline : (apos.endLine == cpos.line) = true := by rfl) (eK : X.K = K := by rfl) : PE X (.Call (.Attribute o name apos) [] [] cpos) (tBM0 K T r to) := pe_bm0 pa slot hty hm ho hbase hline eK
end
theorem iteTc {c : Bool} {A B : Prop} (e : c = true) (h : A) : if c = true then A else B := by
  rw [if_pos e]; exact h
theorem iteFc {c : Bool} {A B : Prop} (e : c = false) (h : B) : if c = true then A else B := by
  rw [if_neg (by rw [e]; decide)]; exact h
theorem len_succ {α : Type} {l : List α} {n : Nat} (h : l.length = n + 1) : ∃ a r, l = a :: r ∧ r.length = n := by
  cases l with
  | nil => cases h
  | cons a r => exact ⟨a, r, rfl, Nat.succ.inj h⟩
theorem Fun.binds1 {K : PySem.W.Frag} {x qual : Str} {st : Stmt} {f : Addr} {fd : FuncData} (p1 : Str) (F : Fun K x qual st f fd)
    (h : ∀ (kV doc pm : Value) (an : Option Addr) (cdv ct a1 : Value), bindArgs (PySem.W.fnOf x qual (defArgs st) (defBody st) (defScope st) .none kV doc pm an cdv ct) ⟨[a1], []⟩ = pure [(p1, a1)]) : Binds K fd [p1] [] :=
  F.binds fun kV doc pm an cdv ct us l0 => by
    obtain ⟨a1, r1, rfl, l1⟩ := len_succ l0
    cases List.length_eq_zero_iff.mp l1
    exact h kV doc pm an cdv ct a1
theorem Fun.binds2 {K : PySem.W.Frag} {x qual : Str} {st : Stmt} {f : Addr} {fd : FuncData} (p1 p2 : Str) (F : Fun K x qual st f fd)
    (h : ∀ (kV doc pm : Value) (an : Option Addr) (cdv ct a1 a2 : Value), bindArgs (PySem.W.fnOf x qual (defArgs st) (defBody st) (defScope st) .none kV doc pm an cdv ct) ⟨[a1, a2], []⟩ = pure [(p1, a1), (p2, a2)]) : Binds K fd [p1, p2] [] :=
  F.binds fun kV doc pm an cdv ct us l0 => by
    obtain ⟨a1, r1, rfl, l1⟩ := len_succ l0
    obtain ⟨a2, r2, rfl, l2⟩ := len_succ l1
    cases List.length_eq_zero_iff.mp l2
    exact h kV doc pm an cdv ct a1 a2
@[reducible] def L1 {α1 : Type} {δ : Type} (x1 : α1) (u : α1 → δ) : δ := u x1
@[reducible] def L2 {α1 α2 : Type} {δ : Type} (x1 : α1) (x2 : α2) (u : α1 → α2 → δ) : δ := u x1 x2
@[reducible] def L3 {α1 α2 α3 : Type} {δ : Type} (x1 : α1) (x2 : α2) (x3 : α3) (u : α1 → α2 → α3 → δ) : δ := u x1 x2 x3
@[reducible] def L4 {α1 α2 α3 α4 : Type} {δ : Type} (x1 : α1) (x2 : α2) (x3 : α3) (x4 : α4) (u : α1 → α2 → α3 → α4 → δ) : δ := u x1 x2 x3 x4
@[reducible] def L5 {α1 α2 α3 α4 α5 : Type} {δ : Type} (x1 : α1) (x2 : α2) (x3 : α3) (x4 : α4) (x5 : α5) (u : α1 → α2 → α3 → α4 → α5 → δ) : δ := u x1 x2 x3 x4 x5
@[reducible] def L6 {α1 α2 α3 α4 α5 α6 : Type} {δ : Type} (x1 : α1) (x2 : α2) (x3 : α3) (x4 : α4) (x5 : α5) (x6 : α6) (u : α1 → α2 → α3 → α4 → α5 → α6 → δ) : δ := u x1 x2 x3 x4 x5 x6
@[reducible] def L7 {α1 α2 α3 α4 α5 α6 α7 : Type} {δ : Type} (x1 : α1) (x2 : α2) (x3 : α3) (x4 : α4) (x5 : α5) (x6 : α6) (x7 : α7) (u : α1 → α2 → α3 → α4 → α5 → α6 → α7 → δ) : δ := u x1 x2 x3 x4 x5 x6 x7
@[reducible] def L8 {α1 α2 α3 α4 α5 α6 α7 α8 : Type} {δ : Type} (x1 : α1) (x2 : α2) (x3 : α3) (x4 : α4) (x5 : α5) (x6 : α6) (x7 : α7) (x8 : α8) (u : α1 → α2 → α3 → α4 → α5 → α6 → α7 → α8 → δ) : δ := u x1 x2 x3 x4 x5 x6 x7 x8
@[reducible] def L9 {α1 α2 α3 α4 α5 α6 α7 α8 α9 : Type} {δ : Type} (x1 : α1) (x2 : α2) (x3 : α3) (x4 : α4) (x5 : α5) (x6 : α6) (x7 : α7) (x8 : α8) (x9 : α9) (u : α1 → α2 → α3 → α4 → α5 → α6 → α7 → α8 → α9 → δ) : δ := u x1 x2 x3 x4 x5 x6 x7 x8 x9
@[reducible] def L10 {α1 α2 α3 α4 α5 α6 α7 α8 α9 α10 : Type} {δ : Type} (x1 : α1) (x2 : α2) (x3 : α3) (x4 : α4) (x5 : α5) (x6 : α6) (x7 : α7) (x8 : α8) (x9 : α9) (x10 : α10) (u : α1 → α2 → α3 → α4 → α5 → α6 → α7 → α8 → α9 → α10 → δ) : δ := u x1 x2 x3 x4 x5 x6 x7 x8 x9 x10
@[reducible] def L11 {α1 α2 α3 α4 α5 α6 α7 α8 α9 α10 α11 : Type} {δ : Type} (x1 : α1) (x2 : α2) (x3 : α3) (x4 : α4) (x5 : α5) (x6 : α6) (x7 : α7) (x8 : α8) (x9 : α9) (x10 : α10) (x11 : α11) (u : α1 → α2 → α3 → α4 → α5 → α6 → α7 → α8 → α9 → α10 → α11 → δ) : δ := u x1 x2 x3 x4 x5 x6 x7 x8 x9 x10 x11
@[reducible] def L12 {α1 α2 α3 α4 α5 α6 α7 α8 α9 α10 α11 α12 : Type} {δ : Type} (x1 : α1) (x2 : α2) (x3 : α3) (x4 : α4) (x5 : α5) (x6 : α6) (x7 : α7) (x8 : α8) (x9 : α9) (x10 : α10) (x11 : α11) (x12 : α12) (u : α1 → α2 → α3 → α4 → α5 → α6 → α7 → α8 → α9 → α10 → α11 → α12 → δ) : δ := u x1 x2 x3 x4 x5 x6 x7 x8 x9 x10 x11 x12
@[reducible] def L13 {α1 α2 α3 α4 α5 α6 α7 α8 α9 α10 α11 α12 α13 : Type} {δ : Type} (x1 : α1) (x2 : α2) (x3 : α3) (x4 : α4) (x5 : α5) (x6 : α6) (x7 : α7) (x8 : α8) (x9 : α9) (x10 : α10) (x11 : α11) (x12 : α12) (x13 : α13) (u : α1 → α2 → α3 → α4 → α5 → α6 → α7 → α8 → α9 → α10 → α11 → α12 → α13 → δ) : δ := u x1 x2 x3 x4 x5 x6 x7 x8 x9 x10 x11 x12 x13
@[reducible] def L14 {α1 α2 α3 α4 α5 α6 α7 α8 α9 α10 α11 α12 α13 α14 : Type} {δ : Type} (x1 : α1) (x2 : α2) (x3 : α3) (x4 : α4) (x5 : α5) (x6 : α6) (x7 : α7) (x8 : α8) (x9 : α9) (x10 : α10) (x11 : α11) (x12 : α12) (x13 : α13) (x14 : α14) (u : α1 → α2 → α3 → α4 → α5 → α6 → α7 → α8 → α9 → α10 → α11 → α12 → α13 → α14 → δ) : δ := u x1 x2 x3 x4 x5 x6 x7 x8 x9 x10 x11 x12 x13 x14
@[reducible] def L15 {α1 α2 α3 α4 α5 α6 α7 α8 α9 α10 α11 α12 α13 α14 α15 : Type} {δ : Type} (x1 : α1) (x2 : α2) (x3 : α3) (x4 : α4) (x5 : α5) (x6 : α6) (x7 : α7) (x8 : α8) (x9 : α9) (x10 : α10) (x11 : α11) (x12 : α12) (x13 : α13) (x14 : α14) (x15 : α15) (u : α1 → α2 → α3 → α4 → α5 → α6 → α7 → α8 → α9 → α10 → α11 → α12 → α13 → α14 → α15 → δ) : δ := u x1 x2 x3 x4 x5 x6 x7 x8 x9 x10 x11 x12 x13 x14 x15
@[reducible] def L16 {α1 α2 α3 α4 α5 α6 α7 α8 α9 α10 α11 α12 α13 α14 α15 α16 : Type} {δ : Type} (x1 : α1) (x2 : α2) (x3 : α3) (x4 : α4) (x5 : α5) (x6 : α6) (x7 : α7) (x8 : α8) (x9 : α9) (x10 : α10) (x11 : α11) (x12 : α12) (x13 : α13) (x14 : α14) (x15 : α15) (x16 : α16) (u : α1 → α2 → α3 → α4 → α5 → α6 → α7 → α8 → α9 → α10 → α11 → α12 → α13 → α14 → α15 → α16 → δ) : δ := u x1 x2 x3 x4 x5 x6 x7 x8 x9 x10 x11 x12 x13 x14 x15 x16
@[reducible] def L17 {α1 α2 α3 α4 α5 α6 α7 α8 α9 α10 α11 α12 α13 α14 α15 α16 α17 : Type} {δ : Type} (x1 : α1) (x2 : α2) (x3 : α3) (x4 : α4) (x5 : α5) (x6 : α6) (x7 : α7) (x8 : α8) (x9 : α9) (x10 : α10) (x11 : α11) (x12 : α12) (x13 : α13) (x14 : α14) (x15 : α15) (x16 : α16) (x17 : α17) (u : α1 → α2 → α3 → α4 → α5 → α6 → α7 → α8 → α9 → α10 → α11 → α12 → α13 → α14 → α15 → α16 → α17 → δ) : δ := u x1 x2 x3 x4 x5 x6 x7 x8 x9 x10 x11 x12 x13 x14 x15 x16 x17
@[reducible] def L18 {α1 α2 α3 α4 α5 α6 α7 α8 α9 α10 α11 α12 α13 α14 α15 α16 α17 α18 : Type} {δ : Type} (x1 : α1) (x2 : α2) (x3 : α3) (x4 : α4) (x5 : α5) (x6 : α6) (x7 : α7) (x8 : α8) (x9 : α9) (x10 : α10) (x11 : α11) (x12 : α12) (x13 : α13) (x14 : α14) (x15 : α15) (x16 : α16) (x17 : α17) (x18 : α18) (u : α1 → α2 → α3 → α4 → α5 → α6 → α7 → α8 → α9 → α10 → α11 → α12 → α13 → α14 → α15 → α16 → α17 → α18 → δ) : δ := u x1 x2 x3 x4 x5 x6 x7 x8 x9 x10 x11 x12 x13 x14 x15 x16 x17 x18
@[reducible] def L19 {α1 α2 α3 α4 α5 α6 α7 α8 α9 α10 α11 α12 α13 α14 α15 α16 α17 α18 α19 : Type} {δ : Type} (x1 : α1) (x2 : α2) (x3 : α3) (x4 : α4) (x5 : α5) (x6 : α6) (x7 : α7) (x8 : α8) (x9 : α9) (x10 : α10) (x11 : α11) (x12 : α12) (x13 : α13) (x14 : α14) (x15 : α15) (x16 : α16) (x17 : α17) (x18 : α18) (x19 : α19) (u : α1 → α2 → α3 → α4 → α5 → α6 → α7 → α8 → α9 → α10 → α11 → α12 → α13 → α14 → α15 → α16 → α17 → α18 → α19 → δ) : δ := u x1 x2 x3 x4 x5 x6 x7 x8 x9 x10 x11 x12 x13 x14 x15 x16 x17 x18 x19
@[reducible] def L20 {α1 α2 α3 α4 α5 α6 α7 α8 α9 α10 α11 α12 α13 α14 α15 α16 α17 α18 α19 α20 : Type} {δ : Type} (x1 : α1) (x2 : α2) (x3 : α3) (x4 : α4) (x5 : α5) (x6 : α6) (x7 : α7) (x8 : α8) (x9 : α9) (x10 : α10) (x11 : α11) (x12 : α12) (x13 : α13) (x14 : α14) (x15 : α15) (x16 : α16) (x17 : α17) (x18 : α18) (x19 : α19) (x20 : α20) (u : α1 → α2 → α3 → α4 → α5 → α6 → α7 → α8 → α9 → α10 → α11 → α12 → α13 → α14 → α15 → α16 → α17 → α18 → α19 → α20 → δ) : δ := u x1 x2 x3 x4 x5 x6 x7 x8 x9 x10 x11 x12 x13 x14 x15 x16 x17 x18 x19 x20
@[reducible] def L21 {α1 α2 α3 α4 α5 α6 α7 α8 α9 α10 α11 α12 α13 α14 α15 α16 α17 α18 α19 α20 α21 : Type} {δ : Type} (x1 : α1) (x2 : α2) (x3 : α3) (x4 : α4) (x5 : α5) (x6 : α6) (x7 : α7) (x8 : α8) (x9 : α9) (x10 : α10) (x11 : α11) (x12 : α12) (x13 : α13) (x14 : α14) (x15 : α15) (x16 : α16) (x17 : α17) (x18 : α18) (x19 : α19) (x20 : α20) (x21 : α21) (u : α1 → α2 → α3 → α4 → α5 → α6 → α7 → α8 → α9 → α10 → α11 → α12 → α13 → α14 → α15 → α16 → α17 → α18 → α19 → α20 → α21 → δ) : δ := u x1 x2 x3 x4 x5 x6 x7 x8 x9 x10 x11 x12 x13 x14 x15 x16 x17 x18 x19 x20 x21
@[reducible] def L22 {α1 α2 α3 α4 α5 α6 α7 α8 α9 α10 α11 α12 α13 α14 α15 α16 α17 α18 α19 α20 α21 α22 : Type} {δ : Type} (x1 : α1) (x2 : α2) (x3 : α3) (x4 : α4) (x5 : α5) (x6 : α6) (x7 : α7) (x8 : α8) (x9 : α9) (x10 : α10) (x11 : α11) (x12 : α12) (x13 : α13) (x14 : α14) (x15 : α15) (x16 : α16) (x17 : α17) (x18 : α18) (x19 : α19) (x20 : α20) (x21 : α21) (x22 : α22) (u : α1 → α2 → α3 → α4 → α5 → α6 → α7 → α8 → α9 → α10 → α11 → α12 → α13 → α14 → α15 → α16 → α17 → α18 → α19 → α20 → α21 → α22 → δ) : δ := u x1 x2 x3 x4 x5 x6 x7 x8 x9 x10 x11 x12 x13 x14 x15 x16 x17 x18 x19 x20 x21 x22
@[reducible] def L23 {α1 α2 α3 α4 α5 α6 α7 α8 α9 α10 α11 α12 α13 α14 α15 α16 α17 α18 α19 α20 α21 α22 α23 : Type} {δ : Type} (x1 : α1) (x2 : α2) (x3 : α3) (x4 : α4) (x5 : α5) (x6 : α6) (x7 : α7) (x8 : α8) (x9 : α9) (x10 : α10) (x11 : α11) (x12 : α12) (x13 : α13) (x14 : α14) (x15 : α15) (x16 : α16) (x17 : α17) (x18 : α18) (x19 : α19) (x20 : α20) (x21 : α21) (x22 : α22) (x23 : α23) (u : α1 → α2 → α3 → α4 → α5 → α6 → α7 → α8 → α9 → α10 → α11 → α12 → α13 → α14 → α15 → α16 → α17 → α18 → α19 → α20 → α21 → α22 → α23 → δ) : δ := u x1 x2 x3 x4 x5 x6 x7 x8 x9 x10 x11 x12 x13 x14 x15 x16 x17 x18 x19 x20 x21 x22 x23
@[reducible] def L24 {α1 α2 α3 α4 α5 α6 α7 α8 α9 α10 α11 α12 α13 α14 α15 α16 α17 α18 α19 α20 α21 α22 α23 α24 : Type} {δ : Type} (x1 : α1) (x2 : α2) (x3 : α3) (x4 : α4) (x5 : α5) (x6 : α6) (x7 : α7) (x8 : α8) (x9 : α9) (x10 : α10) (x11 : α11) (x12 : α12) (x13 : α13) (x14 : α14) (x15 : α15) (x16 : α16) (x17 : α17) (x18 : α18) (x19 : α19) (x20 : α20) (x21 : α21) (x22 : α22) (x23 : α23) (x24 : α24) (u : α1 → α2 → α3 → α4 → α5 → α6 → α7 → α8 → α9 → α10 → α11 → α12 → α13 → α14 → α15 → α16 → α17 → α18 → α19 → α20 → α21 → α22 → α23 → α24 → δ) : δ := u x1 x2 x3 x4 x5 x6 x7 x8 x9 x10 x11 x12 x13 x14 x15 x16 x17 x18 x19 x20 x21 x22 x23 x24
theorem ps_ifC {X : Cx} {c : Expr} {a b : List Stmt} {pos : Pos} {tc : TT} {v1 v2 : TS} {K : PySem.W.Frag} {u1 u2 : PySem.W.Frag → TS} (hc : PT X c tc) (ha : PSs X a v1) (hb : PSs X b v2) (e1 : v1 = u1 K) (e2 : v2 = u2 K) : PS X (.If c a b pos) (tIfS tc (Cl u1 K) (Cl u2 K)) := by
  subst e1; subst e2; exact ps_if hc ha hb
theorem ps_forC {X : Cx} {tg iter : Expr} {body : List Stmt} {wi : TI} {g : TG} {v : TS} {pos : Pos} {K : PySem.W.Frag} {u : PySem.W.Frag → TS} (hp : PassesOwn (model X.prog X.w) X.A X.env X.xe) (hc : X.calm = true) (hi : PI X tg iter wi) (hg : PG X tg g) (hb : PSs X body v) (e : v = u K)
    (hs : ∀ x, foldedSetIterable iter X.env x = pure x := by intro _; rfl) : PS X (.For tg iter body [] pos) (tFor wi g (Cl u K)) := by
  subst e; exact ps_for hp hc hi hg hb hs
/-! ### what lia would say, said once -/
end L2

/-! own: determinants of rows of whole numbers, by the first column; what the rows behind one another leave -/
namespace Dt
def skip (i a : Nat) : Nat := if a < i then a else a + 1
def sg (i : Nat) : Int := if i % 2 = 0 then 1 else -1
def sumN (f : Nat → Int) : Nat → Int
  | 0 => 0
  | n + 1 => sumN f n + f n
def det : Nat → (Nat → Nat → Int) → Nat → Int
  | 0, M, j => M 0 j
  | n + 1, M, j => sumN (fun i => sg i * (M i 0 * det n (fun a b => M (skip i a) (b + 1)) j)) (n + 2)
theorem sg_succ (i : Nat) : sg (i + 1) = - sg i := by
  unfold sg
  rcases Nat.mod_two_eq_zero_or_one i with h | h
  · rw [if_neg (by lia), if_pos h]
  · rw [if_pos (by lia), if_neg (by lia)]; rfl
theorem sum_congr {f g : Nat → Int} : ∀ {n}, (∀ i, i < n → f i = g i) → sumN f n = sumN g n
  | 0, _ => rfl
  | n + 1, h => by
    show sumN f n + f n = sumN g n + g n
    rw [sum_congr (fun i hi => h i (by lia)), h n (by lia)]
theorem sum_zero {f : Nat → Int} : ∀ {n}, (∀ i, i < n → f i = 0) → sumN f n = 0
  | 0, _ => rfl
  | n + 1, h => by
    show sumN f n + f n = 0
    rw [sum_zero (fun i hi => h i (by lia)), h n (by lia)]; rfl
theorem sum_lin {f g h : Nat → Int} {x y : Int} : ∀ {n}, (∀ i, i < n → f i = x * g i + y * h i) → sumN f n = x * sumN g n + y * sumN h n
  | 0, _ => by show (0 : Int) = x * 0 + y * 0; grind
  | n + 1, e => by
    show sumN f n + f n = x * (sumN g n + g n) + y * (sumN h n + h n)
    rw [sum_lin (fun i hi => e i (by lia)), e n (by lia)]; grind
theorem sum_two {f : Nat → Int} {p : Nat} (h2 : f p + f (p + 1) = 0) : ∀ {n}, p + 1 < n → (∀ i, i < n → i ≠ p → i ≠ p + 1 → f i = 0) → sumN f n = 0
  | 0, h, _ => absurd h (by lia)
  | n + 1, h, hz => by
    show sumN f n + f n = 0
    by_cases e : p + 1 = n
    · subst e
      show sumN f p + f p + f (p + 1) = 0
      rw [sum_zero (fun i hi => hz i (by lia) (by lia) (by lia))]; grind
    · rw [sum_two h2 (n := n) (by lia) (fun i hi => hz i (by lia)), hz n (by lia) (by lia) (by lia)]; rfl
theorem sum_first {f : Nat → Int} : ∀ {n}, (∀ i, 1 ≤ i → i < n + 1 → f i = 0) → sumN f (n + 1) = f 0
  | 0, _ => by show 0 + f 0 = f 0; grind
  | n + 1, h => by
    show sumN f (n + 1) + f (n + 1) = f 0
    rw [sum_first (n := n) (fun i h1 h2 => h i h1 (by lia)), h (n + 1) (by lia) (by lia)]; grind
theorem skip_le {i a n : Nat} (h : a ≤ n) : skip i a ≤ n + 1 := by unfold skip; split <;> lia
theorem skip_ne (i a : Nat) : skip i a ≠ i := by unfold skip; split <;> lia
theorem det_congr : ∀ {n : Nat} {M M' : Nat → Nat → Int} {j : Nat}, (∀ a, a ≤ n → ∀ b, M a b = M' a b) → det n M j = det n M' j
  | 0, M, M', j, h => h 0 (Nat.le_refl _) j
  | n + 1, M, M', j, h => sum_congr fun i hi => by
    rw [h i (by lia) 0, det_congr (n := n) fun a ha b => h _ (skip_le ha) (b + 1)]
/-- row p changed for u -/
def put (M : Nat → Nat → Int) (p : Nat) (u : Nat → Int) : Nat → Nat → Int := fun a b => if a = p then u b else M a b
theorem put_at (M : Nat → Nat → Int) (p : Nat) (u : Nat → Int) (b : Nat) : put M p u p b = u b := if_pos rfl
theorem put_ne {M : Nat → Nat → Int} {p a : Nat} {u : Nat → Int} (h : a ≠ p) (b : Nat) : put M p u a b = M a b := if_neg h
/-- where a row stands when row i is gone -/
def low (i p : Nat) : Nat := if p < i then p else p - 1
theorem skip_iff {i p a : Nat} (h : i ≠ p) : skip i a = p ↔ a = low i p := by unfold skip low; split <;> split <;> lia
theorem low_le {i p n : Nat} (h : i ≠ p) (hp : p ≤ n + 1) (hi : i ≤ n + 1) : low i p ≤ n := by unfold low; split <;> lia
theorem minor_put {M : Nat → Nat → Int} {i p : Nat} {u : Nat → Int} (h : i ≠ p) : (fun a b => put M p u (skip i a) (b + 1)) = put (fun a b => M (skip i a) (b + 1)) (low i p) fun b => u (b + 1) := by
  funext a b
  unfold put
  by_cases e : skip i a = p
  · rw [if_pos e, if_pos ((skip_iff h).mp e)]
  · rw [if_neg e, if_neg (fun z => e ((skip_iff h).mpr z))]
theorem minor_own {M : Nat → Nat → Int} {p : Nat} {u : Nat → Int} : (fun a b => put M p u (skip p a) (b + 1)) = fun a b => M (skip p a) (b + 1) := by
  funext a b
  exact put_ne (skip_ne p a) _
theorem det_lin : ∀ {n : Nat} {M : Nat → Nat → Int} {p : Nat} {u v : Nat → Int} {x y : Int} {j : Nat}, p ≤ n → det n (put M p fun b => x * u b + y * v b) j = x * det n (put M p u) j + y * det n (put M p v) j
  | 0, M, p, u, v, x, y, j, h => by
    obtain rfl : p = 0 := by lia
    rfl
  | n + 1, M, p, u, v, x, y, j, h => sum_lin fun i hi => by
    by_cases e : i = p
    · subst e
      rw [put_at, put_at, put_at, minor_own, minor_own, minor_own]; grind
    · rw [put_ne e, put_ne e, put_ne e, minor_put e, minor_put e, minor_put e, det_lin (low_le e h (by lia))]; grind
theorem det_adj : ∀ {n : Nat} {M : Nat → Nat → Int} {p j : Nat}, p + 1 ≤ n → (∀ b, M p b = M (p + 1) b) → det n M j = 0
  | 0, _, _, _, h, _ => absurd h (by lia)
  | n + 1, M, p, j, h, he => by
    refine sum_two (p := p) ?_ (by lia) fun i hi h1 h2 => ?_
    · rw [sg_succ, ← he 0]
      have e : det n (fun a b => M (skip (p + 1) a) (b + 1)) j = det n (fun a b => M (skip p a) (b + 1)) j := det_congr fun a ha b => by
        unfold skip
        by_cases h1 : a < p
        · rw [if_pos h1, if_pos (by lia)]
        · by_cases h2 : a = p
          · subst h2
            rw [if_pos (by lia), if_neg (by lia)]; exact he _
          · rw [if_neg (by lia), if_neg h1]
      rw [e]; grind
    · have z : det n (fun a b => M (skip i a) (b + 1)) j = 0 := by
        by_cases hlt : i < p
        · obtain ⟨q, rfl⟩ : ∃ q, p = q + 1 := ⟨p - 1, by lia⟩
          refine det_adj (p := q) (by lia) fun b => ?_
          show M (skip i q) _ = M (skip i (q + 1)) _
          have e1 : skip i q = q + 1 := by unfold skip; rw [if_neg (by lia)]
          have e2 : skip i (q + 1) = q + 1 + 1 := by unfold skip; rw [if_neg (by lia)]
          rw [e1, e2]; exact he _
        · refine det_adj (p := p) (by lia) fun b => ?_
          show M (skip i p) _ = M (skip i (p + 1)) _
          have e1 : skip i p = p := by unfold skip; rw [if_pos (by lia)]
          have e2 : skip i (p + 1) = p + 1 := by unfold skip; rw [if_pos (by lia)]
          rw [e1, e2]; exact he _
      rw [z]; grind
/-- rows p and p + 1 changed about -/
def swp (M : Nat → Nat → Int) (p : Nat) : Nat → Nat → Int := put (put M p (M (p + 1))) (p + 1) (M p)
theorem put_comm (M : Nat → Nat → Int) {p q : Nat} (h : p ≠ q) (u v : Nat → Int) : put (put M p u) q v = put (put M q v) p u := by
  funext a b; unfold put; split <;> split <;> first | rfl | lia
theorem put_self (M : Nat → Nat → Int) (p : Nat) : put M p (M p) = M := by
  funext a b; unfold put; split
  · subst_vars; rfl
  · rfl
theorem det_add {n : Nat} {M : Nat → Nat → Int} {p : Nat} {u v : Nat → Int} {j : Nat} (h : p ≤ n) : det n (put M p fun b => u b + v b) j = det n (put M p u) j + det n (put M p v) j := by
  have := det_lin (M := M) (u := u) (v := v) (x := 1) (y := 1) (j := j) h
  rw [Int.one_mul, Int.one_mul] at this
  rw [← this]
  congr 2
  funext b
  rw [Int.one_mul, Int.one_mul]
theorem det_swp {n : Nat} {M : Nat → Nat → Int} {p j : Nat} (h : p + 1 ≤ n) : det n (swp M p) j = - det n M j := by
  have z : ∀ u : Nat → Int, det n (put (put M p u) (p + 1) u) j = 0 := fun u => det_adj h fun b => by
    rw [put_at, put_ne (by lia), put_at]
  have bi : ∀ u v u' v' : Nat → Int, det n (put (put M p fun b => u b + v b) (p + 1) fun b => u' b + v' b) j =
      det n (put (put M p u) (p + 1) u') j + det n (put (put M p v) (p + 1) u') j + (det n (put (put M p u) (p + 1) v') j + det n (put (put M p v) (p + 1) v') j) := fun u v u' v' => by
    have c : ∀ u w, put (put M p u) (p + 1) w = put (put M (p + 1) w) p u := fun u w => put_comm M (by lia) u w
    rw [det_add h, c _ u', c _ v', det_add (by lia), det_add (by lia), c, c, c, c]
  have key := z fun b => M p b + M (p + 1) b
  rw [bi, z, z] at key
  have e : put (put M p (M p)) (p + 1) (M (p + 1)) = M := by rw [put_self, put_self]
  rw [e] at key
  unfold swp
  grind
/-- two rows alike -/
theorem det_two : ∀ (d : Nat) {n : Nat} {M : Nat → Nat → Int} {p j : Nat}, p + 1 + d ≤ n → (∀ b, M p b = M (p + 1 + d) b) → det n M j = 0
  | 0, n, M, p, j, h, he => det_adj h he
  | d + 1, n, M, p, j, h, he => by
    have s := det_swp (M := M) (p := p + 1 + d) (j := j) (n := n) (by lia)
    have z : det n (swp M (p + 1 + d)) j = 0 := det_two d (p := p) (by lia) fun b => by
      unfold swp
      rw [put_ne (by lia), put_ne (by lia), put_ne (by lia), put_at]
      exact he b
    lia
theorem det_eq {n : Nat} {M : Nat → Nat → Int} {p q j : Nat} (hp : p ≤ n) (hq : q ≤ n) (hpq : p ≠ q) (he : ∀ b, M p b = M q b) : det n M j = 0 := by
  rcases Nat.lt_or_gt_of_ne hpq with h | h
  · obtain ⟨d, rfl⟩ : ∃ d, q = p + 1 + d := ⟨q - p - 1, by lia⟩
    exact det_two d hq he
  · obtain ⟨d, rfl⟩ : ∃ d, p = q + 1 + d := ⟨p - q - 1, by lia⟩
    exact det_two d hp fun b => (he b).symm
theorem det_scale {n : Nat} {M : Nat → Nat → Int} {p : Nat} {u : Nat → Int} {c : Int} {j : Nat} (h : p ≤ n) : det n (put M p fun b => c * u b) j = c * det n (put M p u) j := by
  have := det_lin (M := M) (u := u) (v := u) (x := c) (y := 0) (j := j) h
  have e : (fun b => c * u b + 0 * u b) = fun b => c * u b := by funext b; grind
  rw [e] at this
  rw [this]; grind
/-- so often another row more -/
theorem det_more {n : Nat} {M : Nat → Nat → Int} {p q : Nat} {u : Nat → Int} {c : Int} {j : Nat} (hp : p ≤ n) (hq : q ≤ n) (h : p ≠ q) : det n (put M p fun b => u b + c * M q b) j = det n (put M p u) j := by
  rw [det_add hp, det_scale hp, det_eq (M := put M p (M q)) hp hq h (fun b => by rw [put_at, put_ne (Ne.symm h)])]; grind
/-- so often some others more -/
theorem det_mores {n : Nat} {M : Nat → Nat → Int} {p : Nat} {u : Nat → Int} {c : Nat → Int} {r : Nat → Nat} {j : Nat} (hp : p ≤ n) : ∀ t, (∀ i, i < t → r i ≤ n ∧ r i ≠ p) → det n (put M p fun b => u b + sumN (fun i => c i * M (r i) b) t) j = det n (put M p u) j
  | 0, _ => by
    have e : (fun b => u b + sumN (fun i => c i * M (r i) b) 0) = u := by funext b; show u b + 0 = u b; lia
    rw [e]
  | t + 1, h => by
    have e : (fun b => u b + sumN (fun i => c i * M (r i) b) (t + 1)) = fun b => (u b + sumN (fun i => c i * M (r i) b) t) + c t * M (r t) b := by
      funext b; show u b + (_ + _) = _; grind
    rw [e, det_more hp (h t (by lia)).1 (Ne.symm (h t (by lia)).2)]
    exact det_mores hp t fun i hi => h i (by lia)
/-- the first row alone begins in the first column -/
theorem det_peel {n : Nat} {M : Nat → Nat → Int} {j : Nat} (h : ∀ i, 1 ≤ i → i ≤ n + 1 → M i 0 = 0) : det (n + 1) M j = M 0 0 * det n (fun a b => M (a + 1) (b + 1)) j := by
  show sumN _ (n + 1 + 1) = _
  rw [sum_first fun i h1 h2 => by rw [h i h1 (by lia)]; grind]
  have e : det n (fun a b => M (skip 0 a) (b + 1)) j = det n (fun a b => M (a + 1) (b + 1)) j := rfl
  rw [e]
  show sg 0 * _ = _
  have : sg 0 = 1 := rfl
  rw [this]; grind
/-! ### two blocks of rows: row i of each begins i columns behind -/
def sh (i : Nat) (v : Nat → Int) : Nat → Int := fun b => if b < i then 0 else v (b - i)
/-- p rows of g, then rows of f -/
def syl (p : Nat) (g f : Nat → Int) : Nat → Nat → Int := fun a => if a < p then sh a g else sh (a - p) f
/-- rows of f, so many times and so often the g's less: rows of r -/
theorem syl_less {p q : Nat} {g f r : Nat → Int} {c : Int} {e : Nat → Int} {d j : Nat} (hd : d + q ≤ p + 1) (hf : ∀ b, c * f b = r b + sumN (fun t => e t * sh t g b) d) (hq : 0 < q) :
    c ^ q * det (p + q - 1) (syl p g f) j = det (p + q - 1) (syl p g r) j := by
  -- the first t rows of f are changed
  have key : ∀ t, t ≤ q → c ^ t * det (p + q - 1) (syl p g f) j = det (p + q - 1) (fun a => if a < p then sh a g else if a - p < t then sh (a - p) r else sh (a - p) f) j := by
    intro t
    induction t with
    | zero =>
      intro _
      rw [Int.pow_zero, Int.one_mul]
      refine det_congr fun a _ b => ?_
      unfold syl
      by_cases h : a < p
      · rw [if_pos h, if_pos h]
      · rw [if_neg h, if_neg h, if_neg (by lia)]
    | succ t ih =>
      intro ht
      have ih := ih (by lia)
      rw [Int.pow_succ, Int.mul_comm (c ^ t) c, Int.mul_assoc, ih]
      generalize hM : (fun a => if a < p then sh a g else if a - p < t then sh (a - p) r else sh (a - p) f) = M
      have hMp : M (p + t) = sh t f := by rw [← hM]; show (if p + t < p then _ else if p + t - p < t then _ else sh (p + t - p) f) = _; rw [if_neg (by lia), if_neg (by lia), Nat.add_sub_cancel_left]
      have hMg : ∀ i, i < p → M i = sh i g := fun i hi => by rw [← hM]; exact if_pos hi
      have e1 : det (p + q - 1) M j = det (p + q - 1) (put M (p + t) (sh t f)) j := by rw [← hMp, put_self]
      rw [e1, ← det_scale (by lia)]
      have e2 : (fun b => c * sh t f b) = fun b => sh t r b + sumN (fun i => e i * M (i + t) b) d := by
        funext b
        have e3 : sumN (fun i => e i * M (i + t) b) d = sumN (fun i => e i * sh (i + t) g b) d := sum_congr fun i hi => by rw [hMg _ (by lia)]
        rw [e3]
        unfold sh
        by_cases hb : b < t
        · rw [if_pos hb, if_pos hb, sum_zero fun i _ => by rw [if_pos (by lia)]; grind]; grind
        · rw [if_neg hb, if_neg hb, hf (b - t)]
          congr 1
          refine sum_congr fun i _ => ?_
          unfold sh
          by_cases h2 : b - t < i
          · rw [if_pos h2, if_pos (by lia)]
          · rw [if_neg h2, if_neg (by lia), show b - t - i = b - (i + t) by lia]
      rw [e2, det_mores (r := fun i => i + t) (c := e) (by lia) d fun i hi => ⟨by lia, by lia⟩]
      refine det_congr fun a _ b => ?_
      unfold put
      by_cases ha : a = p + t
      · rw [if_pos ha, if_neg (by lia), if_pos (by lia), show a - p = t by lia]
      · rw [if_neg ha, ← hM]
        dsimp only
        by_cases h : a < p
        · rw [if_pos h, if_pos h]
        · rw [if_neg h, if_neg h]
          by_cases h2 : a - p < t
          · rw [if_pos h2, if_pos (by lia)]
          · rw [if_neg h2, if_neg (by lia)]
  rw [key q (Nat.le_refl _)]
  refine det_congr fun a ha b => ?_
  unfold syl
  by_cases h : a < p
  · rw [if_pos h, if_pos h]
  · rw [if_neg h, if_neg h, if_pos (by lia)]
/-- a row of g is taken off at the top -/
theorem syl_peel {p q : Nat} {g f : Nat → Int} {j : Nat} (hf : f 0 = 0) (hn : 1 ≤ p + q) : det (p + q) (syl (p + 1) g f) j = g 0 * det (p + q - 1) (syl p g fun b => f (b + 1)) j := by
  obtain ⟨n, hn'⟩ : ∃ n, p + q = n + 1 := ⟨p + q - 1, by lia⟩
  rw [hn', Nat.add_sub_cancel]
  rw [det_peel fun i h1 h2 => ?_]
  · have e0 : syl (p + 1) g f 0 0 = g 0 := by unfold syl; rw [if_pos (by lia)]; rfl
    rw [e0]
    congr 1
    refine det_congr fun a _ b => ?_
    unfold syl
    by_cases h : a < p
    · rw [if_pos h, if_pos (by lia)]
      unfold sh
      by_cases h2 : b < a
      · rw [if_pos h2, if_pos (by lia)]
      · rw [if_neg h2, if_neg (by lia), show b + 1 - (a + 1) = b - a by lia]
    · rw [if_neg h, if_neg (by lia), show a + 1 - (p + 1) = a - p by lia]
      unfold sh
      by_cases h2 : b < a - p
      · rw [if_pos h2]
        by_cases h3 : b + 1 < a - p
        · rw [if_pos h3]
        · rw [if_neg h3, show b + 1 - (a - p) = 0 by lia]; exact hf
      · rw [if_neg h2, if_neg (by lia), show b + 1 - (a - p) = b - (a - p) + 1 by lia]
  · unfold syl
    by_cases h : i < p + 1
    · rw [if_pos h]; unfold sh; rw [if_pos (by lia)]
    · rw [if_neg h]; unfold sh
      by_cases h3 : 0 < i - (p + 1)
      · rw [if_pos h3]
      · rw [if_neg h3, Nat.zero_sub]; exact hf
theorem syl_peels {q : Nat} {g : Nat → Int} {j : Nat} : ∀ (t p : Nat) {f : Nat → Int}, (∀ i, i < t → f i = 0) → 1 ≤ p + q → det (p + t + q - 1) (syl (p + t) g f) j = g 0 ^ t * det (p + q - 1) (syl p g fun b => f (b + t)) j
  | 0, p, f, _, _ => by
    rw [Int.pow_zero, Int.one_mul]; rfl
  | t + 1, p, f, h, hn => by
    have e := syl_peel (p := p + t) (q := q) (g := g) (f := f) (j := j) (h 0 (by lia)) (by lia)
    rw [show p + (t + 1) + q - 1 = p + t + q by lia, show p + (t + 1) = p + t + 1 by lia, e]
    rw [syl_peels t p (f := fun b => f (b + 1)) (fun i hi => h (i + 1) (by lia)) hn, Int.pow_succ]
    have e2 : (fun b => f (b + t + 1)) = fun b => f (b + (t + 1)) := rfl
    rw [e2]; grind
/-! ### the blocks change places -/
/-- row p goes down to row p + d -/
theorem det_down {n : Nat} : ∀ (d : Nat) {M : Nat → Nat → Int} {p : Nat}, p + d ≤ n → ∃ s : Int, (s = 1 ∨ s = -1) ∧ ∀ j, det n (fun a => if a < p then M a else if a < p + d then M (a + 1) else if a = p + d then M p else M a) j = s * det n M j
  | 0, M, p, h => ⟨1, .inl rfl, fun j => by
    rw [Int.one_mul]
    refine det_congr fun a _ b => ?_
    by_cases h1 : a < p
    · rw [if_pos h1]
    · rw [if_neg h1, if_neg (by lia)]
      by_cases h2 : a = p + 0
      · rw [if_pos h2, h2]; rfl
      · rw [if_neg h2]⟩
  | d + 1, M, p, h => by
    obtain ⟨s, hs, e⟩ := det_down (n := n) d (M := M) (p := p) (by lia)
    refine ⟨-s, by lia, fun j => ?_⟩
    have sw := det_swp (M := fun a => if a < p then M a else if a < p + d then M (a + 1) else if a = p + d then M p else M a) (p := p + d) (j := j) (n := n) (by lia)
    rw [e] at sw
    rw [Int.neg_mul, ← sw]
    refine det_congr fun a _ b => ?_
    unfold swp put
    dsimp only
    by_cases h1 : a = p + d + 1
    · rw [if_pos h1, if_neg (by lia), if_neg (by lia), if_pos (by lia), if_neg (by lia), if_neg (by lia), if_pos rfl]
    · rw [if_neg h1]
      by_cases h2 : a = p + d
      · rw [if_pos h2, if_neg (by lia), if_pos (by lia), if_neg (by lia), if_neg (by lia), if_neg (by lia), h2]
      · rw [if_neg h2]
        by_cases h3 : a < p
        · rw [if_pos h3, if_pos h3]
        · rw [if_neg h3, if_neg h3]
          by_cases h4 : a < p + d
          · rw [if_pos h4, if_pos (by lia)]
          · rw [if_neg h4, if_neg (by lia), if_neg (by lia), if_neg h2]
/-- all rows go round, t of them -/
theorem det_round {n : Nat} {M : Nat → Nat → Int} : ∀ t, t ≤ n + 1 → ∃ s : Int, (s = 1 ∨ s = -1) ∧ ∀ j, det n (fun a => if a + t ≤ n then M (a + t) else M (a + t - (n + 1))) j = s * det n M j
  | 0, _ => ⟨1, .inl rfl, fun j => by
    rw [Int.one_mul]
    refine det_congr fun a ha b => ?_
    rw [if_pos (by lia)]; rfl⟩
  | t + 1, h => by
    obtain ⟨s, hs, e⟩ := det_round (n := n) (M := M) t (by lia)
    obtain ⟨s', hs', e'⟩ := det_down n (M := fun a => if a + t ≤ n then M (a + t) else M (a + t - (n + 1))) (p := 0) (n := n) (by lia)
    refine ⟨s' * s, by rcases hs with rfl | rfl <;> rcases hs' with rfl | rfl <;> decide, fun j => ?_⟩
    rw [Int.mul_assoc, ← e, ← e']
    refine det_congr fun a ha b => ?_
    rw [if_neg (show ¬ a < 0 by lia)]
    by_cases h1 : a < 0 + n
    · rw [if_pos h1]
      by_cases h2 : a + (t + 1) ≤ n
      · rw [if_pos h2, if_pos (by lia), show a + 1 + t = a + (t + 1) by lia]
      · rw [if_neg h2, if_neg (by lia), show a + 1 + t = a + (t + 1) by lia]
    · obtain rfl : a = n := by lia
      rw [if_neg h1, if_pos (show a = 0 + a by lia), if_pos (show 0 + t ≤ a by lia), if_neg (show ¬ a + (t + 1) ≤ a by lia), show a + (t + 1) - (a + 1) = 0 + t by lia]
/-- p rows of g and q rows of f, the other way round -/
theorem syl_round {p q : Nat} {g f : Nat → Int} (h : 1 ≤ p + q) : ∃ s : Int, (s = 1 ∨ s = -1) ∧ ∀ j, det (p + q - 1) (syl q f g) j = s * det (p + q - 1) (syl p g f) j := by
  obtain ⟨s, hs, e⟩ := det_round (n := p + q - 1) (M := syl p g f) p (by lia)
  refine ⟨s, hs, fun j => ?_⟩
  rw [← e]
  refine det_congr fun a ha b => ?_
  unfold syl
  by_cases h1 : a < q
  · rw [if_pos h1, if_pos (by lia), if_neg (by lia), Nat.add_sub_cancel]
  · rw [if_neg h1, if_neg (by lia), if_pos (by lia), show a + p - (p + q - 1 + 1) = a - q by lia]
/-! ### the step from one pair of curves to the next: m, n, l their widths less one -/
/-- k numbers fewer: rows of g: m - k, of f: n - k; f is of degree m, g of degree n -/
def sub (m n k : Nat) (f g : Nat → Int) (j : Nat) : Int := det (m - k + (n - k) - 1) (syl (m - k) g f) j
theorem sub_step {m n l k : Nat} {f g r : Nat → Int} {e : Nat → Int} (hnm : n ≤ m) (hln : l < n) (hkl : k ≤ l) (hr0 : ∀ i, i < m - l → r i = 0)
    (hf : ∀ b, g 0 ^ (m - n + 1) * f b = r b + sumN (fun t => e t * sh t g b) (m - n + 1)) :
    ∃ s : Int, (s = 1 ∨ s = -1) ∧ ∀ j, (g 0 ^ (m - n + 1)) ^ (n - k) * sub m n k f g j = s * (g 0 ^ (m - l) * sub n l k g (fun b => r (b + (m - l))) j) := by
  obtain ⟨s, hs, e1⟩ := syl_round (p := l - k) (q := n - k) (g := g) (f := fun b => r (b + (m - l))) (by lia)
  refine ⟨s, hs, fun j => ?_⟩
  unfold sub
  rw [syl_less (q := n - k) (by lia) hf (by lia)]
  have e2 := syl_peels (q := n - k) (g := g) (j := j) (m - l) (l - k) (f := r) hr0 (by lia)
  rw [show l - k + (m - l) + (n - k) - 1 = m - k + (n - k) - 1 by lia, show l - k + (m - l) = m - k by lia] at e2
  rw [e2, show n - k + (l - k) - 1 = l - k + (n - k) - 1 by lia, e1]
  rcases hs with rfl | rfl <;> grind
/-- the rest itself, so many numbers fewer -/
theorem sub_rest {m n : Nat} {f g r : Nat → Int} {e : Nat → Int} {j : Nat} (hnm : n ≤ m) (hn : 0 < n) (hg : g 0 ≠ 0) (hr0 : ∀ i, i < m - n + 1 → r i = 0)
    (hf : ∀ b, g 0 ^ (m - n + 1) * f b = r b + sumN (fun t => e t * sh t g b) (m - n + 1)) : sub m n (n - 1) f g j = r (j + (m - n + 1)) := by
  have e1 := syl_less (p := m - (n - 1)) (q := n - (n - 1)) (j := j) (by lia) hf (by lia)
  have e2 := syl_peels (q := n - (n - 1)) (g := g) (j := j) (m - n + 1) 0 (f := r) hr0 (by lia)
  rw [show 0 + (m - n + 1) = m - (n - 1) by lia] at e2
  rw [e2, show n - (n - 1) = 1 by lia, Int.pow_one] at e1
  have e3 : det (0 + 1 - 1) (syl 0 g fun b => r (b + (m - n + 1))) j = r (j + (m - n + 1)) := rfl
  rw [e3] at e1
  unfold sub
  rw [show n - (n - 1) = 1 by lia]
  exact Int.eq_of_mul_eq_mul_left (Int.pow_ne_zero hg) e1
/-- the rows of one curve alone -/
theorem sub_one {m n : Nat} {f g : Nat → Int} {j : Nat} (h : n < m) : sub m n n f g j = g 0 ^ (m - n - 1) * g j := by
  unfold sub
  rw [Nat.sub_self, Nat.add_zero]
  have key : ∀ t, det t (syl (t + 1) g f) j = g 0 ^ t * g j := by
    intro t
    induction t with
    | zero =>
      rw [Int.pow_zero, Int.one_mul]
      show syl 1 g f 0 j = _
      unfold syl sh
      rw [if_pos (by lia)]; rfl
    | succ t ih =>
      rw [det_peel fun i h1 h2 => by unfold syl; rw [if_pos (by lia)]; unfold sh; rw [if_pos (by lia)]]
      have e0 : syl (t + 1 + 1) g f 0 0 = g 0 := by unfold syl; rw [if_pos (by lia)]; rfl
      have e1 : det t (fun a b => syl (t + 1 + 1) g f (a + 1) (b + 1)) j = det t (syl (t + 1) g f) j := det_congr fun a ha b => by
        unfold syl
        rw [if_pos (by lia), if_pos (by lia)]
        unfold sh
        by_cases h2 : b < a
        · rw [if_pos h2, if_pos (by lia)]
        · rw [if_neg h2, if_neg (by lia), show b + 1 - (a + 1) = b - a by lia]
      rw [e0, e1, ih, Int.pow_succ]; grind
  have := key (m - n - 1)
  rw [show m - n - 1 + 1 = m - n by lia] at this
  exact this
theorem sub_scale {m n k : Nat} {f g : Nat → Int} {c : Int} {j : Nat} (h : k < m) : sub m n k f (fun b => c * g b) j = c ^ (m - k) * sub m n k f g j := by
  unfold sub
  have key : ∀ t, t ≤ m - k → det (m - k + (n - k) - 1) (fun a => if a < t then sh a (fun b => c * g b) else syl (m - k) g f a) j = c ^ t * det (m - k + (n - k) - 1) (syl (m - k) g f) j := by
    intro t
    induction t with
    | zero =>
      intro _
      rw [Int.pow_zero, Int.one_mul]
      exact det_congr fun a _ b => by rw [if_neg (by lia)]
    | succ t ih =>
      intro ht
      rw [Int.pow_succ, Int.mul_comm (c ^ t) c, Int.mul_assoc, ← ih (by lia)]
      generalize hM : (fun a => if a < t then sh a (fun b => c * g b) else syl (m - k) g f a) = M
      have hMt : M t = sh t g := by rw [← hM]; show (if t < t then _ else syl (m - k) g f t) = _; rw [if_neg (by lia)]; exact if_pos (by lia)
      have e1 : det (m - k + (n - k) - 1) M j = det (m - k + (n - k) - 1) (put M t (sh t g)) j := by rw [← hMt, put_self]
      rw [e1, ← det_scale (by lia)]
      refine det_congr fun a _ b => ?_
      unfold put
      by_cases h1 : a = t
      · rw [if_pos (by lia), if_pos h1, h1]
        unfold sh; split <;> grind
      · rw [if_neg h1, ← hM]
        dsimp only
        by_cases h2 : a < t
        · rw [if_pos h2, if_pos (by lia)]
        · rw [if_neg h2, if_neg (by lia)]
  rw [← key (m - k) (Nat.le_refl _)]
  refine det_congr fun a _ b => ?_
  unfold syl
  by_cases h1 : a < m - k
  · rw [if_pos h1, if_pos h1]
  · rw [if_neg h1, if_neg h1, if_neg h1]
end Dt
namespace Dt
/-- what holds ahead of each turn: S are the parts of the first two curves -/
structure Srs (S : Nat → Nat → Int) (m n : Nat) (f g : Nat → Int) (lead held : Int) : Prop where
  le : n ≤ m
  g0 : g 0 ≠ 0
  l0 : lead ≠ 0
  h0 : held ≠ 0
  one : n < m ∨ (lead = 1 ∧ held = 1)
  is : ∀ k, k ≤ n → ∃ s : Int, (s = 1 ∨ s = -1) ∧ ∀ j, lead ^ (n - k) * held ^ (m - k - 1) * S k j = s * sub m n k f g j
theorem Srs.first {m n : Nat} {f g : Nat → Int} (h : n ≤ m) (hg : g 0 ≠ 0) : Srs (fun k j => sub m n k f g j) m n f g 1 1 :=
  ⟨h, hg, by decide, by decide, .inr ⟨rfl, rfl⟩, fun k _ => ⟨1, .inl rfl, fun j => by rw [Int.one_pow, Int.one_pow]; grind⟩⟩
section
variable {S : Nat → Nat → Int} {m n : Nat} {f g r : Nat → Int} {e : Nat → Int} {lead held : Int}
/-- the next turn -/
theorem Srs.next {l : Nat} {h : Nat → Int} {held' : Int} (I : Srs S m n f g lead held) (hln : l < n) (hr0 : ∀ i, i < m - l → r i = 0)
    (hf : ∀ b, g 0 ^ (m - n + 1) * f b = r b + sumN (fun t => e t * sh t g b) (m - n + 1)) (hr : ∀ b, r (b + (m - l)) = lead * held ^ (m - n) * h b) (h00 : h 0 ≠ 0)
    (hh : (n < m ∧ g 0 ^ (m - n) = held ^ (m - n - 1) * held') ∨ (m = n ∧ held' = held)) (hh0 : held' ≠ 0) : Srs S n l g h (g 0) held' := by
  refine ⟨by lia, h00, I.g0, hh0, .inl hln, fun k hk => ?_⟩
  have hle := I.le
  obtain ⟨s1, hs1, e1⟩ := I.is k (by lia)
  obtain ⟨s2, hs2, e2⟩ := sub_step hle hln hk hr0 hf
  refine ⟨s1 * s2, by rcases hs1 with rfl | rfl <;> rcases hs2 with rfl | rfl <;> decide, fun j => ?_⟩
  replace e1 := e1 j
  replace e2 := e2 j
  have er : (fun b => r (b + (m - l))) = fun b => lead * held ^ (m - n) * h b := funext hr
  rw [er, sub_scale (by lia)] at e2
  obtain ⟨a, ha⟩ : ∃ a, n - k = a + 1 := ⟨n - k - 1, by lia⟩
  obtain ⟨d, hd⟩ : ∃ d, m = n + d := ⟨m - n, by lia⟩
  have e1' : lead ^ (a + 1) * held ^ (a + d) * S k j = s1 * sub m n k f g j := by
    rw [ha, show m - k - 1 = a + d by lia] at e1; exact e1
  have e2' : (g 0 ^ (d + 1)) ^ (a + 1) * sub m n k f g j = s2 * (g 0 ^ (m - l) * ((lead * held ^ d) ^ (a + 1) * sub n l k g h j)) := by
    rw [ha, show m - n = d by lia] at e2; exact e2
  generalize sub m n k f g j = D at e1' e2'
  generalize sub n l k g h j = D' at e2'
  generalize S k j = T at e1'
  -- together
  have e3 : (g 0 ^ (d + 1)) ^ (a + 1) * (lead ^ (a + 1) * held ^ (a + d) * T) = s1 * s2 * (g 0 ^ (m - l) * ((lead * held ^ d) ^ (a + 1) * D')) := by
    rw [e1']
    have : (g 0 ^ (d + 1)) ^ (a + 1) * (s1 * D) = s1 * ((g 0 ^ (d + 1)) ^ (a + 1) * D) := by grind
    rw [this, e2']; grind
  rw [show n - k - 1 = a by lia]
  have z1 : lead ^ (a + 1) ≠ 0 := Int.pow_ne_zero I.l0
  have z2 : g 0 ^ (m - l) ≠ 0 := Int.pow_ne_zero I.g0
  have z3 : held ^ (d * (a + 1)) ≠ 0 := Int.pow_ne_zero I.h0
  have eF : (lead * held ^ d) ^ (a + 1) = lead ^ (a + 1) * held ^ (d * (a + 1)) := by rw [Int.mul_pow, ← Int.pow_mul]
  rw [eF] at e3
  refine Int.eq_of_mul_eq_mul_left (a := lead ^ (a + 1)) z1 (Int.eq_of_mul_eq_mul_left (a := g 0 ^ (m - l)) z2 (Int.eq_of_mul_eq_mul_left (a := held ^ (d * (a + 1))) z3 ?_))
  have eG : (g 0 ^ (d + 1)) ^ (a + 1) = g 0 ^ (m - l) * g 0 ^ (l - k) * g 0 ^ (d * a) := by
    rw [← Int.pow_mul, ← Int.pow_add, ← Int.pow_add]
    congr 1
    have : (d + 1) * (a + 1) = d * a + d + a + 1 := by rw [Nat.add_mul, Nat.mul_add]; lia
    lia
  rw [eG] at e3
  have eH : held ^ (d * (a + 1)) * held' ^ a = held ^ (a + d) * g 0 ^ (d * a) := by
    rcases hh with ⟨hlt, hh⟩ | ⟨he, hh⟩
    · obtain ⟨d', rfl⟩ : ∃ d', d = d' + 1 := ⟨d - 1, by lia⟩
      rw [show m - n = d' + 1 by lia, show d' + 1 - 1 = d' by lia] at hh
      rw [Int.pow_mul (a := g 0), hh, Int.mul_pow, ← Int.pow_mul]
      have x1 : (d' + 1) * (a + 1) = (a + (d' + 1)) + d' * a := by rw [Nat.add_mul, Nat.mul_add]; lia
      rw [x1, Int.pow_add]; grind
    · obtain rfl : d = 0 := by lia
      subst hh
      rcases I.one with z | ⟨_, z⟩
      · lia
      · rw [z, Int.one_pow, Int.one_pow, Int.one_pow, Nat.zero_mul, Int.pow_zero]
  have : held ^ (d * (a + 1)) * (g 0 ^ (m - l) * (lead ^ (a + 1) * (g 0 ^ (l - k) * held' ^ a * T))) = g 0 ^ (m - l) * lead ^ (a + 1) * g 0 ^ (l - k) * T * (held ^ (d * (a + 1)) * held' ^ a) := by grind
  rw [this, eH]
  have : held ^ (d * (a + 1)) * (g 0 ^ (m - l) * (lead ^ (a + 1) * (s1 * s2 * D'))) = s1 * s2 * (g 0 ^ (m - l) * (lead ^ (a + 1) * held ^ (d * (a + 1)) * D')) := by grind
  rw [this, ← e3]; grind
end
/-- how great a determinant may be -/
theorem sum_abs {f : Nat → Int} {X : Nat} : ∀ {n}, (∀ i, i < n → (f i).natAbs ≤ X) → (sumN f n).natAbs ≤ n * X
  | 0, _ => by show (0 : Int).natAbs ≤ 0 * X; simp
  | n + 1, h => by
    have ih := sum_abs (f := f) (X := X) (n := n) fun i hi => h i (by lia)
    have hn := h n (by lia)
    show (sumN f n + f n).natAbs ≤ _
    have := Int.natAbs_add_le (sumN f n) (f n)
    rw [Nat.add_mul, Nat.one_mul]
    lia
end Dt
/-! own layer, part 45: rests of rests of whole tops -/
namespace L2
open Dt
theorem sum_shift (f : Nat → Int) : ∀ n, sumN f (n + 1) = f 0 + sumN (fun t => f (t + 1)) n
  | 0 => by show 0 + f 0 = f 0 + 0; lia
  | n + 1 => by
    have ih := sum_shift f n
    show sumN f (n + 1) + f (n + 1) = f 0 + (sumN (fun t => f (t + 1)) n + f (n + 1))
    rw [ih]; lia
theorem sum_rev (f : Nat → Int) : ∀ n, sumN f n = sumN (fun t => f (n - 1 - t)) n
  | 0 => rfl
  | n + 1 => by
    have ih := sum_rev f n
    rw [sum_shift (fun t => f (n + 1 - 1 - t)) n]
    show sumN f n + f n = f (n + 1 - 1 - 0) + _
    rw [ih, show n + 1 - 1 - 0 = n by lia]
    have e : sumN (fun t => f (n + 1 - 1 - (t + 1))) n = sumN (fun t => f (n - 1 - t)) n := sum_congr fun t _ => by rw [show n + 1 - 1 - (t + 1) = n - 1 - t by lia]
    rw [e]; lia
theorem getD_cast (l : List Int) (i : Nat) : (l.map fun t : Int => (t : Rat)).getD i 0 = ((l.getD i 0 : Int) : Rat) := by
  rw [List.getD_eq_getElem?_getD, List.getD_eq_getElem?_getD, List.getElem?_map]
  cases l[i]? <;> rfl
/-- a product's number at i -/
def cvI (l m : List Int) (i : Nat) : Int := sumN (fun t => l.getD t 0 * (if t ≤ i then m.getD (i - t) 0 else 0)) l.length
theorem cvI_is (m : List Int) : ∀ (l : List Int) (i : Nat), (mulL (l.map fun t : Int => (t : Rat)) (m.map fun t : Int => (t : Rat))).getD i 0 = ((cvI l m i : Int) : Rat)
  | [], i => by
    show ([] : List Rat).getD i 0 = _
    cases i <;> rfl
  | a :: l, i => by
    have ih := cvI_is m l
    have e1 : cvI (a :: l) m i = a * m.getD i 0 + (match i with | 0 => 0 | j + 1 => cvI l m j) := by
      unfold cvI
      rw [List.length_cons, sum_shift]
      congr 1
      match i with
      | 0 => exact sum_zero fun t _ => by rw [if_neg (by lia)]; exact Int.mul_zero _
      | j + 1 =>
        refine sum_congr fun t _ => ?_
        show l.getD t 0 * _ = l.getD t 0 * _
        by_cases h : t ≤ j
        · rw [if_pos h, if_pos (by lia), show j + 1 - (t + 1) = j - t by lia]
        · rw [if_neg h, if_neg (by lia)]
    show (addL ((m.map fun t : Int => (t : Rat)).map (· * (a : Rat))) (0 :: mulL (l.map fun t : Int => (t : Rat)) (m.map fun t : Int => (t : Rat)))).getD i 0 = _
    rw [getD_addL, getD_scale, getD_cast, e1, Rat.intCast_add, Rat.intCast_mul]
    match i with
    | 0 =>
      show _ + (0 : Rat) = _ + ((0 : Int) : Rat)
      rw [Rat.intCast_zero]; grind
    | j + 1 =>
      show _ + (mulL _ _).getD j 0 = _ + ((cvI l m j : Int) : Rat)
      rw [ih j]; grind
/-- a division of whole tops, number by number -/
theorem div_coef {fs gs os rs : List Int} {c : Int} (h : ∀ x, Cv.evI fs x * ((c : Int) : Rat) = Cv.evI os x * Cv.evI gs x + Cv.evI rs x) (i : Nat) : c * fs.getD i 0 = cvI os gs i + rs.getD i 0 := by
  have e := coef_one (l := (fs.map fun t : Int => (t : Rat)).map (· * ((c : Int) : Rat))) (m := addL (mulL (os.map fun t : Int => (t : Rat)) (gs.map fun t : Int => (t : Rat))) (rs.map fun t : Int => (t : Rat))) (fun k => by
    rw [Cv.ev_scale, ev_addL, ev_mulL]; exact h _) i
  rw [getD_scale, getD_addL, cvI_is, getD_cast, getD_cast, ← Rat.intCast_mul, ← Rat.intCast_add] at e
  have := Rat.intCast_inj.mp e
  rw [← this]; exact Int.mul_comm _ _
/-- the numbers from the top -/
def tf (l : List Int) : Nat → Int := fun b => if b < l.length then l.getD (l.length - 1 - b) 0 else 0
/-- the rest as it stands below the first curve's numbers -/
def rf (m : Nat) (rs : List Int) : Nat → Int := fun b => if b ≤ m then rs.getD (m - b) 0 else 0
theorem div_rows {fs gs os rs : List Int} {c : Int} {m n : Nat} (hm : fs.length = m + 1) (hn : gs.length = n + 1) (hnm : n ≤ m) (ho : os.length = m - n + 1) (hr : rs.length = n)
    (h : ∀ x, Cv.evI fs x * ((c : Int) : Rat) = Cv.evI os x * Cv.evI gs x + Cv.evI rs x) (b : Nat) :
    c * tf fs b = rf m rs b + sumN (fun t => os.getD (m - n - t) 0 * sh t (tf gs) b) (m - n + 1) := by
  by_cases hb : b ≤ m
  · have e := div_coef h (m - b)
    unfold cvI at e
    rw [ho, sum_rev] at e
    have e1 : tf fs b = fs.getD (m - b) 0 := by unfold tf; rw [if_pos (by lia), hm, show m + 1 - 1 - b = m - b by lia]
    have e2 : rf m rs b = rs.getD (m - b) 0 := if_pos hb
    rw [e1, e2, e, Int.add_comm]
    congr 1
    refine sum_congr fun t ht => ?_
    rw [show m - n + 1 - 1 - t = m - n - t by lia]
    congr 1
    unfold sh tf
    by_cases h1 : b < t
    · rw [if_pos h1, if_pos (by lia), List.getD_eq_getElem?_getD, List.getElem?_eq_none (by lia)]; rfl
    · rw [if_neg h1]
      by_cases h2 : b - t < gs.length
      · rw [if_pos h2, if_pos (by lia), show gs.length - 1 - (b - t) = m - b - (m - n - t) by lia]
      · rw [if_neg h2, if_neg (by lia)]
  · have e1 : tf fs b = 0 := if_neg (by lia)
    have e2 : rf m rs b = 0 := if_neg hb
    rw [e1, e2, sum_zero fun t ht => ?_]
    · lia
    · unfold sh tf
      rw [if_neg (by lia), if_neg (by lia)]; lia
theorem rf_low {m n : Nat} {rs : List Int} (hr : rs.length = n) {i : Nat} (hi : i < m - n + 1) (hnm : n ≤ m) : rf m rs i = 0 := by
  unfold rf
  rw [if_pos (by lia), List.getD_eq_getElem?_getD, List.getElem?_eq_none (by lia)]; rfl
/-- two rests one behind the other: what is known ahead of a turn -/
structure LR (S : Nat → Nat → Int) (fs gs : List Int) (lead held : Int) : Prop where
  fp : 1 ≤ fs.length
  srs : 1 ≤ gs.length → Srs S (fs.length - 1) (gs.length - 1) (tf fs) (tf gs) lead held
theorem tf_top {l : List Int} {t : Int} (h : l[l.length - 1]? = some t) : tf l 0 = t := by
  have hl := (List.getElem?_eq_some_iff.mp h).1
  unfold tf
  rw [if_pos (by lia), Nat.sub_zero, List.getD_eq_getElem?_getD, h]; rfl
theorem LR.first {fs gs : List Int} (hf : 1 ≤ fs.length) (hle : gs.length ≤ fs.length) (hg : ∀ t, gs[gs.length - 1]? = some t → t ≠ 0) : LR (fun k j => sub (fs.length - 1) (gs.length - 1) k (tf fs) (tf gs) j) fs gs 1 1 :=
  ⟨hf, fun h1 => Srs.first (by lia) (by
    have e : gs[gs.length - 1]? = some (gs[gs.length - 1]'(by lia)) := List.getElem?_eq_getElem _
    rw [tf_top e]; exact hg _ e)⟩
/-- the next turn -/
theorem LR.next {S : Nat → Nat → Int} {fs gs os rs hs : List Int} {lead held held' g : Int} {w : Nat} (I : LR S fs gs lead held) (hg : gs[gs.length - 1]? = some g) (hle : gs.length ≤ fs.length) (ho : os.length = fs.length + 1 - gs.length) (hr : rs.length = gs.length - 1)
    (h : ∀ x, Cv.evI fs x * ((g ^ os.length : Int) : Rat) = Cv.evI os x * Cv.evI gs x + Cv.evI rs x) (hw : w ≤ rs.length) (hz : ∀ j, w ≤ j → rs.getD j 0 = 0) (hlast : 1 ≤ w → rs.getD (w - 1) 0 ≠ 0)
    (hh : hs.length = w) (he : ∀ j, rs.getD j 0 = lead * held ^ (fs.length - gs.length) * hs.getD j 0)
    (hd : (gs.length < fs.length ∧ g ^ (fs.length - gs.length) = held ^ (fs.length - gs.length - 1) * held') ∨ (fs.length = gs.length ∧ held' = held)) (hd0 : held' ≠ 0) : LR S gs hs g held' := by
  have hl := (List.getElem?_eq_some_iff.mp hg).1
  refine ⟨by lia, fun h1 => ?_⟩
  obtain ⟨m, hm⟩ : ∃ m, fs.length = m + 1 := ⟨fs.length - 1, by lia⟩
  obtain ⟨n, hn⟩ : ∃ n, gs.length = n + 1 := ⟨gs.length - 1, by lia⟩
  obtain ⟨l, hl'⟩ : ∃ l, hs.length = l + 1 := ⟨hs.length - 1, by lia⟩
  have s := I.srs (by lia)
  rw [hm, hn, Nat.add_sub_cancel, Nat.add_sub_cancel] at s
  rw [hn, hl', Nat.add_sub_cancel, Nat.add_sub_cancel]
  have rows := div_rows hm hn (by lia) (by lia) (by lia) h
  have e0 := tf_top hg
  have key := s.next (l := l) (h := tf hs) (held' := held') (r := rf m rs) (e := fun t => os.getD (m - n - t) 0) (by lia) (fun i hi => ?_) (fun b => ?_) (fun b => ?_) ?_ ?_ hd0
  · rw [e0] at key; exact key
  · unfold rf
    by_cases him : i ≤ m
    · rw [if_pos him, hz _ (by lia)]
    · exact if_neg him
  · have := rows b
    rw [show os.length = m - n + 1 by lia] at this
    rw [e0]; exact this
  · rw [hm, hn, show m + 1 - (n + 1) = m - n by lia] at he
    unfold rf tf
    by_cases hb : b ≤ l
    · rw [if_pos (by lia), if_pos (by lia), he, show hs.length - 1 - b = m - (b + (m - l)) by lia]
    · rw [if_neg (by lia), if_neg (by lia), Int.mul_zero]
  · intro z
    unfold tf at z
    rw [if_pos (by lia), Nat.sub_zero] at z
    have := hlast (by lia)
    rw [he, show w - 1 = hs.length - 1 by lia, z, Int.mul_zero] at this
    exact this rfl
  · rw [e0]
    rcases hd with ⟨d1, d2⟩ | ⟨d1, d2⟩
    · left
      rw [hm, hn, show m + 1 - (n + 1) = m - n by lia] at d2
      exact ⟨by lia, d2⟩
    · exact .inr ⟨by lia, d2⟩
theorem tf_abs {l : List Int} {X : Nat} (h : ∀ t ∈ l, t.natAbs ≤ X) (b : Nat) : (tf l b).natAbs ≤ X := by
  unfold tf
  split
  · rw [List.getD_eq_getElem?_getD, List.getElem?_eq_getElem (by lia)]; exact h _ (List.getElem_mem _)
  · exact Nat.zero_le _
end L2
/-! own layer, part 46: curves that go into others, and the greatest one that goes into two -/
namespace L2
/-- d goes into p -/
def Into (d p : List Rat) : Prop := ∃ q : List Rat, ∀ x, Cv.ev p x = Cv.ev q x * Cv.ev d x
theorem Into.refl (d : List Rat) : Into d d := ⟨[1], fun x => by show _ = (1 + x * 0) * _; grind⟩
theorem Into.nil (d : List Rat) : Into d [] := ⟨[], fun x => by show (0 : Rat) = 0 * _; grind⟩
theorem Into.of {d p q r a b : List Rat} (h1 : Into d p) (h2 : Into d q) (h : ∀ x, Cv.ev r x = Cv.ev a x * Cv.ev p x + Cv.ev b x * Cv.ev q x) : Into d r := by
  obtain ⟨u, hu⟩ := h1
  obtain ⟨v, hv⟩ := h2
  exact ⟨addL (mulL a u) (mulL b v), fun x => by rw [h, hu, hv, ev_addL, ev_mulL, ev_mulL]; grind⟩
theorem Into.less {d p r : List Rat} {c : Rat} (hc : c ≠ 0) (h1 : Into d p) (h : ∀ x, Cv.ev r x * c = Cv.ev p x) : Into d r := by
  obtain ⟨u, hu⟩ := h1
  refine ⟨u.map (· * c⁻¹), fun x => ?_⟩
  have e := Rat.mul_inv_cancel _ hc
  have : Cv.ev r x = Cv.ev r x * c * c⁻¹ := by rw [Rat.mul_assoc, e, Rat.mul_one]
  rw [this, h, hu, Cv.ev_scale]; grind
theorem Into.trans {d e p : List Rat} (h1 : Into d e) (h2 : Into e p) : Into d p := by
  obtain ⟨u, hu⟩ := h1
  obtain ⟨v, hv⟩ := h2
  exact ⟨mulL v u, fun x => by rw [hv, hu, ev_mulL]; grind⟩
/-- no rest is left -/
theorem Into.rest {d p os rs : List Rat} (h : Into d p) (gd : Good d) (nd : d ≠ []) (go : Good os) (gr : Good rs) (hl : rs.length < d.length) (he : ∀ x, Cv.ev p x = Cv.ev os x * Cv.ev d x + Cv.ev rs x) : rs = [] := by
  obtain ⟨u, hu⟩ := h
  exact (div_one gd nd go (good_strip u) gr (.inl rfl) hl (by have := List.length_pos_iff.mpr nd; simpa using this) fun x => by
    rw [← he, Cv.ev_strip, hu]; show _ = _ + (0 : Rat); grind).2
theorem mono_one {p q : List Rat} (gp : Good p) (gq : Good q) (lp : p[p.length - 1]? = some 1) (lq : q[q.length - 1]? = some 1) (h1 : Into p q) (h2 : Into q p) : p = q := by
  have np : p ≠ [] := fun z => by rw [z] at lp; cases lp
  have nq : q ≠ [] := fun z => by rw [z] at lq; cases lq
  have key : ∀ {p q : List Rat}, Good p → Good q → p ≠ [] → q ≠ [] → Into p q → ∃ a : List Rat, Good a ∧ a ≠ [] ∧ q = mulL a p ∧ q.length = a.length + p.length - 1 := by
    intro p q gp gq np nq h
    obtain ⟨u, hu⟩ := h
    have na : Cv.strip u ≠ [] := fun z => by
      have : q = [] := good_one gq (.inl rfl) fun x => by rw [hu, ← Cv.ev_strip, z]; show (0 : Rat) * _ = 0; grind
      exact nq this
    have eq : q = mulL (Cv.strip u) p := good_one gq (good_mul (good_strip u) gp na np) fun x => by rw [ev_mulL, Cv.ev_strip, hu]
    refine ⟨_, good_strip u, na, eq, ?_⟩
    have l1 := List.length_pos_iff.mpr na
    have l2 := List.length_pos_iff.mpr np
    rw [eq, mulL_length p l2 _ l1]
  obtain ⟨a, ga, na, ea, la⟩ := key gp gq np nq h1
  obtain ⟨b, _, nb, _, lb⟩ := key gq gp nq np h2
  have l1 := List.length_pos_iff.mpr na
  have l2 := List.length_pos_iff.mpr nb
  have l3 := List.length_pos_iff.mpr np
  match a, l1, la, lb, ea with
  | [c], _, la, _, ea =>
    have e := mulL_last p 1 lp [c] c rfl
    have hl : q.length - 1 = [c].length + p.length - 2 := by rw [la]; simp only [List.length_cons, List.length_nil]; lia
    rw [← ea, ← hl, lq] at e
    have hc : c = 1 := by have := Option.some.inj e; grind
    refine good_one gp gq fun x => ?_
    rw [ea, ev_mulL, hc]
    show _ = (1 + x * 0) * _
    grind
  | c :: c' :: a, _, la, lb, _ => exact absurd lb (by simp only [List.length_cons] at la; lia)
/-- the same go into both pairs -/
def Com (A B F G : List Rat) : Prop := ∀ d, (Into d A ∧ Into d B) ↔ (Into d F ∧ Into d G)
theorem Com.refl (A B : List Rat) : Com A B A B := fun _ => Iff.rfl
theorem Com.turn (A B : List Rat) : Com A B B A := fun _ => And.comm
theorem Com.trans {A B F G P Q : List Rat} (h1 : Com A B F G) (h2 : Com F G P Q) : Com A B P Q := fun d => (h1 d).trans (h2 d)
abbrev cst (l : List Int) : List Rat := l.map fun t : Int => (t : Rat)
theorem Com.step {fs gs os rs hs : List Int} {c φ : Int} (hc : c ≠ 0) (hφ : φ ≠ 0) (h : ∀ x, Cv.evI fs x * ((c : Int) : Rat) = Cv.evI os x * Cv.evI gs x + Cv.evI rs x) (hr : ∀ x, Cv.evI rs x = ((φ : Int) : Rat) * Cv.evI hs x) : Com (cst fs) (cst gs) (cst gs) (cst hs) := fun d => by
  have hc' := Nm.cast_ne hc
  have hφ' := Nm.cast_ne hφ
  constructor
  · rintro ⟨h1, h2⟩
    refine ⟨h2, ?_⟩
    have i1 : Into d (cst rs) := Into.of (a := [(c : Rat)]) (b := (cst os).map (· * (-1))) h1 h2 fun x => by
      have := h x
      show Cv.evI rs x = ((c : Rat) + x * 0) * Cv.evI fs x + _
      rw [Cv.ev_scale]
      show Cv.evI rs x = ((c : Rat) + x * 0) * Cv.evI fs x + Cv.evI os x * -1 * Cv.evI gs x
      grind
    exact Into.less hφ' i1 fun x => by
      have := hr x
      show Cv.evI hs x * (φ : Rat) = Cv.evI rs x
      grind
  · rintro ⟨h1, h2⟩
    refine ⟨?_, h1⟩
    have i1 : Into d (mulL [(c : Rat)] (cst fs)) := Into.of (a := cst os) (b := [(φ : Rat)]) h1 h2 fun x => by
      have e1 := h x
      have e2 := hr x
      rw [ev_mulL]
      show ((c : Rat) + x * 0) * Cv.evI fs x = Cv.evI os x * Cv.evI gs x + ((φ : Rat) + x * 0) * Cv.evI hs x
      grind
    exact Into.less hc' i1 fun x => by
      rw [ev_mulL]
      show Cv.evI fs x * (c : Rat) = ((c : Rat) + x * 0) * Cv.evI fs x
      grind
/-- so many times a curve -/
theorem Com.scale {A A' B B' : List Rat} {a b : Rat} (ha : a ≠ 0) (hb : b ≠ 0) (h1 : ∀ x, Cv.ev A' x = Cv.ev A x * a) (h2 : ∀ x, Cv.ev B' x = Cv.ev B x * b) : Com A B A' B' := fun d => by
  have up : ∀ {P P' : List Rat} {c : Rat}, (∀ x, Cv.ev P' x = Cv.ev P x * c) → Into d P → Into d P' := fun {P P' c} h ⟨u, hu⟩ => ⟨u.map (· * c), fun x => by rw [h, hu, Cv.ev_scale]; grind⟩
  exact ⟨fun ⟨x, y⟩ => ⟨up h1 x, up h2 y⟩, fun ⟨x, y⟩ => ⟨Into.less ha x fun z => (h1 z).symm, Into.less hb y fun z => (h2 z).symm⟩⟩
/-- the common part of two curves -/
structure Part (A B p : List Rat) : Prop where
  good : Good p
  mono : p[p.length - 1]? = some 1
  is : ∀ d, (Into d A ∧ Into d B) ↔ Into d p
theorem Part.into {A B p : List Rat} (h : Part A B p) : Into p A ∧ Into p B := (h.is p).mpr (Into.refl p)
theorem Part.one {A B A' B' p q : List Rat} (h1 : Part A B p) (h2 : Part A' B' q) (c : Com A B A' B') : p = q :=
  mono_one h1.good h2.good h1.mono h2.mono ((h2.is p).mp ((c p).mp h1.into)) ((h1.is q).mp ((c q).mpr h2.into))
theorem Part.ne {A B p : List Rat} (h : Part A B p) : p ≠ [] := fun z => by have := h.mono; rw [z] at this; cases this
theorem Part.of {A B F p : List Rat} {c : Rat} (hc : c ≠ 0) (h : Com A B F []) (g : Good p) (m : p[p.length - 1]? = some 1) (e : ∀ x, Cv.ev p x * c = Cv.ev F x) : Part A B p :=
  ⟨g, m, fun d => (h d).trans ⟨fun ⟨x, _⟩ => Into.less hc x e, fun x => ⟨Into.of (a := [c]) (b := []) x (Into.nil d) fun z => by
    rw [← e]
    show _ = (c + z * 0) * _ + 0 * _
    grind, Into.nil d⟩⟩⟩
end L2

/-! own layer, part 46: what holds from turn to turn of the rests -/
namespace L2
open Dt
def Top0 (l : List Int) : Prop := ∀ t, l[l.length - 1]? = some t → t ≠ 0
/-- up to a number it is a row of not too great ones -/
def PD (l : List Int) : Prop := ∃ D : Nat → Int, D 0 ≠ 0 ∧ (∀ j, Bd 45100 (D j)) ∧ ∀ j, tf l j * D 0 = D j * tf l 0
structure LRI (S : Nat → Nat → Int) (fs gs fs' gs' : List Int) (lead held : Int) (B d0 : Nat) : Prop where
  lr : LR S fs' gs' lead held
  le : gs'.length ≤ fs'.length
  l8 : fs'.length ≤ 8
  t1 : Top0 fs'
  t2 : Top0 gs'
  com : Com (cst fs) (cst gs) (cst fs') (cst gs')
  bf : ∀ t ∈ fs', Bd B t
  bg : ∀ t ∈ gs', Bd B t
  bl : Bd (B + 1) lead
  bh : Bd (B * d0 + 1) held
  d8 : d0 + fs'.length ≤ 8
  bb : B + 1 ≤ 3 ^ (9 - fs'.length) * 3001
  b3 : fs'.length = gs'.length → B ≤ 3000
  pd : PD fs'
section
variable {S : Nat → Nat → Int} {fs gs fs' gs' : List Int} {lead held : Int} {B d0 : Nat}
theorem ev_ext (x : Rat) : ∀ (l m : List Rat), (∀ j, l.getD j 0 = m.getD j 0) → Cv.ev l x = Cv.ev m x
  | [], [], _ => rfl
  | [], b :: m, h => by
    have ih := ev_ext x [] m fun j => by have := h (j + 1); simpa using this
    have h0 := h 0
    have e : (0 : Rat) = b := by simpa using h0
    show (0 : Rat) = b + x * Cv.ev m x
    rw [← ih, ← e]; show (0 : Rat) = 0 + x * 0; grind
  | a :: l, [], h => by
    have ih := ev_ext x l [] fun j => by have := h (j + 1); simpa using this
    have h0 := h 0
    have e : a = (0 : Rat) := by simpa using h0
    show a + x * Cv.ev l x = 0
    rw [ih, e]; show (0 : Rat) + x * 0 = 0; grind
  | a :: l, b :: m, h => by
    have ih := ev_ext x l m fun j => by have := h (j + 1); simpa using this
    have h0 := h 0
    have e : a = b := by simpa using h0
    show a + x * Cv.ev l x = b + x * Cv.ev m x
    rw [ih, e]
end
end L2

/-! own layer, part 47: the rests from turn to turn, up to ten numbers, each as great as the parts of the first two may be -/
namespace L2
open Dt
theorem det_abs5 : ∀ {n : Nat} {M : Nat → Nat → Int} {W j : Nat}, n + 1 ≤ 31 → (∀ a b, (M a b).natAbs ≤ 2 ^ W) → (det n M j).natAbs ≤ 2 ^ ((n + 1) * (W + 5))
  | 0, M, W, j, _, h => by
    show (M 0 j).natAbs ≤ _
    exact Nat.le_trans (h 0 j) (Nat.pow_le_pow_right (by decide) (by lia))
  | n + 1, M, W, j, hn, h => by
    have e : (det (n + 1) M j).natAbs ≤ (n + 2) * (2 ^ W * 2 ^ ((n + 1) * (W + 5))) := sum_abs fun i hi => by
      have ih := det_abs5 (n := n) (M := fun a b => M (skip i a) (b + 1)) (W := W) (j := j) (by lia) fun a b => h _ _
      have s1 : (sg i).natAbs = 1 := by unfold sg; split <;> rfl
      rw [Int.natAbs_mul, Int.natAbs_mul, s1, Nat.one_mul]
      exact Nat.mul_le_mul (h i 0) ih
    refine Nat.le_trans e ?_
    have p : (n + 1 + 1) * (W + 5) = 5 + (W + (n + 1) * (W + 5)) := by rw [Nat.add_mul (n + 1) 1]; lia
    rw [p, Nat.pow_add, ← Nat.pow_add 2 W]
    exact Nat.mul_le_mul_right _ (by lia)
theorem sub_bd {fs gs : List Int} {W X : Nat} (h : fs.length ≤ 10) (hle : gs.length ≤ fs.length) (bf : ∀ t ∈ fs, Bd W t) (bg : ∀ t ∈ gs, Bd W t) (hX : 18 * (W + 5) + 1 ≤ X) (k j : Nat) : Bd X (sub (fs.length - 1) (gs.length - 1) k (tf fs) (tf gs) j) := by
  unfold sub
  have p0 : (0 : Int).natAbs ≤ 2 ^ W := Nat.zero_le _
  have hf := tf_abs (l := fs) (X := 2 ^ W) fun t ht => Nat.le_of_lt (bf t ht)
  have hg := tf_abs (l := gs) (X := 2 ^ W) fun t ht => Nat.le_of_lt (bg t ht)
  have e := det_abs5 (n := fs.length - 1 - k + (gs.length - 1 - k) - 1) (M := syl (fs.length - 1 - k) (tf gs) (tf fs)) (W := W) (j := j) (by lia) fun a b => by
    unfold syl
    split
    · unfold sh; split
      · exact p0
      · exact hg _
    · unfold sh; split
      · exact p0
      · exact hf _
  have q : (fs.length - 1 - k + (gs.length - 1 - k) - 1 + 1) * (W + 5) ≤ 18 * (W + 5) := Nat.mul_le_mul_right _ (by lia)
  exact Nat.lt_of_le_of_lt e (Nat.pow_lt_pow_right (by decide) (by lia))
def PDX (X : Nat) (l : List Int) : Prop := ∃ D : Nat → Int, D 0 ≠ 0 ∧ (∀ j, Bd X (D j)) ∧ ∀ j, tf l j * D 0 = D j * tf l 0
structure LRJ (S : Nat → Nat → Int) (fs gs fs' gs' : List Int) (lead held : Int) (X : Nat) : Prop where
  lr : LR S fs' gs' lead held
  le : gs'.length ≤ fs'.length
  l10 : fs'.length ≤ 10
  t1 : Top0 fs'
  t2 : Top0 gs'
  com : Com (cst fs) (cst gs) (cst fs') (cst gs')
  bf : ∀ t ∈ fs', Bd X t
  bg : ∀ t ∈ gs', Bd X t
  bl : Bd X lead
  bh : Bd X held
theorem pdx_own {l : List Int} {X : Nat} (h1 : 1 ≤ l.length) (ht : Top0 l) (hb : ∀ t ∈ l, Bd X t) : PDX X l := by
  have e : l[l.length - 1]? = some (l[l.length - 1]'(by lia)) := List.getElem?_eq_getElem _
  refine ⟨tf l, by rw [tf_top e]; exact ht _ e, fun j => ?_, fun j => rfl⟩
  have p0 : 0 < 2 ^ X := Nat.pow_pos (by decide)
  have := tf_abs (l := l) (X := 2 ^ X - 1) (fun t ht => by have := hb t ht; unfold Bd at this; lia) j
  unfold Bd
  lia
theorem LRJ.first {fs gs : List Int} {W X : Nat} (h1 : 1 ≤ fs.length) (hle : gs.length ≤ fs.length) (h8 : fs.length ≤ 10) (t1 : Top0 fs) (t2 : Top0 gs) (bf : ∀ t ∈ fs, Bd W t) (bg : ∀ t ∈ gs, Bd W t) (hX : 18 * (W + 5) + 1 ≤ X) :
    LRJ (fun k j => sub (fs.length - 1) (gs.length - 1) k (tf fs) (tf gs) j) fs gs fs gs 1 1 X :=
  ⟨LR.first h1 hle t2, hle, h8, t1, t2, Com.refl _ _, (fun t ht => (bf t ht).mono (by lia)), (fun t ht => (bg t ht).mono (by lia)), (show Bd 1 1 by unfold Bd; decide).mono (by lia), (show Bd 1 1 by unfold Bd; decide).mono (by lia)⟩
section
variable {S : Nat → Nat → Int} {fs gs fs' gs' : List Int} {lead held : Int} {X : Nat}
/-- the rest, number by number -/
theorem _root_.Dt.Srs.rest_is {S : Nat → Nat → Int} {m n : Nat} {f g r : Nat → Int} {e : Nat → Int} {lead held : Int} (I : Srs S m n f g lead held) (hn : 0 < n) (hr0 : ∀ i, i < m - n + 1 → r i = 0) (hf : ∀ b, g 0 ^ (m - n + 1) * f b = r b + sumN (fun t => e t * sh t g b) (m - n + 1)) (j : Nat) :
    ∃ c : Int, r (j + (m - n + 1)) = lead * held ^ (m - n) * c ∧ (c = S (n - 1) j ∨ c = - S (n - 1) j) := by
  obtain ⟨s, hs, h⟩ := I.is (n - 1) (by lia)
  replace h := h j
  rw [sub_rest I.le hn I.g0 hr0 hf, show n - (n - 1) = 1 by lia, Int.pow_one, show m - (n - 1) - 1 = m - n by have := I.le; lia] at h
  rcases hs with rfl | rfl
  · exact ⟨S (n - 1) j, by grind, .inl rfl⟩
  · exact ⟨- S (n - 1) j, by grind, .inr rfl⟩
theorem _root_.Dt.Srs.more_is {S : Nat → Nat → Int} {m n : Nat} {f g : Nat → Int} {lead held : Int} (I : Srs S m n f g lead held) (h : n < m) : ∃ q : Int, g 0 ^ (m - n) = held ^ (m - n - 1) * q ∧ q ≠ 0 ∧ (q = S n 0 ∨ q = - S n 0) := by
  obtain ⟨s, hs, e⟩ := I.is n (Nat.le_refl _)
  replace e := e 0
  rw [sub_one h, Nat.sub_self, Int.pow_zero, Int.one_mul, ← Int.pow_succ, show (m - n - 1).succ = m - n by lia] at e
  have e' : g 0 ^ (m - n) = held ^ (m - n - 1) * (s * S n 0) := by rcases hs with rfl | rfl <;> grind
  refine ⟨_, e', fun z => ?_, by rcases hs with rfl | rfl <;> grind⟩
  rw [z, Int.mul_zero] at e'
  exact absurd e' (Int.pow_ne_zero I.g0)
theorem bd_sign {X : Nat} {c d : Int} (h : Bd X d) (e : c = d ∨ c = -d) : Bd X c := by
  unfold Bd at *
  rcases e with rfl | rfl
  · exact h
  · rw [Int.natAbs_neg]; exact h
theorem LRJ.next {os rs : List Int} {g held' : Int} {w : Nat} (I : LRJ S fs gs fs' gs' lead held X) (hS : ∀ k j, Bd X (S k j)) (hg : gs'[gs'.length - 1]? = some g) (ho : os.length = fs'.length + 1 - gs'.length) (hr : rs.length = gs'.length - 1)
    (hev : ∀ x, Cv.evI fs' x * ((g ^ os.length : Int) : Rat) = Cv.evI os x * Cv.evI gs' x + Cv.evI rs x) (hw : w ≤ rs.length) (hz : ∀ j, w ≤ j → rs.getD j 0 = 0) (hlast : 1 ≤ w → rs.getD (w - 1) 0 ≠ 0)
    (hh : (gs'.length < fs'.length ∧ held' = Int.fdiv (g ^ (fs'.length - gs'.length)) (held ^ (fs'.length - gs'.length - 1))) ∨ (fs'.length = gs'.length ∧ held' = held)) :
    lead * held ^ (fs'.length - gs'.length) ≠ 0 ∧ LRJ S fs gs gs' ((rs.take w).map fun t => Int.fdiv t (lead * held ^ (fs'.length - gs'.length))) g held' X ∧ (gs'.length < fs'.length → PDX X gs') := by
  have hl := (List.getElem?_eq_some_iff.mp hg).1
  have s := I.lr.srs (by lia)
  have hle := I.le
  have l10 := I.l10
  have hφ : lead * held ^ (fs'.length - gs'.length) ≠ 0 := Int.mul_ne_zero s.l0 (Int.pow_ne_zero s.h0)
  refine ⟨hφ, ?_⟩
  -- each number of the rest
  have dv : ∀ i, i < rs.length → ∃ c : Int, rs.getD i 0 = lead * held ^ (fs'.length - gs'.length) * c ∧ Bd X c := fun i hi => by
    obtain ⟨m, hm⟩ : ∃ m, fs'.length = m + 1 := ⟨fs'.length - 1, by lia⟩
    obtain ⟨n, hn⟩ : ∃ n, gs'.length = n + 1 := ⟨gs'.length - 1, by lia⟩
    rw [hm, hn, Nat.add_sub_cancel, Nat.add_sub_cancel] at s
    have rows := div_rows hm hn (by lia) (by lia) (by lia) hev
    have e0 := tf_top hg
    obtain ⟨c, hc, hcs⟩ := s.rest_is (r := rf m rs) (e := fun t => os.getD (m - n - t) 0) (by lia) (fun i hi => rf_low (n := n) (by lia) hi (by lia)) (fun b => by
      have := rows b
      rw [show os.length = m - n + 1 by lia] at this
      rw [e0]; exact this) (n - 1 - i)
    have e1 : rf m rs (n - 1 - i + (m - n + 1)) = rs.getD i 0 := by
      unfold rf
      rw [if_pos (by lia), show m - (n - 1 - i + (m - n + 1)) = i by lia]
    rw [e1] at hc
    refine ⟨c, ?_, bd_sign (hS _ _) hcs⟩
    rw [hm, hn, show m + 1 - (n + 1) = m - n by lia]
    exact hc
  generalize hF : lead * held ^ (fs'.length - gs'.length) = φ at *
  have hsB : ∀ t ∈ (rs.take w).map fun t => Int.fdiv t φ, Bd X t := fun t ht => by
    obtain ⟨u, hu, rfl⟩ := List.mem_map.mp ht
    obtain ⟨i, hi⟩ := List.getElem?_of_mem (List.mem_of_mem_take hu)
    obtain ⟨c, hc, bc⟩ := dv i (List.getElem?_eq_some_iff.mp hi).1
    rw [List.getD_eq_getElem?_getD, hi] at hc
    have hc : u = φ * c := hc
    rw [hc, Int.mul_fdiv_cancel_left _ hφ]
    exact bc
  have hs : ∀ j, rs.getD j 0 = φ * ((rs.take w).map fun t => Int.fdiv t φ).getD j 0 := fun j => by
    by_cases hj : j < w
    · have e1 : rs[j]? = some (rs[j]'(by lia)) := List.getElem?_eq_getElem _
      obtain ⟨c, hc, _⟩ := dv j (by lia)
      have hc' := hc
      rw [List.getD_eq_getElem?_getD, e1] at hc'
      have hc' : rs[j]'(by lia) = φ * c := hc'
      rw [hc, List.getD_eq_getElem?_getD, List.getElem?_map, List.getElem?_take_of_lt hj, e1, hc']
      show φ * c = φ * Int.fdiv (φ * c) φ
      rw [Int.mul_fdiv_cancel_left _ hφ]
    · rw [hz j (by lia), List.getD_eq_getElem?_getD, List.getElem?_eq_none (by rw [List.length_map, List.length_take]; lia)]
      show (0 : Int) = φ * 0
      lia
  generalize hH : ((rs.take w).map fun t => Int.fdiv t φ) = hs' at hs hsB
  have hhl : hs'.length = w := by rw [← hH, List.length_map, List.length_take]; lia
  have hg0 : g ≠ 0 := I.t2 g hg
  have bg : Bd X g := I.bg _ (List.mem_of_getElem? hg)
  have hd : ((gs'.length < fs'.length ∧ g ^ (fs'.length - gs'.length) = held ^ (fs'.length - gs'.length - 1) * held') ∨ (fs'.length = gs'.length ∧ held' = held)) ∧ held' ≠ 0 ∧ Bd X held' := by
    rcases hh with ⟨h1, h2⟩ | ⟨h1, h2⟩
    · obtain ⟨q, hq, hq0, hqs⟩ := s.more_is (by lia)
      rw [tf_top hg, show fs'.length - 1 - (gs'.length - 1) = fs'.length - gs'.length by lia] at hq
      have : held' = q := by rw [h2, hq, Int.mul_fdiv_cancel_left _ (Int.pow_ne_zero s.h0)]
      rw [this]
      exact ⟨.inl ⟨h1, hq⟩, hq0, bd_sign (hS _ _) hqs⟩
    · exact ⟨.inr ⟨h1, h2⟩, by rw [h2]; exact s.h0, by rw [h2]; exact I.bh⟩
  have nx : LR S gs' hs' g held' := I.lr.next hg hle ho hr hev hw hz hlast hhl (fun j => by rw [hF]; exact hs j) hd.1 hd.2.1
  have com : Com (cst fs') (cst gs') (cst gs') (cst hs') := Com.step (c := g ^ os.length) (φ := φ) (Int.pow_ne_zero hg0) hφ hev fun x => by
    have e : Cv.ev (cst rs) x = Cv.ev ((cst hs').map (· * (φ : Rat))) x := ev_ext x _ _ fun j => by
      rw [getD_scale, getD_cast, getD_cast, hs j, Rat.intCast_mul, Rat.mul_comm]
    show Cv.ev (cst rs) x = _
    rw [e, Cv.ev_scale, Rat.mul_comm]; rfl
  have t2 : Top0 hs' := fun t ht z => by
    have hjl := (List.getElem?_eq_some_iff.mp ht).1
    have := hlast (by lia)
    rw [hs, List.getD_eq_getElem?_getD, ← hhl, ht, z] at this
    exact this (Int.mul_zero _)
  exact ⟨⟨nx, by lia, by lia, I.t2, t2, I.com.trans com, I.bg, hsB, bg, hd.2.2⟩, fun _ => pdx_own (by lia) I.t2 I.bg⟩
end
end L2

/-! own layer, part 48: curves of lines, and their common parts -/
namespace L2
/-- what a line goes into twice -/
theorem line_cancel {A B : List Rat} {p : Rat} (h : ∀ x, (x - p) * Cv.ev A x = (x - p) * Cv.ev B x) (x : Rat) : Cv.ev A x = Cv.ev B x := by
  have key : Cv.strip (addL A (B.map (· * (-1)))) = [] := by
    by_cases hD : Cv.strip (addL A (B.map (· * (-1)))) = []
    · exact hD
    exfalso
    have gM : Good (mulL [-p, 1] (Cv.strip (addL A (B.map (· * (-1)))))) := good_mul (.inr ⟨1, rfl, by decide⟩) (good_strip _) (by simp) hD
    have e := good_one gM (.inl rfl : Good []) fun x => by
      rw [ev_mulL, Cv.ev_strip, ev_addL, Cv.ev_scale]
      have := h x
      show (-p + x * (1 + x * 0)) * _ = 0
      grind
    have l := mulL_length (Cv.strip (addL A (B.map (· * (-1))))) (List.length_pos_iff.mpr hD) [-p, 1] (by simp)
    rw [e] at l
    have := List.length_pos_iff.mpr hD
    simp only [List.length_nil, List.length_cons] at l
    lia
  have z : Cv.ev (Cv.strip (addL A (B.map (· * (-1))))) x = 0 := by rw [key]; rfl
  rw [Cv.ev_strip, ev_addL, Cv.ev_scale] at z
  grind
theorem Into.cancel {d G A : List Rat} {p : Rat} (h : Into d G) (hG : ∀ x, Cv.ev G x = (x - p) * Cv.ev A x) (hd : Cv.ev d p ≠ 0) : Into d A := by
  obtain ⟨u, hu⟩ := h
  have z : Cv.ev u p = 0 := by
    have := hu p
    rw [hG, show p - p = (0 : Rat) by grind, Rat.zero_mul] at this
    rcases Rat.mul_eq_zero.mp this.symm with y | y
    · exact y
    · exact absurd y hd
  have hv : ∀ x, Cv.ev u x = (x - p) * Cv.ev (quo p u) x := fun x => by rw [quo_ev p x u, z]; grind
  refine ⟨quo p u, fun x => ?_⟩
  have e := line_cancel (A := A) (B := mulL (quo p u) d) (p := p) (fun x => by rw [ev_mulL, ← hG, hu, hv]; grind) x
  rw [e, ev_mulL]
end L2

/-! own layer, part 50: an exception whose context is None: its flight, its landing; the ends of lists and tuples while it is handled -/
namespace L2
open PySem PySem.Spec PyProof.Rows
/-- an exception of class c flies over B, its context is None, its first entry's mark is m -/
def Fly2 (B : Heap) (l : List Env) (e : Addr) (c a0 m : Value) (h : Heap) : Prop :=
  B.StaysIn h ∧ B.get? e = none ∧ h.FunFrames B l ∧ ∃ (o : Obj) (v : Array Value) (T : Addr) (oT : Obj) (ts : Array Value), h.get? e = some o ∧ o.cls = c ∧ o.data = .fields v ∧ v[0]? = some a0 ∧ v[2]? = some .none ∧
    v[1]? = some (.ref T) ∧ B.get? T = none ∧ T ≠ e ∧ h.get? T = some oT ∧ oT.data = .fields ts ∧ ts[3]? = some m
/-- what is known of a caught one -/
def Ctx0 (o : Obj) : Prop := ∃ v, o.data = .fields v ∧ v[2]? = some .none
theorem Fly2.obj {B h : Heap} {l : List Env} {e : Addr} {c a0 m : Value} (x : Fly2 B l e c a0 m h) : ∃ o, h.get? e = some o ∧ o.cls = c ∧ Ctx0 o := by
  obtain ⟨_, _, _, o, v, _, _, _, q1, q2, q3, _, q5, _⟩ := x
  exact ⟨o, q1, q2, v, q3, q5⟩
section
variable {M : Model} {A : Around} {E : Value → Shared → Prop} {s : Shared} {B : Heap} {env : Env} {outer : List Env} {L e : Addr}
/-- the entry is made -/
theorem note2_core {o : Obj} {v : Array Value} {hd0 a0 : Value} {had : Bool} {Q : Unit → Shared → Prop} (hA : A.frames = some (env :: outer)) (hF : s.heap.FunFrames B (env :: outer)) (hL : env.frame = some L)
    (he : s.heap.get? e = some o) (hB : B.StaysIn s.heap) (hn : B.get? e = none) (hv : o.data = .fields v) (z1 : 1 < v.size) (z0 : v[0]? = some a0) (z2 : v[2]? = some .none)
    (k : ∀ h', Fly2 B (env :: outer) e o.cls a0 (rawInt L) h' → s.heap.UpToSlots h' → Q () { s with heap := h' }) :
    wpAny M A (do let fr ← frameOf env; let ps ← entryPlaceOf L had; let en ← EntryCells.newEntry hd0 fr .none (rawInt L) .none ps; setField (.ref e) 1 en) Q E s := by
  have out : e ∉ (env :: outer).filterMap (·.frame) := fun z => by
    obtain ⟨_, o', e', nf⟩ := hF.mem z
    rw [he] at e'
    cases e'
    exact nf v hv
  refine wpAny_bind (wpAny_frameOf_fun hA hF hL fun g sg => wpAny_bind (wpAny_entryPlaceOf fun ps hp => ?_))
  unfold EntryCells.newEntry newFields
  refine wpAny_bind (wpAny_newObj_type ?_ (hp.sizeOk5 _ _ _ _ _))
  generalize hob : ({ cls := .type "traceback", dict := none, data := .fields ([hd0, .ref L, .none, rawInt L, .none] ++ (if ps.isEmpty then List.replicate 6 Value.none else ps)).toArray } : Obj) = ob
  have hg : g.get? e = some o := (sg.2.1 e out).trans he
  have gB : B.StaysIn g := fun b u q => (sg.2.1 b fun z => by rw [(hF.mem z).1] at q; cases q).trans (hB b u q)
  have nT : g.objs.size ≠ e := Nat.ne_of_gt (Heap.lt_size hg)
  have hp1 : (g.push ob).get? e = some o := Heap.get?_push_of_some _ hg
  refine wpAny_setField hp1 hv z1 (k _ ?_ ?_)
  · have d1 := Obj.data_mapFields hv (·.setIfInBounds 1 (Value.ref g.objs.size))
    have old : ∀ b u, b ≠ e → g.get? b = some u → ((g.push ob).update e (Obj.mapFields (·.setIfInBounds 1 (Value.ref g.objs.size)))).get? b = some u := fun b u n q => by
      rw [Heap.get?_update_other _ _ (Ne.symm n)]
      exact Heap.get?_push_of_some _ q
    have fresh : ob.isFreed = false := by rw [← hob]; rfl
    refine ⟨fun b u q => old b u (fun z => by rw [z, hn] at q; cases q) (gB b u q), hn, hF.of_keeps fun b u q nf => ?_, _, _, g.objs.size, ob, _, Heap.get?_update_self _ hp1 (Obj.isFreed_of_fields d1), Obj.cls_mapFields _ _, d1, ?_, ?_, ?_, gB.fresh, nT, ?_, by rw [← hob], ?_⟩
    · obtain ⟨sl, q'⟩ := sg.2.2 b u q
      exact ⟨_, old b _ (fun z => by rw [z, he] at q; cases q; exact nf v hv) q', rfl⟩
    · rw [Array.getElem?_setIfInBounds_ne (by decide)]; exact z0
    · rw [Array.getElem?_setIfInBounds_ne (by decide)]; exact z2
    · simp [z1]
    · rw [Heap.get?_update_other _ _ (Ne.symm nT)]
      exact Heap.get?_push_size g fresh
    · rcases hp with rfl | ⟨_, _, _, _, _, _, _, rfl⟩ <;> simp
  · intro b u q nf
    obtain ⟨sl, q'⟩ := sg.2.2 b u q
    refine ⟨sl, ?_⟩
    rw [Heap.get?_update_other _ _ (fun z => by rw [← z, he] at q; cases q; exact nf v hv)]
    exact Heap.get?_push_of_some _ q'
/-- a flight's next station -/
theorem note2 {c a0 : Value} {Q : Unit → Shared → Prop} (hA : A.frames = some (env :: outer)) (hL : env.frame = some L) (x : Fly2 B (env :: outer) e c a0 .none s.heap)
    (k : ∀ h', Fly2 B (env :: outer) e c a0 (rawInt L) h' → s.heap.UpToSlots h' → Q () { s with heap := h' }) : wpAny M A (noteFrame (.ref e) env) Q E s := by
  obtain ⟨b1, b2, b3, o, v, T, oT, ts, q1, q2, q3, q4, q5, q6, q7, q8, q9, q10, q11⟩ := x
  subst q2
  unfold noteFrame
  simp only [hL]
  refine wpAny_bind (wpAny_field q1 q3 q6 ?_)
  rw [if_pos (by simp)]
  refine wpAny_bind (wpAny_field q9 q10 q11 ?_)
  rw [if_neg (by simp [rawInt])]
  refine wpAny_bind (wpAny_setField q9 q10 (Array.getElem?_eq_some_iff.mp q11).1 ?_)
  have no : ∀ b u, s.heap.get? b = some u → (∀ w, u.data ≠ .fields w) → b ≠ T := fun b u q nf z => by
    rw [z, q9] at q
    cases q
    exact nf ts q10
  have ot : ∀ b u, b ≠ T → s.heap.get? b = some u → (s.heap.update T (Obj.mapFields (·.setIfInBounds 3 Value.none))).get? b = some u := fun b u n q => (Heap.get?_update_other _ _ (Ne.symm n)).trans q
  refine note2_core hA (b3.of_keeps fun b u q nf => ⟨u, ot b u (no b u q nf) q, rfl⟩) hL (ot e o (Ne.symm q8) q1) (fun b u q => ot b u (fun z => by rw [z, q7] at q; cases q) (b1 b u q)) b2 q3 (Array.getElem?_eq_some_iff.mp q6).1 q4 q5 fun h' f us => k h' f fun b u q nf => ?_
  exact us b u (ot b u (no b u q nf) q) nf
/-- the mark goes -/
theorem land2 {l : List Env} {c a0 m : Value} {Q : Unit → Shared → Prop} (x : Fly2 B l e c a0 m s.heap) (k : ∀ h', Fly2 B l e c a0 .none h' → s.heap.UpToSlots h' → Q () { s with heap := h' }) : wpAny M A (setFlight (.ref e) none) Q E s := by
  obtain ⟨b1, b2, b3, o, v, T, oT, ts, q1, q2, q3, q4, q5, q6, q7, q8, q9, q10, q11⟩ := x
  have z3 : 3 < ts.size := (Array.getElem?_eq_some_iff.mp q11).1
  unfold setFlight
  refine wpAny_bind (wpAny_field q1 q3 q6 ?_)
  rw [if_pos (by simp)]
  refine wpAny_setField q9 q10 z3 ?_
  have no : ∀ b u, s.heap.get? b = some u → (∀ w, u.data ≠ .fields w) → b ≠ T := fun b u q nf z => by
    rw [z, q9] at q
    cases q
    exact nf ts q10
  have ot : ∀ b u, b ≠ T → s.heap.get? b = some u → (s.heap.update T (Obj.mapFields (·.setIfInBounds 3 ((none : Option Addr).elim Value.none fun f => rawInt f)))).get? b = some u := fun b u n q => (Heap.get?_update_other _ _ (Ne.symm n)).trans q
  have d1 := Obj.data_mapFields q10 (·.setIfInBounds 3 ((none : Option Addr).elim Value.none fun f => rawInt f))
  exact k _ ⟨fun b u q => ot b u (fun z => by rw [z, q7] at q; cases q) (b1 b u q), b2, b3.of_keeps fun b u q nf => ⟨u, ot b u (no b u q nf) q, rfl⟩, o, v, T, _, _, ot e o (Ne.symm q8) q1, q2, q3, q4, q5, q6, q7, q8, Heap.get?_update_self _ q9 (Obj.isFreed_of_fields d1), d1, by simp [z3]⟩
    fun b u q nf => ⟨u.slots, ot b u (no b u q nf) q⟩
theorem Fly2.up {c a0 m : Value} {h : Heap} (x : Fly2 B (env :: outer) e c a0 m h) : Fly2 B outer e c a0 m h := by
  obtain ⟨b1, b2, ⟨_, _, b3⟩, r⟩ := x
  exact ⟨b1, b2, b3, r⟩
/-- out of the frame in which it was made -/
theorem made2 {h : Heap} {c : Value} {vs : List Value} {Q : Unit → Shared → Prop} (hA : A.frames = some (env :: outer)) (hL : env.frame = some L) (hB : B.StaysIn h) (hF : h.FunFrames B (env :: outer)) (hx : Heap.MadeExcOf h s.heap e c vs)
    (k : ∀ h' a0, Fly2 B outer e c a0 .none h' → s.heap.UpToSlots h' → Q () { s with heap := h' }) : wpAny M A (leaving env (.ref e)) Q E s := by
  obtain ⟨t, he, _, _⟩ := hx.there
  have fresh : B.get? e = none := by
    cases q : B.get? e with
    | none => rfl
    | some u => have := hB e u q; rw [hx.new] at this; cases this
  unfold leaving noteFrame
  simp only [hL]
  refine wpAny_bind (wpAny_bind (wpAny_field he rfl (x := .none) rfl ?_))
  rw [if_neg (by decide)]
  exact note2_core hA (hF.of_keeps fun b u q _ => ⟨u, hx.keeps b u q, rfl⟩) hL he (fun b u q => hx.keeps b u (hB b u q)) fresh rfl (show 1 < 6 by decide) rfl rfl
    fun h1 f1 u1 => land2 (s := { s with heap := h1 }) f1 fun h2 f2 u2 => k h2 _ f2.up (u1.trans u2)
end

/-! ### a new exception while another one is handled -/
theorem entry_unchain : entryFor table "proto.unchain" = some Builtin.«proto.unchain» := entryFor_of_fast (by kernel_rfl)
section
variable {prog : Program} {w : World} {A : Around} {E : Value → Shared → Prop} {s : Shared} {ea : Addr} {oe : Obj}
theorem raise2 {α : Type} {a : Addr} {o : Obj} {v : Array Value} {Q : α → Shared → Prop} (hh : A.handled = some (.ref ea)) (he : s.heap.get? ea = some oe) (hc : Ctx0 oe) (ha : s.heap.get? a = some o) (hv : o.data = .fields v) (hz : 2 < v.size) (ne : ea ≠ a)
    (k : E (.ref a) { s with heap := s.heap.update a (Obj.mapFields (·.setIfInBounds 2 (.ref ea))) }) : wpAny (model prog w) A (raiseNew (.ref a) : Sem α) Q E s := by
  obtain ⟨ve, hd, h2⟩ := hc
  unfold raiseNew
  refine wpAny_bind (wpAny_handled ?_)
  rw [hh]
  dsimp only
  rw [if_pos (by simp [ne])]
  refine wpAny_bind (wpAny_holding (wpAny_runValue (codeAny_builtin entry_unchain ?_)))
  show wpAny _ _ (field (.ref ea) 2 >>= _) _ _ s
  refine wpAny_bind (wpAny_field he hd h2 ?_)
  rw [if_pos (by decide)]
  refine wpAny_bind (wpAny_pure (wpAny_pure ?_))
  refine wpAny_bind ?_
  unfold updateField
  refine wpAny_bind (wpAny_load ha ?_)
  rw [hv]
  dsimp only
  rw [if_pos hz]
  exact wpAny_update ha (wpAny_throw k)
/-- a fresh StopIteration, thrown while ea is handled -/
theorem stop2 {it : Addr} {h0 : Heap} {α : Type} {P : α → Shared → Prop} {G : Value → Shared → Prop} (hh : A.handled = some (.ref ea)) (he : s.heap.get? ea = some oe) (hc : Ctx0 oe) (hb : Heap.ExtBut it h0 s.heap)
    (k : ∀ a h', Shared.TypeIs { s with heap := h' } (.ref a) "StopIteration" → Heap.ExtBut it h0 h' → G (.ref a) { s with heap := h' }) : wpAny (model prog w) A (newExc (.type "StopIteration") [] >>= fun x => (raiseNew x : Sem α)) P G s := by
  refine wpAny_bind ?_
  simp only [newExc, newTuple]
  refine wpAny_bind (wpAny_newObj_type ?_ (by size_fits))
  refine wpAny_bind (m := firstArgMember _ _) (wpAny_of_eq (a := Value.none) (by first | rfl | (simp only [firstArgMember]; rfl)) ?_)
  refine wpAny_newObj_type ?_ (by size_fits)
  have old : ∀ (b : Addr) (u o1 o2 : Obj), s.heap.get? b = some u → ((s.heap.push o1).push o2).get? b = some u := fun b u o1 o2 q => Heap.get?_push_of_some _ (Heap.get?_push_of_some _ q)
  have lt : ∀ (b : Addr) (u o1 : Obj), s.heap.get? b = some u → (s.heap.push o1).objs.size ≠ b := fun b u o1 q z => by
    have := Heap.lt_size q
    rw [← z, Heap.size_push] at this
    exact absurd this (Nat.not_lt.mpr (Nat.le_succ _))
  refine raise2 hh (old ea oe _ _ he) hc (Heap.get?_push_size _ rfl) rfl (show 2 < 6 by decide) (fun z => lt ea oe _ he z.symm) (k _ _ ⟨_, Heap.get?_update_self _ (Heap.get?_push_size _ rfl) rfl, rfl⟩ fun b u n q => ?_)
  rw [Heap.get?_update_other _ _ (lt b u _ (hb b u n q))]
  exact old b u _ _ (hb b u n q)
/-- a list's iterator at its end -/
theorem list_end2 {it l : Addr} {i : Nat} {items : Array Value} {Q : Option Value → Shared → Prop} (hh : A.handled = some (.ref ea)) (he : s.heap.get? ea = some oe) (hc : Ctx0 oe) (ni : ea ≠ it) (st : s.heap.IsListIter it l i) (hl : s.heap.IsList l items) (hx : items[i]? = none)
    (k : ∀ h', Heap.ExtBut it s.heap h' → Q none { s with heap := h' }) : wpAny (model prog w) A (pyNext (.ref it)) Q E s := by
  obtain ⟨o, q1, q2, q3⟩ := id st
  obtain ⟨ol, p1, _, nl, p2⟩ := hl
  unfold pyNext
  refine wpAny_bind (wpAny_attempt (wpAny_callSpecial?_slot (name := Str.ofString "__next__") st.typeIs slot_listiter_next (wpAny_call_entry slot_listiter_next st.typeIs entry_listiter_next ?_ (args_listiter_next _))))
  show wpAny _ A.in1 (field (.ref it) 0 >>= _) _ _ s
  refine wpAny_bind (wpAny_field q1 q3 (x := .ref l) rfl ?_)
  show wpAny _ _ (if (Value.ref l == Value.none) = true then _ else _) _ _ s
  rw [if_neg (fun z => nomatch z)]
  refine wpAny_bind (wpAny_field q1 q3 (x := .int i 0) rfl (wpAny_bind (wpAny_seqItems p1 p2 ?_)))
  simp only [Int.toNat_natCast, hx]
  refine wpAny_bind (wpAny_rule (wpAny_bind (wpAny_setField q1 q3 (by simp) ?_)))
  refine stop2 (A := A.in1) (it := it) (h0 := s.heap) hh ((Heap.get?_update_other _ _ (Ne.symm ni)).trans he) hc (Heap.SameBut.update ..).extBut fun a h' ty eb => ?_
  exact wpAny_bind (wpAny_isInstance (T := "StopIteration") (b := true) ty isSubtype_stop (wpAny_pure (k h' eb)))
/-- a tuple's iterator at its end -/
theorem tup_end2 {it l : Addr} {i : Nat} {items : Array Value} {Q : Option Value → Shared → Prop} (hh : A.handled = some (.ref ea)) (he : s.heap.get? ea = some oe) (hc : Ctx0 oe) (ni : ea ≠ it) (st : IsTupIter s.heap it l i) (hl : IsTup s.heap l items) (hx : items[i]? = none)
    (k : ∀ h', Heap.ExtBut it s.heap h' → Q none { s with heap := h' }) : wpAny (model prog w) A (pyNext (.ref it)) Q E s := by
  obtain ⟨o, q1, q2, q3⟩ := id st
  obtain ⟨ol, p1, _, nl, p2⟩ := hl
  unfold pyNext
  refine wpAny_bind (wpAny_attempt (wpAny_callSpecial?_slot (name := Str.ofString "__next__") st.typeIs slot_tupleiter_next (wpAny_call_entry slot_tupleiter_next st.typeIs entry_tupleiter_next ?_ (args_tupleiter_next _))))
  show wpAny _ A.in1 (field (.ref it) 0 >>= _) _ _ s
  refine wpAny_bind (wpAny_field q1 q3 (x := .ref l) rfl ?_)
  show wpAny _ _ (if (Value.ref l == Value.none) = true then _ else _) _ _ s
  rw [if_neg (fun z => nomatch z)]
  refine wpAny_bind (wpAny_field q1 q3 (x := .int i 0) rfl (wpAny_bind (wpAny_seqItems p1 p2 ?_)))
  simp only [Int.toNat_natCast, hx]
  refine wpAny_bind (wpAny_rule (wpAny_bind (wpAny_setField q1 q3 (by simp) ?_)))
  refine stop2 (A := A.in1) (it := it) (h0 := s.heap) hh ((Heap.get?_update_other _ _ (Ne.symm ni)).trans he) hc (Heap.SameBut.update ..).extBut fun a h' ty eb => ?_
  exact wpAny_bind (wpAny_isInstance (T := "StopIteration") (b := true) ty isSubtype_stop (wpAny_pure (k h' eb)))
/-- a tuple as a target -/
theorem tup_to2 {env : Env} {es : List Expr} {kk} {pos : Pos} {t : Addr} {items : Array Value} {Q : Unit → Shared → Prop} (hh : A.handled = some (.ref ea)) (he : s.heap.get? ea = some oe) (hc : Ctx0 oe) (ht : IsTup s.heap t items) (hn : (assignEach es env).length = items.size)
    (hs : (assignEach es env).findIdx? (·.1) = none) (k : ∀ h', Heap.ExtBut s.heap.objs.size s.heap h' → wpAny (model prog w) A (assignInOrder ((assignEach es env).map (·.2)) items.toList) Q E { s with heap := h' }) :
    wpAny (model prog w) A (assign (.Tuple es kk pos) env (.ref t)) Q E s := by
  have nt : t ≠ s.heap.objs.size := by obtain ⟨o, q, _⟩ := ht; exact Nat.ne_of_lt (Heap.lt_size q)
  rw [assign_Tuple]
  refine wpAny_bind (wpAny_standAt ?_)
  unfold unpack
  rw [hn, hs]
  refine wpAny_bind (wpAny_holding ?_)
  unfold unpackItems notIterableAtAll
  refine wpAny_bind (wpAny_bind (wpAny_specialOf ht.typeIs slot_tuple_iter.lookup (wpAny_pure ?_)))
  simp only [Bool.false_eq_true, if_false]
  refine wpAny_bind (wpAny_holding (iter_tuple ht (wpAny_bind (wpAny_holding (draw_tuple nt items.size 0 _ _ ⟨_, Heap.get?_push_size _ rfl, rfl, rfl⟩ (ht.push _) (by lia) fun h1 i1 s1 => ?_)))))
  rw [show List.take items.size (List.drop 0 items.toList) = items.toList by rw [List.drop_zero]; exact List.take_of_length_le (by simp), if_neg (by simp)]
  have ne : ea ≠ s.heap.objs.size := Nat.ne_of_lt (Heap.lt_size he)
  refine wpAny_bind (wpAny_holding (tup_end2 (s := { s with heap := h1 }) hh (s1.extBut ea oe ne (Heap.get?_push_of_some _ he)) hc ne i1 ((ht.push _).extBut s1.extBut nt) (by simp) fun h2 e2 => ?_))
  simp only [Option.isSome_none, Bool.false_eq_true, if_false]
  exact wpAny_pure (k h2 fun b u n q => e2 b u n (s1.extBut b u n (Heap.get?_push_of_some _ q)))
end
end L2

/-! own layer, part 51: a list comprehension, a call, within an except suite -/
namespace L2
open PySem PySem.Spec PyProof.Rows
/-- the exception at ea is handled; it lies there since the entry -/
structure Hx (X : Cx) (ea : Addr) (oe : Obj) : Prop where
  hd : X.A.handled = some (.ref ea)
  ct : Ctx0 oe
  ob : X.s₀.heap.get? ea = some oe
  fr : X.H₀ ea = none
  nf : ea ∉ X.fs
  nx : ea ∉ X.ex
section
variable {X : Cx} {pins : List (Addr × Obj)} {σ : St} {H : Hp} {s : Shared} {ea : Addr} {oe : Obj}
theorem Hx.at (x : Hx X ea oe) (I : Inv X pins σ H s) : s.heap.get? ea = some oe := I.base.keep ea oe x.ob x.fr x.nf x.nx
theorem Hx.no (x : Hx X ea oe) (I : Inv X pins σ H s) : H ea = none := I.base.free ea oe x.ob x.fr x.nx
theorem Hx.lt (x : Hx X ea oe) : ea < X.s₀.heap.objs.size := Heap.lt_size x.ob
theorem Hx.ns (x : Hx X ea oe) (I : Inv X pins σ H s) : ea ∉ frs X.stack := fun z => by
  rcases List.mem_cons.mp (I.stkSub ea z) with e | z
  · exact Nat.ne_of_lt (Nat.lt_of_lt_of_le x.lt I.ok.above) e
  · exact x.nf z
/-- in a comprehension's block -/
theorem hxC {N : List Str} {scope : Scope} {fp : List Addr} (x : Hx X ea oe) (I : Inv X pins σ H s) (hf : ∀ b ∈ fp, FpOk X pins H b) (cl : List (Str × Addr)) (C : Addr) : Hx (cxComp X N scope cl C s H fp) ea oe :=
  ⟨x.hd, x.ct, x.at I, x.no I, x.ns I, fun z => by
    rcases (hf ea z).2.2.2.1 with y | y
    · exact x.nx y
    · exact absurd x.lt (Nat.not_lt.mpr y)⟩
theorem list_done2 {a it : Addr} (x : Hx X ea oe) (i : Nat) (pins : List (Addr × Obj)) (s : Shared) (σ : St) (H : Hp) (E : Value → Shared → Prop) (I : Inv X pins σ H s) (hf : ∀ b ∈ [it], FpOk X pins H b) (st : s.heap.IsListIter it a i) (hg : (Itl X.K a).stop i H) :
    wpAny (model X.prog X.w) X.A (pyNext (.ref it)) (fun r s1 => r = none ∧ Inv X pins σ H s1) E s := by
  obtain ⟨xs, hq, hx⟩ := hg
  obtain ⟨its, rv, p, hz⟩ := I.list hq
  obtain ⟨f0, f1, f2, f3, f4, f5⟩ := hf it (List.mem_singleton.mpr rfl)
  have hl := rv.length
  have ni : ea ≠ it := fun z => by
    rcases f3 with y | y
    · exact x.nx (z ▸ y)
    · exact absurd x.lt (Nat.not_lt.mpr (z ▸ y))
  exact list_end2 x.hd (x.at I) x.ct ni st p.isList (by simp; lia) fun h' eb => ⟨rfl, I.turned (t' := s.toks) (fun b o hb e => eb b o hb e) f0 f1 f3 f4 f5⟩
theorem list_item2 {tg : Expr} {a it : Addr} (i : Nat) (pins : List (Addr × Obj)) (s : Shared) (σ : St) (H : Hp) (E : Value → Shared → Prop) (I : Inv X pins σ H s) (hf : ∀ b ∈ [it], FpOk X pins H b) (st : s.heap.IsListIter it a i) (hg : (Itl X.K a).go i H) :
    wpAny (model X.prog X.w) X.A (pyNext (.ref it)) (fun r s1 => ∃ u, r = some u ∧
      wpAny (model X.prog X.w) X.A (letOwnedTupleGo tg (.ref it) u) (fun _ s2 => ∃ x H', Inv X pins σ H' s2 ∧ RelV x u ∧ (Itl X.K a).yld i H x H' ∧ s2.heap.IsListIter it a (i + 1) ∧ ∀ b ∈ [it], H' b = none) E s1) E s := by
  obtain ⟨xs, x, hq, hx⟩ := hg
  obtain ⟨its, rv, p, hz⟩ := I.list hq
  obtain ⟨u, hu, ru⟩ := rv.get hx
  obtain ⟨f0, f1, f2, f3, f4, f5⟩ := hf it (List.mem_singleton.mpr rfl)
  refine wpAny_pyNext_list_item st p.isList (x := u) (by simpa using hu) fun h' st' sb => ?_
  have I1 : Inv X pins σ H { s with heap := h' } := I.turned (t' := s.toks) (fun b o hb e => (sb.2 b hb).trans e) f0 f1 f3 f4 f5
  obtain ⟨o, e, c, d⟩ := id st'
  exact ⟨u, rfl, go_of (s := { s with heap := h' }) e c d (by decide) ⟨x, H, I1, ru, ⟨rfl, fun ys hy => by rw [I.list_inj hy hq]; exact hx⟩, st', fun b hb => (hf b hb).1⟩⟩
theorem pgT2 {K : PySem.W.Frag} {es : List Expr} {k : Nat} {t : TGs} {n : Nat} {pos : Pos} (x : Hx X ea oe) (h : PGs X es t) (hn : (assignEach es X.env).length = n := by rfl) (hst : (assignEach es X.env).findIdx? (·.1) = none := by rfl) (e : X.K = K := by rfl) : PG X (.Tuple es k pos) (gTup K n t) := by
  subst e
  intro pins s σ H v u Q I r hw
  obtain ⟨a, xs, e1, hq, hl, hw⟩ := hw
  subst e1
  cases r
  obtain ⟨its, rv, ht, hz⟩ := I.tuple hq
  refine tup_to2 x.hd (x.at I) x.ct ht (by simp [hn, ← hl, rv.length]) hst fun h' hx => ?_
  have I1 : Inv X pins σ H { s with heap := h' } := I.kept (t' := s.toks) fun b o e => hx b o (Nat.ne_of_lt (Heap.lt_size e)) e
  exact h pins _ σ H xs _ Q I1 (by simpa using rv) hw
end
section
variable {X : Cx} {N : List Str} {nt : Nat} {js : List Nat} {scope : Scope} {elt iter tg : Expr} {ifs : List Expr} {pos : Pos} {g : TG} {tc : TT} {te tl : TE} {ea : Addr} {oe : Obj}
set_option maxHeartbeats 4000000 in
theorem comp_run2 {pins : List (Addr × Obj)} {σ : St} {H : Hp} {s₂ : Shared} {cl : List (Str × Addr)} {it a : Addr} {E : Value → Shared → Prop} {Fin : List V → Hp → Prop} {W : Nat → List V → Hp → Prop} {nn : Nat}
    {RR : Value → Addr → Result → Shared → Prop} (hx : Hx X ea oe) (ok : CompOk X N nt js scope)
    (hcl : ∀ x c, cl.lookup x = some c → X.env.cells.lookup x = some c) (hcl2 : ∀ x ∈ scope.names, x.2 = .free → ∃ c, cl.lookup x.1 = some c)
    (hg : ∀ cl C s H fp, Hx (cxComp X N scope cl C s H fp) ea oe → PG (cxComp X N scope cl C s H fp) tg g) (hk : Stays g nt) (hc : ∀ cl C s H fp, PTs (cxComp X N scope cl C s H fp) ifs tc) (he : ∀ cl C s H fp, PE (cxComp X N scope cl C s H fp) elt te)
    (I : Inv X pins σ H s₂) (st : s₂.heap.IsListIter it a 0) (hf : ∀ b ∈ [it], FpOk X pins H b) (w0 : W 0 [] H) (lw : LcW (Itl X.K a) nn nt js σ g tc te Fin W)
    (hRR : ∀ D C s' H' zs m, Inv X pins σ (upd H' D (.lst zs)) s' → s'.heap.Ns C m → H' D = none → (upd H' D (.lst zs)) C = none → C ≠ X.env.locals → X.s₀.heap.objs.size ≤ C → (∀ x c, X.env.cells.lookup x = some c → c ≠ C) →
      (∀ p ∈ X.pn ++ pins, p.1 ≠ C) → Fin zs H' → RR (.ref D) C (.ok .next) s') :
    wpAny (model X.prog X.w) X.A (newList []) (fun acc s₃ => wpAny (model X.prog X.w) X.A (newFunctionEnv scope X.env.globals cl [] X.env.qual none .none (some X.env)) (fun cenv s₄ =>
      codeAny (model X.prog X.w) X.A (.compStart (.ListComp elt [⟨tg, iter, ifs, 0⟩] scope pos) 0 (.ref it) acc { cenv with scope := relabel scope X.env }) (RR acc cenv.locals) s₄) E s₃) E s₂ := by
  have T : Turn X.prog X.w X.K tg (Itl X.K a) [it] it (fun i h => h.IsListIter it a i) := turn_list a it
  refine wpAny_newObj_type (wpAny_newFunctionEnv ok.nocell (by intro y hy; simp at hy) (fun h₁ hns₁ hsb₁ => ?_) ok.kind)
  dsimp only at hns₁ hsb₁ ⊢
  generalize hH2 : s₂.heap.push { cls := .type "list", dict := none, data := .seq ([] : List Value).toArray } = H2 at hns₁ hsb₁ ⊢
  have hC : H2.objs.size = s₂.heap.objs.size + 1 := by rw [← hH2, Heap.size_push]
  have hDC : s₂.heap.objs.size ≠ H2.objs.size := by rw [hC]; exact Nat.ne_of_lt (Nat.lt_succ_self _)
  have hCle : s₂.heap.objs.size ≤ H2.objs.size := by rw [hC]; exact Nat.le_succ _
  have below : ∀ b, b < s₂.heap.objs.size → b ≠ H2.objs.size ∧ b ≠ s₂.heap.objs.size := fun b hb => ⟨by rw [hC]; exact Nat.ne_of_lt (Nat.lt_succ_of_lt hb), Nat.ne_of_lt hb⟩
  have old : ∀ b o, s₂.heap.get? b = some o → h₁.get? b = some o := fun b o e => hsb₁.extBut b o (below b (Heap.lt_size e)).1 (Heap.get?_push_of_some _ (hH2 ▸ Heap.get?_push_of_some _ e))
  have hacc : h₁.get? s₂.heap.objs.size = some (lstO []) := hsb₁.extBut _ _ hDC (Heap.get?_push_of_some _ (hH2 ▸ Heap.get?_push_size _ rfl))
  have ho := T.obj 0 _ st
  have lt : ∀ b ∈ [it], b < s₂.heap.objs.size := fun b hb => by obtain ⟨o, e, _⟩ := ho b hb; exact Heap.lt_size e
  have loop : ∀ s₃ : Shared, s₃ = { s₂ with heap := h₁, toks := s₂.toks + ([] : List (Str × Value)).length } →
      codeAny (model X.prog X.w) X.A (.compLoop (.ListComp elt [⟨tg, iter, ifs, 0⟩] scope pos) 0 (.ref it) (.ref s₂.heap.objs.size) (compEnvC scope cl H2.objs.size X.env)) (RR (.ref s₂.heap.objs.size) H2.objs.size) s₃ := by
    rintro s₃ rfl
    have I0 : Inv (cxComp X N scope cl H2.objs.size s₂ H [it]) [(s₂.heap.objs.size, lstO [])] (cS nt js σ) H { s₂ with heap := h₁, toks := s₂.toks + ([] : List (Str × Value)).length } :=
      inv_comp I ok hcl hcl2 hf ho (Nat.le_refl _) hCle hDC old hns₁ hacc
    have fpy : ∀ {H' : Hp} {ys : List Value}, (∀ b ∈ [it], H' b = none) → ∀ b ∈ [it], FpOk (cxComp X N scope cl H2.objs.size s₂ H [it]) [(s₂.heap.objs.size, lstO ys)] H' b := fun {H' ys} hn b hb =>
      ⟨hn b hb, (below b (lt b hb)).1, I0.ok.exfs b hb, .inl hb, (I0.ok.exf b hb).2, fun p hp => by
        have hp' : p ∈ [(s₂.heap.objs.size, lstO ys)] := hp
        have e : p = (s₂.heap.objs.size, lstO ys) := by simpa using hp'
        rw [e]; exact Ne.symm (below b (lt b hb)).2⟩
    refine compLoop_any (fun n s' => ∃ i zs ys H', n = nn - i ∧ i ≤ nn ∧ Inv (cxComp X N scope cl H2.objs.size s₂ H [it]) [(s₂.heap.objs.size, lstO ys)] (cS nt js σ) H' s' ∧ Vals zs ys ∧ s'.heap.IsListIter it a i ∧ (∀ b ∈ [it], H' b = none) ∧ W i zs H') ?_ nn
      ⟨0, [], [], H, rfl, Nat.zero_le _, I0, .nil, T.keep 0 _ _ st (fun b _ o e => old b o e), fun b hb => (hf b hb).1, w0⟩
    rintro n s' ⟨i, zs, ys, H', hn0, hile, I', rv, st', fr', w'⟩
    by_cases hlt : i < nn
    case neg =>
      have hie : i = nn := Nat.le_antisymm hile (Nat.not_lt.mp hlt)
      rw [hie] at w' st'
      obtain ⟨stop, zl, fin⟩ := lw.stop zs H' w'
      refine thn (list_done2 (hxC hx I hf cl H2.objs.size) nn _ s' _ H' (fun _ _ => False) I' (fpy fr') st' stop) fun r s4 ⟨hr, I4⟩ => ?_
      subst hr
      have zD := (I4.pin (s₂.heap.objs.size, lstO ys) (List.mem_append_right _ (List.mem_singleton.mpr rfl)))
      have u := I4.base
      have u2 : Un (frs X.stack) [it] H (upd H' s₂.heap.objs.size (.lst zs)) s₂.heap s4.heap :=
        ⟨u.keep, u.slot, fun b o q n hx => by rw [upd_ne (Nat.ne_of_lt (Heap.lt_size q))]; exact u.free b o q n hx, u.there, fun b xs q => by rw [upd_ne (ne_of_none (u.tups b xs q) zD.2.1)]; exact u.tups b xs q,
         fun b o xs q => by rw [upd_ne (ne_of_none (u.frzs b o xs q) zD.2.1)]; exact u.frzs b o xs q, fun b ps q => by
           obtain ⟨more, e⟩ := u.tbls b ps q
           exact ⟨more, by rw [upd_ne (ne_of_none e zD.2.1)]; exact e⟩⟩
      have hok2 : HOk X.prog X.w (upd H' s₂.heap.objs.size (.lst zs)) s4.heap := HOk.track I4.hok zD.2.1 ⟨zl, ys, _, rv, zD.1⟩
      have I5 : Inv X pins σ (upd H' s₂.heap.objs.size (.lst zs)) s4 := I.call' I4.os u2 hok2 I4.bare fun b hb => ⟨(hf b hb).2.2.2.1, (hf b hb).2.1, (hf b hb).2.2.2.2.1, (hf b hb).2.2.2.2.2⟩
      obtain ⟨m, hn, _⟩ := I4.loc
      refine hRR _ _ s4 H' zs m I5 hn zD.2.1 ?_ ?_ (Nat.le_trans I.sz hCle) ?_ ?_ fin
      · rw [upd_ne (Ne.symm hDC)]; exact I4.free
      · exact Nat.ne_of_gt (Nat.lt_of_lt_of_le I.lt hCle)
      · intro x c e z
        obtain ⟨v, q⟩ := I.cell x c e
        exact absurd (Nat.lt_of_lt_of_le q.lt (by rw [z]; exact hCle)) (Nat.lt_irrefl _)
      · intro p hp z
        exact absurd (Nat.lt_of_lt_of_le (Heap.lt_size (I.pin p hp).1) (by rw [z]; exact hCle)) (Nat.lt_irrefl _)
    case pos =>
      obtain ⟨go, zl⟩ := lw.go i zs H' hlt w'
      have step := lw.step i zs H'
      refine thn (list_item2 (tg := tg) (X := cxComp X N scope cl H2.objs.size s₂ H [it]) i _ s' _ H' (fun _ _ => False) I' (fpy fr') st' go) fun r s4 ⟨u, hr, h4⟩ => ?_
      subst hr
      refine thn h4 fun _ s5 ⟨x, H5, I5, r5, y5, st5, fr5⟩ => ?_
      have I5' := I5.pinned (fpy fr5) (T.obj _ _ st5)
      refine thn (hg cl _ s₂ H [it] (hxC hx I hf cl _) _ s5 _ H5 x u _ I5' r5 (hk _ _ _ _ (step x H5 hlt w' y5))) fun _ s6 ⟨σ6, H6, I6, ⟨hl6, hd6⟩, q6⟩ => ?_
      refine thn (hc cl _ s₂ H [it] _ s6 σ6 H6 _ I6 q6) fun okb s7 ⟨H7, I7, q7⟩ => ?_
      have frs' : ∀ {H8 : Hp} {σ8 : St} {s8 : Shared}, Inv (cxComp X N scope cl H2.objs.size s₂ H [it]) ([(s₂.heap.objs.size, lstO ys)] ++ pinsAt [it] s5.heap) σ8 H8 s8 → s8.heap.IsListIter it a (i + 1) ∧ ∀ b ∈ [it], H8 b = none := fun {H8 σ8 s8} I8 =>
        ⟨T.keep _ _ _ st5 fun b hb o e => (I8.pin (b, o) (List.mem_append_right _ (List.mem_append_right _ (mem_pinsAt hb e)))).1, fun b hb => by
          obtain ⟨o, e, d⟩ := T.obj _ _ st5 b hb
          exact (I8.pin (b, o) (List.mem_append_right _ (List.mem_append_right _ (mem_pinsAt hb e)))).2.1⟩
      cases okb with
      | false =>
        rw [if_neg Bool.false_ne_true] at q7 ⊢
        obtain ⟨a1, a2⟩ := frs' I7
        exact ⟨nn - (i + 1), by rw [hn0]; exact Nat.sub_lt_sub_left hlt (Nat.lt_succ_self i), i + 1, zs, ys, H7, rfl, hlt, I7.unpinned.weak (by rw [hl6]) (cS_weak hl6 hd6), rv, a1, a2, q7⟩
      | true =>
        rw [if_pos rfl] at q7 ⊢
        refine thn (he cl _ s₂ H [it] _ s7 σ6 H7 _ I7 q7) fun v s8 ⟨y, H8, I8, r8, q8⟩ => ?_
        have zD := (I8.pin (s₂.heap.objs.size, lstO ys) (List.mem_append_right _ (List.mem_append_left _ (List.mem_singleton.mpr rfl))))
        have ylen : ys.length < sizeLine := by rw [← rv.length]; exact zl
        obtain ⟨a1, a2⟩ := frs' I8
        refine append_at (hsz := by rw [List.size_toArray]; exact Nat.le_of_lt ylen) zD.1 fun h9 hs9 hD9 => ?_
        have I8u : Inv (cxComp X N scope cl H2.objs.size s₂ H [it]) [] (cS nt js σ) H8 s8 := (I8.pins_of (pins' := []) fun p hp => nomatch hp).weak (by rw [hl6]) (cS_weak hl6 hd6)
        have I9 : Inv (cxComp X N scope cl H2.objs.size s₂ H [it]) [] (cS nt js σ) H8 { s8 with heap := h9 } := I8u.turned (t' := s8.toks) (it := s₂.heap.objs.size) (fun b o hb e => hs9.extBut b o hb e) zD.2.1 hDC (.inr (Nat.le_refl _))
          (fun x c e z => by
            obtain ⟨v, q⟩ := I.cell x c (hcl x c e)
            exact absurd (Nat.lt_of_lt_of_le q.lt (by rw [z]; exact Nat.le_refl _)) (Nat.lt_irrefl _)) (fun p hp => nomatch hp)
        refine ⟨nn - (i + 1), by rw [hn0]; exact Nat.sub_lt_sub_left hlt (Nat.lt_succ_self i), i + 1, zs ++ [y], ys ++ [v], H8, rfl, hlt, I9.pins_of (fun p hp => ?_), rv.snoc r8, T.keep _ _ _ a1 fun b hb o e => hs9.extBut b o (below b (lt b hb)).2 e, a2, q8⟩
        have e : p = (s₂.heap.objs.size, lstO (ys ++ [v])) := by simpa using hp
        subst e
        refine ⟨?_, zD.2.1, hDC, zD.2.2.2.1, fun v z => by cases z⟩
        rw [hD9]
        show some ({ cls := .type "list", data := .seq (ys.toArray.push v) (ys.length + 1) } : Obj) = some { cls := .type "list", data := .seq (ys ++ [v]).toArray (ys ++ [v]).length }
        rw [List.length_append, List.length_singleton, List.push_toArray]
  exact codeAny_compStart_list (loop _ rfl) (T.self _ 0 _ _ _ (T.keep 0 _ _ st (fun b _ o e => old b o e)) (loop _ rfl))


/-- name = [..] -/
theorem ps_lc2 {K : PySem.W.Frag} {i : Nat} {y : Str} {py spos : Pos} (hx : Hx X ea oe) (hN : X.N.Nodup) (hi' : X.N[i]? = some y) (hy : X.env.kindOf y = some .local) (ok : CompOk X N nt js scope) (hi : PE X iter tl) (hg : ∀ cl C s H fp, Hx (cxComp X N scope cl C s H fp) ea oe → PG (cxComp X N scope cl C s H fp) tg g) (hk : Stays g nt)
    (hc : ∀ cl C s H fp, PTs (cxComp X N scope cl C s H fp) ifs tc) (he : ∀ cl C s H fp, PE (cxComp X N scope cl C s H fp) elt te)
    (hsw : swapsWith (.ListComp elt [⟨tg, iter, ifs, 0⟩] scope pos) (some (.Name y py)) spos.line X.env = pure true) (hs : ∀ x, foldedSetIterable iter X.env x = pure x := by intro _; rfl) (eK : X.K = K := by rfl) :
    PS X (.Assign [.Name y py] (.ListComp elt [⟨tg, iter, ifs, 0⟩] scope pos) spos) (tAsg (tLC (iList K tl) nt js g tc te) (gName i)) := by
  subst eK
  intro pins s σ H D₀ I h
  obtain ⟨cl, hclos, hcl, hcl2⟩ := closureFor_ok (scope := scope) (env := X.env) fun x hx hf => I.ok.has x.1 (ok.free x hx hf)
  rw [exec_Assign_Name_used _ _ _ _ hsw]
  refine wpAny_bind (wpAny_standAt (wpAny_bind ?_))
  show wpAny _ X.A (do let _ ← comprehension (.ListComp elt [⟨tg, iter, ifs, 0⟩] scope pos) scope X.env _ (newList []) false (eval iter X.env) (some (assign (.Name y py) X.env))) _ _ s
  refine wpAny_bind (wpAny_mono (wpAny_comprehension_free (use := some (assign (.Name y py) X.env)) (Q := fun _ s' => SP X pins D₀ .next s') rfl hs hclos ok.kind ok.names
    (thn (hi pins s σ H _ I (lc_to (show tLC (iList X.K tl) nt js g tc te σ H fun x H1 => gName i x σ H1 D₀.nx from h))) fun v s1 ⟨x, H1, I1, r1, q1⟩ => ?_)) (fun _ s' hq => wpAny_pure (wpAny_pure hq)) fun _ _ e => e)
  obtain ⟨a, e, ⟨xs, hq⟩, nn, W, w0, lw⟩ := q1
  subst e
  cases r1
  obtain ⟨its, rv, p, hz⟩ := I1.list hq
  refine wpAny_pyIter_list p.isList ?_
  have I2 : Inv X pins σ H1 { s1 with heap := s1.heap.push { cls := .type "list_iterator", data := .fields #[.ref a, .int 0 0] } } := I1.kept (t' := s1.toks) fun b o e => Heap.get?_push_of_some _ e
  have f2 : ∀ b ∈ [s1.heap.objs.size], FpOk X pins H1 b := fun b hb => by
    have e : b = s1.heap.objs.size := List.mem_singleton.mp hb
    subst e
    exact I1.fpOk (Nat.le_refl _) (I1.hok.fresh (Nat.le_refl _))
  refine comp_run2 (RR := fun acc C => compPost (model X.prog X.w) X.A X.xe (some (assign (.Name y py) X.env)) (fun _ s' => SP X pins D₀ .next s') acc C) hx ok hcl hcl2 hg hk hc he I2 ⟨_, Heap.get?_push_size _ rfl, rfl, rfl⟩ f2 w0 lw ?_
  intro D C s' H' zs m I3 hn hDn hCn hCL hC0 hCc hCp fin
  show wpAny _ X.A (assign (.Name y py) X.env (.ref D)) _ _ _
  refine wpAny_assign_Name (store_ok2 (v := .ref D) I3 hN hi' (.inl hy) rfl (fun s3 I4 hsb => ?_) (.inr hy))
  obtain ⟨a, hsb, ha⟩ := hsb
  have haC : C ≠ a := by
    rcases ha with z | z
    · rw [z]; exact hCL
    · exact Ne.symm (hCc y a z)
  refine ⟨m, hn.sameBut hsb haC, fun h'' hs'' => ?_⟩
  exact ⟨_, _, I4.turned (t' := s3.toks) (it := C) (fun b o hb e => hs''.extBut b o hb e) hCn hCL (.inr hC0) hCc hCp, fin D hDn⟩
end
end L2

/-! own layer, part 52: try with `x = g(e)` in its except suite, where g looks at the caught exception -/
namespace L2
open PySem PySem.Spec PyProof.Rows
/-- as CX1, and the exception's context is None -/
def CX2 (P : Program) (w : World) : CXT := fun outer H s E e s' => ∃ (ea : Addr) (cls a0 : Value) (B : Heap) (H' : Hp), e = .ref ea ∧ s'.os = s.os ∧ AllBare s'.gens ∧ Un (frs outer) [] H H' s.heap s'.heap ∧ HOk P w H' s'.heap ∧
  Fly2 B outer ea cls a0 .none s'.heap ∧ (∀ b o, s.heap.get? b = some o → b ∉ frs outer → ∃ o', B.get? b = some o') ∧ (∀ b u, H' b = some u → ∃ o', B.get? b = some o') ∧ E cls none H'
section
variable {P : Program} {w : World} {K : PySem.W.Frag} {mg : Str → Option Value} {base : Heap} {N : List Str} {qual : Str} {scope : Scope} {f : Addr} {cd : Value} {A : Around} {outer : List Env} {s : Shared} {H : Hp} {E : XK}
theorem makes2 : Makes (cxOf (CX2 P w) P w K mg base N qual scope f cd A outer s H E) E := by
  intro pins σ H1 s1 h2 ea cls vs I hx hE
  have k1 : ∀ b o, s1.heap.get? b = some o → b ∉ frs (cxOf (CX2 P w) P w K mg base N qual scope f cd A outer s H E).stack → ∃ o', (PySem.W.hideAll s1.heap (frs (cxOf (CX2 P w) P w K mg base N qual scope f cd A outer s H E).stack)).get? b = some o' := fun b o e n => ⟨o, PySem.W.hideAll_get _ e n⟩
  have k2 : ∀ b u, H1 b = some u → ∃ o', (PySem.W.hideAll s1.heap (frs (cxOf (CX2 P w) P w K mg base N qual scope f cd A outer s H E).stack)).get? b = some o' := fun b u e => by
    obtain ⟨o, q⟩ := (I.hok b u e).got
    exact k1 b o q fun z => by rw [I.stkFree b z] at e; cases e
  refine made2 (B := PySem.W.hideAll s1.heap (frs (cxOf (CX2 P w) P w K mg base N qual scope f cd A outer s H E).stack)) (h := s1.heap) (outer := outer) I.ok.frames rfl (fun b o q => PySem.W.of_hideAll _ q) (PySem.W.funFrames_hide I.stack (hid_frs s1.heap _)) hx fun h' t fly us => ?_
  have us1 : s1.heap.UpToSlots h' := (Heap.UpToSlots.of_keeps hx.keeps).trans us
  have J := I.flown (s' := s1) (toks := s1.toks) Un.refl I.hok rfl I.bare (fun b o q => PySem.W.of_hideAll _ q) k1 k2 fly.1 (Inv.slots I.stack us1)
  refine ⟨ea, cls, _, _, H1, rfl, I.os, I.bare, J.base, J.hok, fly, fun b o e n => ?_, k2, hE⟩
  obtain ⟨o1, q⟩ := I.base.there b o e (fun z => nomatch z)
  refine k1 b o1 q fun z => ?_
  rcases List.mem_cons.mp (I.stkSub b z) with e1 | z
  · exact Nat.ne_of_lt (Nat.lt_of_lt_of_le (Heap.lt_size e) I.ok.above) e1
  · exact n z
theorem Fun.okY {x : Str} {st : Stmt} {fd : FuncData} {ps : List Str} {k : Nat} {sp : Sp} (F : Fun K x qual st f fd) (S : FnScope N ps (defScope st)) (len : ∀ vs H Q E, sp vs H Q E → vs.length = ps.length)
    (hbody : ∀ (cdv : Value) (A : Around) (outer : List Env) (s : Shared) (H : Hp) (vs : List V) (Q : VK) (E : XK), Room k (A.deeper (envOfC qual (defScope st) s.heap.objs.size f cdv)) → sp vs H Q E →
      ∃ t, PSs (cxOf (CX2 P w) P w K mg base N qual (defScope st) f cdv A outer s H E) (defBody st) t ∧ t { nx := fun _ H' => Q .non H', rt := Q } (start N vs) H) : FnOk P w K mg base (CX2 P w) (k + 1) f fd ps sp := by
  obtain ⟨oc, od, kV, doc, pm, an, cdv, ct, osl, rfl, lk, hcd⟩ := F.ex
  exact fn_of lk hcd S len fun A outer s H vs Q E hr hsp => hbody cdv A outer s H vs Q E hr hsp
/-- where no exception comes, none comes -/
theorem FnOk.calm {fd : FuncData} {ps : List Str} {k : Nat} {sp : Sp} {CX : CXT} (F : FnOk P w K mg base CX0 k f fd ps sp) : FnOk P w K mg base CX k f fd ps sp :=
  ⟨F.len, fun A outer s H args us vs Q E hr he hb hv hs => codeAny_mono (F.run A outer s H args us vs Q E hr he hb hv hs) fun r s' q => by
    cases r with
    | ok fl => cases fl <;> exact q
    | error e => exact False.elim q⟩
theorem FnOk.or {fd : FuncData} {ps : List Str} {k : Nat} {sp sp' : Sp} {CX : CXT} (F : FnOk P w K mg base CX k f fd ps sp) (G : FnOk P w K mg base CX k f fd ps sp') : FnOk P w K mg base CX k f fd ps (fun vs H Q E => sp vs H Q E ∨ sp' vs H Q E) :=
  ⟨fun vs H Q E h => h.elim (F.len vs H Q E) (G.len vs H Q E), fun A outer s H args us vs Q E hr he hb hv hs => hs.elim (F.run A outer s H args us vs Q E hr he hb hv) (G.run A outer s H args us vs Q E hr he hb hv)⟩
end
structure FdY (P : Program) (w : World) (K : PySem.W.Frag) (mg : Str → Option Value) (base : Heap) (n : Nat) (x : Str) (ps : List Str) (sp : Sp) : Prop where
  ex : ∃ (f : Addr) (fd : FuncData), FnOk P w K mg base (CX2 P w) n f fd ps sp ∧ Binds K fd ps [] ∧ PySem.W.keepIn K (.ref f) = true ∧ mg x = some (.ref f)
/-! ### what stands within a try -/
abbrev TB := (St → Hp → Prop) → XK → St → Hp → Prop
/-- it goes on to nx, or an exception comes, with all names as they were at the try -/
def PB (X : Cx) (body : List Stmt) (t : TB) : Prop := ∀ (pins : List (Addr × Obj)) (s : Shared) (σ : St) (H : Hp) (nx : St → Hp → Prop) (E : XK), Inv X pins σ H s → t nx E σ H →
  wpAny (model X.prog X.w) X.A (execs body X.env) (fun fl s1 => fl = .next ∧ ∃ σ' H', Inv X pins σ' H' s1 ∧ nx σ' H') (fun e s2 => ∃ H1 s1, Inv X pins σ H1 s1 ∧ CX2 X.prog X.w X.stack H1 s1 E e s2) s
def tBx (sp : Sp) (t : TA) : TB := fun nx E σ H => t σ H fun vs H1 => sp vs H1 (fun _ H2 => nx σ H2) E
section
variable {X : Cx} {n k : Nat} {x : Str} {ps : List Str} {sp : Sp} {e : Expr} {es : List Expr} {t : TA} {p pos : Pos}
/-- f(..), where an exception may come -/
theorem run_y {pins : List (Addr × Obj)} {σ : St} {H : Hp} {s : Shared} {Q : VK} {E : XK} (F : FdY X.prog X.w X.K X.mg X.base n x ps sp) (hr : Room k X.A) (hg : Gl X x) (ha : PA X.nox (e :: es) t) (I : Inv X pins σ H s) (h : t σ H fun vs H1 => sp vs H1 Q E) (hn : n ≤ k)
    (hdb : (x == ("__debug__" : Str)) = false) (he : starEach (e :: es) X.env = (false, eval e X.env) :: starEach es X.env) (hpl : (backTo pos (starEach es X.env)).any (·.1) = false) :
    wpAny (model X.prog X.w) X.A (eval (.Call (.Name x p) (e :: es) [] pos) X.env) (EP X pins σ Q) (fun e s2 => ∃ H1 s1, Inv X pins σ H1 s1 ∧ CX2 X.prog X.w X.stack H1 s1 E e s2) s := by
  obtain ⟨f, fd, F1, F2, F3, F4⟩ := F.ex
  refine wpAny_Call_Name_kw (ld_glob I hg F4 ?_ hdb)
  refine PySem.W.callWith_K (h₀ := X.base) I.ok.mod.kin F3 (wpAny_mono (ha pos pins s σ H _ (I.wish _) h) (fun us s1 ⟨vs, H1, I1, r, q⟩ => ⟨I1.unwish.kIn, ?_⟩) fun _ _ z => False.elim z) he hpl
  have I1 := I1.unwish
  have hlen : us.length = ps.length := by rw [← r.length]; exact F1.len _ _ _ _ q
  have hb' := F2 s1 us I1.kIn (by rw [List.append_nil]; exact hlen)
  rw [List.append_nil] at hb'
  refine wpAny_call (codeAny_mono (F1.run X.A X.stack s1 H1 ⟨us, []⟩ us vs _ _ (hr.mono hn) I1.env0 hb' r q) fun r s2 hq => ?_)
  cases r with
  | error e => exact ⟨H1, s1, I1, hq⟩
  | ok fl =>
    cases fl with
    | ret u => exact I1.after hq
    | next => exact False.elim hq
    | brk => exact False.elim hq
    | cont => exact False.elim hq
theorem pb_expr {epos : Pos} (F : FdY X.prog X.w X.K X.mg X.base n x ps sp) (hr : Room k X.A) (hg : Gl X x) (ha : PA X.nox (e :: es) t) (hn : n ≤ k := by decide) (hs : swapsWith (.Call (.Name x p) (e :: es) [] pos) none epos.line X.env = pure false := by rfl)
    (hdb : (x == ("__debug__" : Str)) = false := by decide) (he : starEach (e :: es) X.env = (false, eval e X.env) :: starEach es X.env := by rfl) (hpl : (backTo pos (starEach es X.env)).any (·.1) = false := by rfl) :
    PB X [.Expr (.Call (.Name x p) (e :: es) [] pos) epos] (tBx sp t) := by
  intro pins s σ H nx E I h
  exact wpAny_execs_cons (wpAny_Expr_any (thn (run_y F hr hg ha I h hn hdb he hpl) fun v s1 ⟨y, H1, I1, r1, q1⟩ => wpAny_execs_nil ⟨rfl, σ, H1, I1, q1⟩) I.quiet hs)
end
/-! ### a def that is called with the caught exception, in the except suite -/
abbrev SpH := Value → Addr → Hp → VK → Prop
structure FnH (P : Program) (w : World) (K : PySem.W.Frag) (mg : Str → Option Value) (base : Heap) (k : Nat) (f : Addr) (fd : FuncData) (x : Str) (sp : SpH) : Prop where
  run : ∀ (A : Around) (outer : List Env) (s : Shared) (H : Hp) (ea : Addr) (oe : Obj) (Q : VK), Room k A → Env0 P w K mg base (A.mark (some (.ref ea))) outer s H → BindsTo s fd ⟨[.ref ea], []⟩ [(x, .ref ea)] → s.heap.get? ea = some oe → Ctx0 oe → H ea = none → ea ∉ frs outer → sp oe.cls ea H Q →
    codeAny (model P w) (A.mark (some (.ref ea))) (.call (.ref f) ⟨[.ref ea], []⟩) (CR CX0 outer P w H s Q E0) s
section
variable {P : Program} {w : World} {K : PySem.W.Frag} {mg : Str → Option Value} {base : Heap}
theorem Fun.okH {x qual y : Str} {st : Stmt} {f : Addr} {fd : FuncData} {N : List Str} {k : Nat} {sp : SpH} (F : Fun K x qual st f fd) (S : FnScope N [y] (defScope st))
    (hbody : ∀ (cdv : Value) (A : Around) (outer : List Env) (s : Shared) (H : Hp) (ea : Addr) (oe : Obj) (Q : VK), Room k (A.deeper (envOfC qual (defScope st) s.heap.objs.size f cdv)) → Hx ((cxOf CX0 P w K mg base N qual (defScope st) f cdv A outer s H E0).marked ea) ea oe → sp oe.cls ea H Q →
      ∃ t, PSs ((cxOf CX0 P w K mg base N qual (defScope st) f cdv A outer s H E0).marked ea) (defBody st) t ∧ t { nx := fun _ H' => Q .non H', rt := Q } (start N [.ref ea]) H) : FnH P w K mg base (k + 1) f fd y sp := by
  obtain ⟨oc, od, kV, doc, pm, an, cdv, ct, osl, rfl, lk, hcd⟩ := F.ex
  refine ⟨fun A outer s H ea oe Q hr e0 hb ho hc hn hf hsp => ?_⟩
  have e1 : Env0 P w K mg base A outer s H := ⟨e0.frames, e0.mod, e0.bs, e0.bsz, e0.funs, e0.frf, e0.hok, e0.bare⟩
  have KX : K.In s.heap := e0.mod.kin.keeps fun b o e => (e0.bs b o e).1
  have lim : s.heap.NoLimit := e0.mod.nolimit.keeps fun b o e => (e0.bs b o e).1
  have hkind : ∀ z ∈ [y].zip [Value.ref ea], (defScope st).names.lookup z.1 = some .local ∨ ((defScope st).names.lookup z.1 = some .cell ∧ ((cellsFrom (s.heap.objs.size + 1) (defScope st).names []).lookup z.1).isSome = true) := fun ⟨n, v⟩ hy => by
    rcases S.par n (List.of_mem_zip hy).1 with q | q
    · exact .inl q
    · exact .inr ⟨q, PySem.W.cellsFrom_some _ _ _ (.inl q)⟩
  refine codeAny_call_function (show (A.mark (some (.ref ea))).depth < _ from hr.depth) (KX _ _ lk) rfl S.co S.gen rfl (PySem.W.codeRec_of KX hcd) (hb _ _ _ _ ?_)
  refine wpAny_newFunctionEnv_cells S.kind hkind fun env he s1 x => ?_
  subst he
  refine ⟨lim.keeps x.toInCall.keep, codeAny_func ?_⟩
  have hx : Hx ((cxOf CX0 P w K mg base N qual (defScope st) f cdv A outer s H E0).marked ea) ea oe := ⟨rfl, hc, ho, hn, hf, fun z => nomatch z⟩
  obtain ⟨t, ht, hq⟩ := hbody cdv A outer s H ea oe Q (hr.deeper _) hx hsp
  have I : Inv (cxOf CX0 P w K mg base N qual (defScope st) f cdv A outer s H E0) [] (start N [.ref ea]) H s1 := inv_start S hr.hd e1 rfl (.cons rfl .nil) x
  refine wpAny_mono (ht [] s1 (start N [.ref ea]) H _ (I.marked ea) hq) (fun fl s' hs => ?_) fun e s' hs => hs.elim
  have fin : ∀ {σ' : St} {H' : Hp} {v : V} {u : Value}, Inv ((cxOf CX0 P w K mg base N qual (defScope st) f cdv A outer s H E0).marked ea) [] σ' H' s' → RelV v u → Q v H' → CE outer P w H s Q u s' :=
    fun {σ' H' v u} J rv q => ⟨v, H', J.os, J.bare, J.base, J.hok, rv, q⟩
  cases fl with
  | ret u =>
    obtain ⟨v, σ', H', J, rv, q⟩ := hs
    exact fin J rv q
  | next =>
    obtain ⟨σ', H', J, q⟩ := hs
    exact fin (v := V.non) (u := Value.none) J rfl q
  | brk => obtain ⟨_, _, _, q⟩ := hs; exact False.elim q
  | cont => obtain ⟨_, _, _, q⟩ := hs; exact False.elim q
end
structure FdH (P : Program) (w : World) (K : PySem.W.Frag) (mg : Str → Option Value) (base : Heap) (n : Nat) (x y : Str) (sp : SpH) : Prop where
  ex : ∃ (f : Addr) (fd : FuncData), FnH P w K mg base n f fd y sp ∧ Binds K fd [y] [] ∧ PySem.W.keepIn K (.ref f) = true ∧ mg x = some (.ref f)
/-! ### the try -/
/-- within the suite: the exception is pinned -/
abbrev Cx.kept (X : Cx) (ea : Addr) (oe : Obj) : Cx := { X.marked ea with pn := (ea, oe) :: X.pn }
section
variable {X : Cx} {pins : List (Addr × Obj)} {σ : St} {H : Hp} {s : Shared} {ea : Addr} {oe : Obj}
theorem Inv.kept2 (I : Inv X pins σ H s) (h1 : s.heap.get? ea = some oe) (h2 : H ea = none) (h3 : ea ≠ X.env.locals) (h4 : ea ∉ X.fs) (h5 : Ctx0 oe) : Inv (X.kept ea oe) pins σ H s :=
  ⟨⟨I.ok.mod, I.ok.kind, I.ok.glob, I.ok.blt, I.ok.above, I.ok.inj, I.ok.has, I.ok.cab, (fun z => nomatch z), I.ok.frames, I.ok.stk, I.ok.exf, I.ok.bs, I.ok.bsz, I.ok.noex, I.ok.exfs, I.ok.funs, I.ok.frf⟩, I.os, I.bare, I.base, I.loc, I.cell, I.free, I.freeC, fun p hp => by
    rcases List.mem_cons.mp (show p ∈ (ea, oe) :: (X.pn ++ pins) from hp) with e | z
    · subst e
      obtain ⟨v, hv, _⟩ := h5
      exact ⟨h1, h2, h3, h4, fun w z => by rw [hv] at z; cases z⟩
    · exact I.pin p z, I.hok, I.len⟩
theorem Inv.unkept (J : Inv (X.kept ea oe) pins σ H s) (ok : X.Ok) : Inv X pins σ H s := ⟨ok, J.os, J.bare, J.base, J.loc, J.cell, J.free, J.freeC, fun p hp => J.pin p (List.mem_cons_of_mem _ hp), J.hok, J.len⟩
end
/-- g(e), e the caught exception -/
def tRef (sp : SpH) (ea : Addr) (cls : Value) (t : TA) : TE := fun σ H Q => t σ H fun vs H1 => vs = [.ref ea] ∧ sp cls ea H1 Q
theorem pe_ref {X : Cx} {ea : Addr} {oe : Obj} {k n : Nat} {x y : Str} {sp : SpH} {e : Expr} {t : TA} {p pos : Pos} (F : FdH X.prog X.w X.K X.mg X.base n x y sp) (hr : Room k X.A) (hc : Ctx0 oe) (hst : X.stack = X.env :: X.outer) (hfr : X.env.frame = some X.env.locals) (hg : Gl X x) (ha : PA (X.kept ea oe) [e] t) (hn : n ≤ k)
    (hdb : (x == ("__debug__" : Str)) = false) (he : starEach [e] X.env = [(false, eval e X.env)]) : PE (X.kept ea oe) (.Call (.Name x p) [e] [] pos) (tRef sp ea oe.cls t) := by
  obtain ⟨f, fd, F1, F2, F3, F4⟩ := F.ex
  intro pins s σ H Q I h
  refine wpAny_Call_Name_kw (ld_glob I hg F4 ?_ hdb)
  refine PySem.W.callWith_K (h₀ := X.base) I.ok.mod.kin F3 (thn (ha pos pins s σ H _ I h) fun us s1 ⟨vs, H1, I1, r, ev, q⟩ => ⟨I1.kIn, ?_⟩) he rfl
  subst ev
  obtain ⟨u, rfl, ru⟩ := r.one
  have ru : u = .ref ea := ru
  subst ru
  obtain ⟨p1, p2, p3, p4, _⟩ := I1.pin (ea, oe) List.mem_cons_self
  have p5 : ea ∉ frs X.stack := fun z => by
    rw [hst] at z
    have z : ea ∈ (X.env :: X.outer).filterMap (·.frame) := z
    rw [List.filterMap_cons, hfr] at z
    rcases List.mem_cons.mp z with z | z
    · exact p3 z
    · exact p4 z
  have hb' := F2 s1 [.ref ea] I1.kIn rfl
  refine wpAny_call (codeAny_mono (F1.run X.A X.stack s1 H1 ea oe Q (hr.mono hn) I1.env0 hb' p1 hc p2 p5 q) fun r s2 hq => ?_)
  cases r with
  | error e => exact False.elim hq
  | ok fl =>
    cases fl with
    | ret u => exact I1.after hq
    | next => exact False.elim hq
    | brk => exact False.elim hq
    | cont => exact False.elim hq
def tTryR (K : PySem.W.Frag) (CE : Addr) (i j : Nat) (sp : SpH) (tb : TB) : TS := fun D σ H => tb D.nx (fun cls _ H2 => PySem.W.exmOne K cls (.ref CE) = some true ∧ ∀ ea, H2 ea = none → sp cls ea H2 fun v H3 => D.nx (((σ.set i (some (.ref ea))).set j (some v)).set i none) H3) σ H
theorem ps_tryR {X : Cx} {k m : Nat} {CE : Addr} {sp : SpH} {g y n a c : Str} {i j : Nat} {gp np ap cpos spos yp hpos pos : Pos} {body : List Stmt} {tb : TB} (hb : PB X body tb) (F : FdH X.prog X.w X.K X.mg X.base m g c sp) (hr : Room k X.A) (hg : Gl X g)
    (hgy : Gl X y) (hmy : X.mg y = some (.ref CE)) (nd : X.N.Nodup) (hi : X.N[i]? = some n) (hl : X.env.scope.names.lookup n = some .local) (hj : X.N[j]? = some a) (hla : X.env.scope.names.lookup a = some .local) (hst : X.stack = X.env :: X.outer) (hfr : X.env.frame = some X.env.locals) (hm : m ≤ k := by decide)
    (hs : swapsWith (.Call (.Name g gp) [.Name n np] [] cpos) (some (.Name a ap)) spos.line X.env = pure false := by rfl) (hdb : (g == ("__debug__" : Str)) = false := by decide) (hdy : (y == ("__debug__" : Str)) = false := by decide) (hdn : (n == ("__debug__" : Str)) = false := by decide) (hcn : (n == ("__classdict__" : Str)) = false := by decide)
    (he : starEach [.Name n np] X.env = [(false, eval (.Name n np) X.env)] := by rfl) :
    PS X (.Try body [.ExceptHandler (some (.Name y yp)) (some n) [.Assign [.Name a ap] (.Call (.Name g gp) [.Name n np] [] cpos) spos] hpos] [] [] pos) (tTryR X.K CE i j sp tb) := by
  intro pins s σ H D I h
  refine wpAny_Try_except (wpAny_mono (hb pins s σ H _ _ I h) (fun fl s1 ⟨ef, σ', H', I1, q⟩ => ?_) fun ex s2 ⟨H1, s1, I1, hq⟩ => ?_)
  · subst ef
    exact wpAny_execs_nil ⟨σ', H', I1, q⟩
  obtain ⟨ea, cls, a0, B, H2, rfl, os, bare, un, hok, fly, k1, k2, hxm, hts⟩ := hq
  have hH2 : H2 ea = none := by
    cases z : H2 ea with
    | none => rfl
    | some u => obtain ⟨o', q'⟩ := k2 ea u z; rw [fly.2.1] at q'; cases q'
  have hts := hts ea hH2
  have hA : X.A.frames = some (X.env :: X.outer) := by rw [← hst]; exact I.ok.frames
  have ff := fly.2.2.1
  rw [hst] at fly
  refine note2 (B := B) hA hfr fly fun h3 held us3 => ?_
  refine land2 (s := { s2 with heap := h3 }) held fun h4 fly4 us4 => ?_
  have u4 := us3.trans us4
  have J4 := I1.flown (toks := s2.toks) un hok os bare fly.1 k1 k2 fly4.1 (Inv.slots ff u4)
  refine wpAny_handleBy_cons (codeAny_handlers_test ?_) (by intro q; cases q)
  refine ld_glob (X := X.marked ea) (J4.marked ea) hgy hmy ?_ hdy
  obtain ⟨ob, hob, hcl, _⟩ := fly4.obj
  have LT : PySem.W.Looks (model X.prog X.w) h4 (typeOf (.ref ea)) cls := by subst hcl; exact (PySem.W.Looks.ld hob).andThen .now
  refine (PySem.W.exm_one J4.kIn LT hxm).here ?_
  refine codeAny_handlers_suite_as ?_
  refine land2 (s := { s2 with heap := h4 }) fly4 fun h5 fly5 us5 => ?_
  obtain ⟨oe, heo, hec, hct⟩ := fly5.obj
  have J5 := I1.flown (toks := s2.toks) un hok os bare fly.1 k1 k2 fly5.1 (Inv.slots ff (u4.trans us5))
  have p5 : ea ∉ (X.env :: X.outer).filterMap (·.frame) := fun z => by
    obtain ⟨_, o', e', nf⟩ := fly5.2.2.1.mem z
    rw [heo] at e'
    cases e'
    obtain ⟨v, hv, _⟩ := hct
    exact nf v hv
  rw [List.filterMap_cons, hfr] at p5
  have p3 : ea ≠ X.env.locals := fun z => p5 (z ▸ List.mem_cons_self)
  have p4 : ea ∉ X.fs := fun z => p5 (List.mem_cons_of_mem _ z)
  have J6 : Inv (X.kept ea oe) pins σ H2 { s2 with heap := h5 } := J5.kept2 heo hH2 p3 p4 hct
  have il : i < σ.length := by rw [I.len]; exact (List.getElem?_eq_some_iff.mp hi).1
  have pn : PE (X.kept ea oe) (.Name n np) (tVar i) := pe_var hi (.inl hl) hdn hcn
  have PC := pe_ref (p := gp) (pos := cpos) F hr hct hst hfr hg (pa_cons pn pa_nil he) hm hdb he
  have PA1 : PS (X.kept ea oe) (.Assign [.Name a ap] (.Call (.Name g gp) [.Name n np] [] cpos) spos) _ := ps_set nd hj (.inl hla) PC hs (.inr hla)
  refine store_ok (X := X.kept ea oe) J6 nd hi (.inl hl) (v := .ref ea) rfl (fun s6 I6 => ?_) (.inr hl)
  have hq6 : tAsg (tRef sp ea oe.cls (tCons (tVar i) tNil)) (gName j) { nx := fun σ' H3 => D.nx (σ'.set i none) H3, rt := fun _ _ => False } (σ.set i (some (.ref ea))) H2 :=
    ⟨.ref ea, by rw [List.getElem?_set_self il], rfl, by rw [hec]; exact hts⟩
  refine wpAny_execs_cons (wpAny_mono (PA1 pins s6 _ _ _ I6 hq6) (fun fl s7 hs7 => ?_) fun _ _ z => False.elim z)
  cases fl with
  | next =>
    obtain ⟨σ', H7, I7, q7⟩ := hs7
    refine wpAny_execs_nil ?_
    obtain ⟨m, hn, hl7⟩ := id I7.loc
    refine wpAny_nameGoes_keeps hl hn (by rw [I.ok.kind]; rfl) fun h8 v hn8 sb => ?_
    exact ⟨_, _, (I7.unkept I.ok).gone nd hi hl7 hn8 sb, q7⟩
  | ret u => obtain ⟨_, _, _, _, _, q7⟩ := hs7; exact q7.elim
  | brk => obtain ⟨_, _, _, q7⟩ := hs7; exact q7.elim
  | cont => obtain ⟨_, _, _, q7⟩ := hs7; exact q7.elim
/-! ### isinstance of the caught exception -/
section
open PySem.W
variable {X : Cx} (K : PySem.W.Frag)
inductive cIsiH (ea : Addr) (cls : Value) (xs : List V) (H : Hp) (Q : VK) : Prop
  | mk (D : _) (y : _) (c : _) (b : _) (h1 : cls = .ref D) (h2 : XTy K D) (h3 : xs = [.ref ea, y]) (h4 : clsV y = some c) (h5 : kitOne K (.ref D) c = some b) (h6 : Q (.bl b) H) : cIsiH ea cls xs H Q
theorem isiH {ea : Addr} {oe : Obj} (hx : Hx X ea oe) (e : X.K = K := by rfl) : CallR X (.builtin "isinstance") (cIsiH K ea oe.cls) := by
  subst e
  intro pins s σ H xs us Q I r h
  obtain ⟨D, y, c, b, hD, T, rfl, hy, hk, q⟩ := h
  have hp : ExAt ea D s.heap := ⟨oe, hx.at I, hD⟩
  obtain ⟨u, w', rfl, rx, ry⟩ := vals2 r
  cases rx
  rw [clsV_rel ry hy]
  exact kia_one (kitx_exc T) I.kIn hp hk (fun z => nomatch z) fun tk => ⟨.bl b, H, I.tok _, rfl, q⟩
end
end L2

/-! own layer, part 53: what a refusal's word is -/
namespace L2
open PySem PySem.Spec PyProof.Rows PySem.W
def refWords : List Str := ["many", "points", "point", "number", "curve", "stretch", "deep", "few", "text", "row"]
/-- the class at D is a ValueError, and of the classes cs it is the one at n alone -/
structure RefK (K : Frag) (D : Addr) (cs : List Addr) (n : Nat) : Prop where
  ty : XTy K D
  ve : kitOne K (.ref D) (.type "ValueError") = some true
  of : ∀ i c, cs[i]? = some c → kitOne K (.ref D) (.ref c) = some (i == n)
def spRefH (K : Frag) (cs : List Addr) : SpH := fun cls _ H Q => ∃ D n w, cls = .ref D ∧ RefK K D cs n ∧ refWords[n]? = some w ∧ ∀ H', Same H H' → Q (.str w) H'
/-- the items of a list of pairs of a text and a truth -/
def WB (K : Frag) (H : Hp) (x : V) (p : Str × Bool) : Prop := ∃ a, x = .ref a ∧ SqT K H a [.str p.1, .bl p.2]
theorem WB.same {K : Frag} {H H' : Hp} {x : V} {p : Str × Bool} (h : WB K H x p) (e : Same H H') : WB K H' x p := let ⟨a, q, r⟩ := h; ⟨a, q, r.same e⟩
theorem WBs.same {K : Frag} {H H' : Hp} {xs : List V} {ps : List (Str × Bool)} (h : Paired (WB K H) xs ps) (e : Same H H') : Paired (WB K H') xs ps := Paired.mapP h fun _ _ q => WB.same q e
theorem WBs.snoc {K : Frag} {H : Hp} {xs : List V} {ps : List (Str × Bool)} {x y : V} {p r : Str × Bool} (h : Paired (WB K H) xs ps) (h1 : WB K H x p) (h2 : WB K H y r) : Paired (WB K H) (xs ++ [x, y]) (ps ++ [p, r]) := by
  induction h with
  | nil => exact .cons h1 (.cons h2 .nil)
  | cons a b ih => exact .cons a ih
def picked (ps : List (Str × Bool)) : List V := (ps.filter (·.2)).map fun p => .str p.1
theorem picked_snoc (ps : List (Str × Bool)) (p : Str × Bool) : picked (ps ++ [p]) = if p.2 = true then picked ps ++ [.str p.1] else picked ps := by
  unfold picked
  rw [List.filter_append]
  by_cases h : p.2 = true
  · rw [if_pos h, List.map_append]
    simp [h]
  · rw [if_neg h]
    simp [h]
theorem lc_pick {K : Frag} {a : Addr} {xs : List V} {ps : List (Str × Bool)} {σ : St} {H : Hp} {Fin : List V → Hp → Prop} (hS : SqL K H a xs) (hP : Paired (WB K H) xs ps) (hz : xs.length ≤ sizeLine) (fin : Fin (picked ps) H) :
    ∃ (n' : Nat) (W : Nat → List V → Hp → Prop), W 0 [] H ∧ LcW (Itl K a) n' 2 [] σ (gTup K 2 (gCons (gName 0) (gCons (gName 1) gNil))) (tB (tVar 1)) (tVar 0) Fin W := by
  have hl := hP.length
  have le : ∀ i, i ≤ xs.length → (picked (ps.take i)).length ≤ i := fun i hi => by
    unfold picked
    rw [List.length_map]
    exact Nat.le_trans (List.length_filter_le _ _) (by rw [List.length_take]; exact Nat.min_le_left _ _)
  refine ⟨xs.length, fun i zs H' => H' = H ∧ zs = picked (ps.take i), ⟨rfl, rfl⟩, ⟨?_, ?_, ?_⟩⟩
  · rintro i zs H' hi ⟨rfl, rfl⟩
    exact ⟨⟨xs, xs[i], hS, by simp [hi]⟩, Nat.lt_of_le_of_lt (le i (Nat.le_of_lt hi)) (Nat.lt_of_lt_of_le hi hz)⟩
  · rintro i zs H' x H1 hi ⟨rfl, rfl⟩ ⟨rfl, y⟩
    have hx := y xs hS
    have hi' : i < ps.length := by rw [← hl]; exact hi
    obtain ⟨q, hq, c, rfl, hT⟩ := Paired.get hP hx
    have et : ps.take (i + 1) = ps.take i ++ [q] := by rw [List.take_add_one, hq]; rfl
    refine ⟨c, _, rfl, hT, rfl, .str q.1, _, rfl, .bl q.2, _, rfl, rfl, ⟨.bl q.2, rfl, q.2, rfl, ?_⟩⟩
    have e := picked_snoc (ps.take i) q
    rw [← et] at e
    by_cases h : q.2 = true
    · rw [if_pos h] at e
      show if q.2 = true then _ else _
      rw [if_pos h]
      exact ⟨.str q.1, rfl, rfl, e.symm⟩
    · rw [if_neg h] at e
      show if q.2 = true then _ else _
      rw [if_neg h]
      exact ⟨rfl, e.symm⟩
  · rintro zs H' ⟨rfl, rfl⟩
    refine ⟨⟨xs, hS, Nat.le_refl _⟩, Nat.le_trans (le _ (Nat.le_refl _)) hz, ?_⟩
    rw [hl, List.take_length]
    exact fin
/-- of ten classes just one: one word -/
theorem one_word {n : Nat} {w : Str} (h : refWords[n]? = some w) : picked (List.zip refWords ((List.range 10).map fun i => i == n)) = [.str w] := by
  have hn : n < 10 := by
    have := (List.getElem?_eq_some_iff.mp h).1
    exact this
  have key : ∀ n : Fin 10, ∀ w, refWords[n.val]? = some w → picked (List.zip refWords ((List.range 10).map fun i => i == n.val)) = [.str w] := by
    intro n w h
    match n, h with
    | 0, h => cases h; rfl
    | 1, h => cases h; rfl
    | 2, h => cases h; rfl
    | 3, h => cases h; rfl
    | 4, h => cases h; rfl
    | 5, h => cases h; rfl
    | 6, h => cases h; rfl
    | 7, h => cases h; rfl
    | 8, h => cases h; rfl
    | 9, h => cases h; rfl
  exact key ⟨n, hn⟩ w h
end L2

/-! own layer, part 54: a list as the value of `a, b, .. = xs` -/
namespace L2
open PySem PySem.Spec PyProof.Rows
section
variable {prog : Program} {w : World} {A : Around} {E : Value → Shared → Prop}
end
end L2

/-! own layer, part 59: curves without a common part; a curve over the common part with its slope has none with its own -/
namespace L2
theorem top_less {L M : List Rat} {n : Nat} {c : Rat} (hL : L.length ≤ n + 1) (hM : M.length ≤ n + 1) (h : L.getD n 0 = c * M.getD n 0) : (Cv.strip (addL L (M.map (· * (-c))))).length ≤ n := by
  have hle : (Cv.strip (addL L (M.map (· * (-c))))).length ≤ n + 1 := Nat.le_trans (Cv.strip_length _) (by rw [addL_length, List.length_map]; lia)
  refine Nat.le_of_not_lt fun hlt => ?_
  have e : (Cv.strip (addL L (M.map (· * (-c))))).length = n + 1 := by lia
  have hne : Cv.strip (addL L (M.map (· * (-c)))) ≠ [] := fun z => by rw [z] at e; simp at e
  have h1 := Cv.strip_last _ hne
  have h2 : (Cv.strip (addL L (M.map (· * (-c))))).getD n 0 = 0 := by
    rw [coef_one (m := addL L (M.map (· * (-c)))) (fun k => Cv.ev_strip _ _) n, getD_addL]
    have h3 : (M.map (· * (-c))).getD n 0 = M.getD n 0 * (-c) := by
      rw [List.getD_eq_getElem?_getD, List.getD_eq_getElem?_getD, List.getElem?_map]
      cases M[n]? with
      | none => show (0 : Rat) = 0 * _; grind
      | some v => rfl
    rw [h3, h]
    grind
  rw [e] at h1
  apply h1
  have hlt' : n < (Cv.strip (addL L (M.map (· * (-c))))).length := by lia
  rw [show n + 1 - 1 = n by lia, List.getElem?_eq_getElem hlt']
  rw [List.getD_eq_getElem?_getD, List.getElem?_eq_getElem hlt'] at h2
  exact congrArg some h2
/-- any curve divided by another one -/
theorem div_ex {B : List Rat} (gB : Good B) (nB : B ≠ []) : ∀ A : List Rat, ∃ Q R, Good R ∧ R.length < B.length ∧ ∀ x, Cv.ev A x = Cv.ev Q x * Cv.ev B x + Cv.ev R x
  | [] => ⟨[], [], .inl rfl, List.length_pos_iff.mpr nB, fun x => by show (0 : Rat) = 0 * _ + 0; grind⟩
  | q :: r => by
    obtain ⟨Q, R, gR, lR, e⟩ := div_ex gB nB r
    obtain ⟨v, hv, v0⟩ := gB.resolve_left nB
    have lB := List.length_pos_iff.mpr nB
    have gv : B.getD (B.length - 1) 0 = v := by rw [List.getD_eq_getElem?_getD, hv]; rfl
    refine ⟨((q :: R).getD (B.length - 1) 0 / v) :: Q, Cv.strip (addL (q :: R) (B.map (· * (-((q :: R).getD (B.length - 1) 0 / v))))), good_strip _, ?_, fun x => ?_⟩
    · have := top_less (L := q :: R) (M := B) (n := B.length - 1) (c := (q :: R).getD (B.length - 1) 0 / v) (by rw [List.length_cons]; lia) (by lia) (by
        rw [gv, Rat.div_mul_cancel v0])
      lia
    · rw [Cv.ev_strip, ev_addL, Cv.ev_scale]
      show q + x * Cv.ev r x = ((q :: R).getD (B.length - 1) 0 / v + x * Cv.ev Q x) * Cv.ev B x + ((q + x * Cv.ev R x) + Cv.ev B x * (-((q :: R).getD (B.length - 1) 0 / v)))
      rw [e]
      grind
theorem bezout : ∀ (n : Nat) (A B : List Rat), Good A → Good B → B.length ≤ n → ∃ g u v, Good g ∧ Into g A ∧ Into g B ∧ ∀ x, Cv.ev g x = Cv.ev u x * Cv.ev A x + Cv.ev v x * Cv.ev B x
  | 0, A, B, gA, gB, h => by
    obtain rfl : B = [] := List.eq_nil_of_length_eq_zero (by lia)
    exact ⟨A, [1], [], gA, Into.refl A, Into.nil A, fun x => by show _ = (1 + x * 0) * _ + 0 * _; grind⟩
  | n + 1, A, B, gA, gB, h => by
    by_cases nB : B = []
    · subst nB
      exact ⟨A, [1], [], gA, Into.refl A, Into.nil A, fun x => by show _ = (1 + x * 0) * _ + 0 * _; grind⟩
    · obtain ⟨Q, R, gR, lR, e⟩ := div_ex gB nB A
      obtain ⟨g, u, v, gg, i1, i2, eg⟩ := bezout n B R gB gR (by lia)
      refine ⟨g, v, addL u ((mulL v Q).map (· * (-1))), gg, Into.of (a := Q) (b := [1]) i1 i2 fun x => ?_, i1, fun x => ?_⟩
      · rw [e]; show _ = _ + (1 + x * 0) * _; grind
      · rw [eg, ev_addL, Cv.ev_scale, ev_mulL]
        have := e x
        grind
/-- without a common part: some sum of multiples is 1 -/
def Cop (A B : List Rat) : Prop := ∃ u v, ∀ x, Cv.ev u x * Cv.ev A x + Cv.ev v x * Cv.ev B x = 1
theorem Cop.turn {A B : List Rat} (h : Cop A B) : Cop B A := let ⟨u, v, e⟩ := h; ⟨v, u, fun x => by have := e x; grind⟩
theorem Cop.left {A B d : List Rat} (h : Cop A B) (i : Into d A) : Cop d B := by
  obtain ⟨u, v, e⟩ := h
  obtain ⟨q, hq⟩ := i
  exact ⟨mulL u q, v, fun x => by rw [ev_mulL]; have := e x; rw [hq] at this; grind⟩
theorem Cop.like {A B A' B' : List Rat} (h : Cop A B) (e1 : ∀ x, Cv.ev A' x = Cv.ev A x) (e2 : ∀ x, Cv.ev B' x = Cv.ev B x) : Cop A' B' := let ⟨u, v, e⟩ := h; ⟨u, v, fun x => by rw [e1, e2]; exact e x⟩
/-- with both of a product -/
theorem Cop.mul {A B C M : List Rat} (h1 : Cop A C) (h2 : Cop B C) (e : ∀ x, Cv.ev M x = Cv.ev A x * Cv.ev B x) : Cop M C := by
  obtain ⟨u, v, e1⟩ := h1
  obtain ⟨s, t, e2⟩ := h2
  refine ⟨mulL u s, addL (mulL (mulL u A) t) (addL (mulL v (mulL s B)) (mulL (mulL v C) t)), fun x => ?_⟩
  rw [e, ev_addL, ev_addL, ev_mulL, ev_mulL, ev_mulL, ev_mulL, ev_mulL, ev_mulL, ev_mulL]
  have h1 := e1 x
  have h2 := e2 x
  have : (Cv.ev u x * Cv.ev A x + Cv.ev v x * Cv.ev C x) * (Cv.ev s x * Cv.ev B x + Cv.ev t x * Cv.ev C x) = 1 := by rw [h1, h2, Rat.mul_one]
  grind
theorem cop_of {A B : List Rat} (gA : Good A) (gB : Good B) (h : ∀ d, Into d A → Into d B → Into d [1]) : Cop A B := by
  obtain ⟨g, u, v, _, i1, i2, e⟩ := bezout B.length A B gA gB (Nat.le_refl _)
  obtain ⟨q, hq⟩ := h g i1 i2
  refine ⟨mulL q u, mulL q v, fun x => ?_⟩
  have h1 := hq x
  rw [e] at h1
  rw [ev_mulL, ev_mulL]
  have h2 : Cv.ev [1] x = 1 := by show (1 : Rat) + x * 0 = 1; grind
  grind
theorem Cop.into {A B : List Rat} (h : Cop A B) {d : List Rat} (h1 : Into d A) (h2 : Into d B) : Into d [1] := by
  obtain ⟨u, v, e⟩ := h
  exact Into.of (a := u) (b := v) h1 h2 fun x => by rw [e]; show (1 : Rat) + x * 0 = 1; grind
theorem Cop.part {A B : List Rat} (h : Cop A B) : Part A B [1] :=
  ⟨.inr ⟨1, rfl, by decide⟩, rfl, fun d => ⟨fun ⟨h1, h2⟩ => h.into h1 h2, fun h1 => ⟨h1.trans ⟨A, fun x => by show _ = _ * ((1 : Rat) + x * 0); grind⟩, h1.trans ⟨B, fun x => by show _ = _ * ((1 : Rat) + x * 0); grind⟩⟩⟩⟩
theorem euclid {d w h p : List Rat} (c : Cop d w) (i : Into d p) (e : ∀ x, Cv.ev p x = Cv.ev h x * Cv.ev w x) : Into d h := by
  obtain ⟨u, v, eu⟩ := c
  refine Into.of (p := d) (q := p) (a := mulL h u) (b := v) (Into.refl d) i fun x => ?_
  rw [ev_mulL, e]
  have := eu x
  have h2 : Cv.ev h x = Cv.ev h x * (Cv.ev u x * Cv.ev d x + Cv.ev v x * Cv.ev w x) := by rw [this]; grind
  rw [h2]
  grind
theorem cancelP {D A B : List Rat} (hD : Cv.strip D ≠ []) (h : ∀ x, Cv.ev D x * Cv.ev A x = Cv.ev D x * Cv.ev B x) (x : Rat) : Cv.ev A x = Cv.ev B x := by
  have key : Cv.strip (addL A (B.map (· * (-1)))) = [] := by
    by_cases hE : Cv.strip (addL A (B.map (· * (-1)))) = []
    · exact hE
    exfalso
    have gM := good_mul (good_strip D) (good_strip (addL A (B.map (· * (-1))))) hD hE
    have e := good_one gM (.inl rfl : Good []) fun x => by
      rw [ev_mulL, Cv.ev_strip, Cv.ev_strip, ev_addL, Cv.ev_scale]
      have := h x
      show _ = (0 : Rat)
      grind
    have l := mulL_length (Cv.strip (addL A (B.map (· * (-1))))) (List.length_pos_iff.mpr hE) (Cv.strip D) (List.length_pos_iff.mpr hD)
    rw [e] at l
    have := List.length_pos_iff.mpr hE
    have := List.length_pos_iff.mpr hD
    simp only [List.length_nil] at l
    lia
  have z : Cv.ev (Cv.strip (addL A (B.map (· * (-1))))) x = 0 := by rw [key]; rfl
  rw [Cv.ev_strip, ev_addL, Cv.ev_scale] at z
  grind
/-- so often -/
def pw (d : List Rat) : Nat → List Rat
  | 0 => [1]
  | n + 1 => mulL (pw d n) d
theorem ev_pw (d : List Rat) (n : Nat) (x : Rat) : Cv.ev (pw d (n + 1)) x = Cv.ev (pw d n) x * Cv.ev d x := ev_mulL x d (pw d n)
theorem slope_pw (d : List Rat) (x : Rat) : ∀ n : Nat, Cv.ev (dL (pw d n)) x * Cv.ev d x = (n : Rat) * Cv.ev (pw d n) x * Cv.ev (dL d) x
  | 0 => by
    have : Cv.ev (dL (pw d 0)) x = 0 := slope_const 1 x
    rw [this]
    show (0 : Rat) * _ = (0 : Rat) * _ * _
    grind
  | n + 1 => by
    have ih := slope_pw d x n
    rw [slope_mul (l := pw d (n + 1)) (a := pw d n) (b := d) (fun x => ev_pw d n x) x, ev_pw]
    have e : ((n + 1 : Nat) : Rat) = (n : Rat) + 1 := by rw [Rat.natCast_add]; rfl
    rw [e]
    grind
theorem pw_len {d : List Rat} (gd : Good d) (nd : d ≠ []) : ∀ n, Good (pw d n) ∧ (pw d n).length = n * (d.length - 1) + 1
  | 0 => ⟨.inr ⟨1, rfl, by decide⟩, by rw [Nat.zero_mul]; rfl⟩
  | n + 1 => by
    obtain ⟨g, l⟩ := pw_len gd nd n
    have np : pw d n ≠ [] := fun z => by rw [z] at l; simp at l
    have ld := List.length_pos_iff.mpr nd
    refine ⟨good_mul g gd np nd, ?_⟩
    show (mulL (pw d n) d).length = _
    rw [mulL_length d ld (pw d n) (by lia), l, Nat.add_mul]
    lia
/-- THE FACT: over its common part with its slope a curve has no common part with its own slope -/
theorem lone_free {f fd g r : List Rat} (gf : Good f) (nf : f ≠ []) (P : Part f fd g) (hfd : ∀ x, Cv.ev fd x = Cv.ev (dL f) x) (hf : ∀ x, Cv.ev f x = Cv.ev r x * Cv.ev g x) : Cop r (dL r) := by
  have gg := P.good
  have ng := P.ne
  obtain ⟨s, hs⟩ := P.into.2
  have sg : Cv.strip g ≠ [] := fun z => by
    have : g = [] := good_one gg (.inl rfl) fun x => by rw [← Cv.ev_strip, z]
    exact ng this
  have nr : Cv.strip r ≠ [] := fun z => nf (good_one gf (.inl rfl) fun x => by
    rw [hf, ← Cv.ev_strip x r, z]; show (0 : Rat) * _ = 0; grind)
  -- r and s have none
  have crs : Cop r s := by
    refine (cop_of (good_strip r) (good_strip s) fun e h1 h2 => ?_).like (fun x => (Cv.ev_strip x r).symm) (fun x => (Cv.ev_strip x s).symm)
    obtain ⟨a, ha⟩ := h1
    obtain ⟨b, hb⟩ := h2
    have i1 : Into (mulL e g) f := ⟨a, fun x => by rw [hf, ev_mulL, ← Cv.ev_strip x r, ha]; grind⟩
    have i2 : Into (mulL e g) fd := ⟨b, fun x => by rw [hs, ev_mulL, ← Cv.ev_strip x s, hb]; grind⟩
    obtain ⟨c, hc⟩ := (P.is _).mp ⟨i1, i2⟩
    refine ⟨c, fun x => ?_⟩
    have := cancelP (D := g) (A := [1]) (B := mulL c e) sg (fun x => by
      have := hc x
      rw [ev_mulL] at this
      rw [ev_mulL]
      show _ * ((1 : Rat) + x * 0) = _
      grind) x
    rw [ev_mulL] at this
    exact this
  refine (cop_of (good_strip r) (good_strip (dL r)) fun d0 h1 h2 => ?_).like (fun x => (Cv.ev_strip x r).symm) (fun x => (Cv.ev_strip x (dL r)).symm)
  obtain ⟨d, hd⟩ : ∃ d, d = Cv.strip d0 := ⟨_, rfl⟩
  have gd : Good d := by rw [hd]; exact good_strip _
  have ed : ∀ x, Cv.ev d x = Cv.ev d0 x := fun x => by rw [hd]; exact Cv.ev_strip x d0
  obtain ⟨r1, hr1⟩ := h1
  obtain ⟨t, ht⟩ := h2
  have er : ∀ x, Cv.ev r x = Cv.ev r1 x * Cv.ev d x := fun x => by rw [ed, ← hr1, Cv.ev_strip]
  have et : ∀ x, Cv.ev (dL r) x = Cv.ev t x * Cv.ev d x := fun x => by rw [ed, ← ht, Cv.ev_strip]
  have nd : d ≠ [] := fun z => nr (good_one (good_strip r) (.inl rfl) fun x => by
    rw [Cv.ev_strip, er, z]; show _ * (0 : Rat) = 0; grind)
  have cds : Cop d s := crs.left ⟨r1, er⟩
  by_cases hl : d.length = 1
  · obtain ⟨v, hv, v0⟩ := gd.resolve_left nd
    obtain ⟨c, hc⟩ : ∃ c, d = [c] := List.length_eq_one_iff.mp hl
    rw [hc] at hv
    have ev : c = v := Option.some.inj hv
    refine ⟨[v⁻¹], fun x => ?_⟩
    rw [← ed, hc, ev]
    show (1 : Rat) + x * 0 = (v⁻¹ + x * 0) * (v + x * 0)
    have := Rat.mul_inv_cancel _ v0
    grind
  exfalso
  have ld : 2 ≤ d.length := by have := List.length_pos_iff.mpr nd; lia
  have ednz : Cv.strip d ≠ [] := fun z => nd (good_one gd (.inl rfl) fun x => by rw [← Cv.ev_strip, z])
  -- the slope of r by its parts
  have em : ∀ x, Cv.ev (dL d) x * Cv.ev r1 x = Cv.ev d x * (Cv.ev t x - Cv.ev (dL r1) x) := fun x => by
    have := slope_mul (l := r) (a := r1) (b := d) er x
    rw [et] at this
    grind
  have all : ∀ n, Into (pw d n) g := fun n => by
    induction n with
    | zero => exact ⟨g, fun x => by show _ = _ * ((1 : Rat) + x * 0); grind⟩
    | succ n ih =>
      obtain ⟨h, hh⟩ := ih
      obtain ⟨gp, lp⟩ := pw_len gd nd n
      have npw : Cv.strip (pw d n) ≠ [] := fun z => by
        have : pw d n = [] := good_one gp (.inl rfl) fun x => by rw [← Cv.ev_strip, z]
        rw [this] at lp
        simp at lp
      have sg' := fun x => slope_mul (l := g) (a := h) (b := pw d n) hh x
      have sf := fun x => slope_mul (l := f) (a := r) (b := g) hf x
      -- h s = d (..)
      have key := cancelP (D := pw d n) (A := mulL h s) (B := mulL d (addL (addL ((mulL h (addL t ((dL r1).map (· * (-1))))).map (· * (n : Rat))) (mulL (dL h) r1)) (mulL h t))) npw fun x => by
        rw [ev_mulL, ev_mulL, ev_addL, ev_addL, Cv.ev_scale, ev_mulL, ev_addL, Cv.ev_scale, ev_mulL, ev_mulL]
        have e1 := sf x
        rw [← hfd, hs, sg' x, hh x] at e1
        have e2 := slope_pw d x n
        have e3 := em x
        have e4 := er x
        have e5 := et x
        generalize Cv.ev (pw d n) x = W at e1 e2 ⊢
        generalize Cv.ev (dL (pw d n)) x = W' at e1 e2
        generalize Cv.ev h x = h0 at e1 ⊢
        generalize Cv.ev (dL h) x = h1 at e1 ⊢
        generalize Cv.ev s x = s0 at e1 ⊢
        generalize Cv.ev (dL d) x = d1 at e2 e3
        generalize Cv.ev d x = dx at e2 e3 e4 e5 ⊢
        generalize Cv.ev r1 x = y1 at e3 e4 ⊢
        generalize Cv.ev (dL r1) x = y2 at e3 ⊢
        generalize Cv.ev t x = t0 at e3 e5 ⊢
        generalize Cv.ev r x = rx at e1 e4
        generalize Cv.ev (dL r) x = rd at e1 e5
        subst e4 e5
        have e6 : W' * dx * y1 = (n : Rat) * W * (dx * (t0 - y2)) := by rw [e2]; grind
        grind
      have i : Into d (mulL h s) := ⟨addL (addL ((mulL h (addL t ((dL r1).map (· * (-1))))).map (· * (n : Rat))) (mulL (dL h) r1)) (mulL h t), fun x => by rw [key x, ev_mulL]; grind⟩
      obtain ⟨k, hk⟩ := euclid cds i fun x => ev_mulL x s h
      exact ⟨k, fun x => by rw [hh, hk, ev_pw]; grind⟩
  obtain ⟨c, hc⟩ := all g.length
  obtain ⟨gp, lp⟩ := pw_len gd nd g.length
  have npw : pw d g.length ≠ [] := fun z => by rw [z] at lp; simp at lp
  have nc : Cv.strip c ≠ [] := fun z => ng (good_one gg (.inl rfl) fun x => by
    rw [hc, ← Cv.ev_strip x c, z]; show (0 : Rat) * _ = 0; grind)
  have eg : g = mulL (Cv.strip c) (pw d g.length) := good_one gg (good_mul (good_strip c) gp nc npw) fun x => by rw [hc, ev_mulL, Cv.ev_strip]
  have lg := congrArg List.length eg
  rw [mulL_length _ (List.length_pos_iff.mpr npw) _ (List.length_pos_iff.mpr nc), lp] at lg
  have := List.length_pos_iff.mpr nc
  have h3 : g.length * 1 ≤ g.length * (d.length - 1) := Nat.mul_le_mul_left _ (by lia)
  lia
end L2

/-! own layer, part 60: curves of which the lone part is known -/
namespace L2
theorem Cop.add {A B B' C : List Rat} (h : Cop A B) (e : ∀ x, Cv.ev B' x = Cv.ev B x + Cv.ev C x * Cv.ev A x) : Cop A B' := by
  obtain ⟨u, v, h⟩ := h
  refine ⟨addL u ((mulL v C).map (· * (-1))), v, fun x => ?_⟩
  rw [e, ev_addL, Cv.ev_scale, ev_mulL]
  have := h x
  grind
theorem Cop.scale {A B B' : List Rat} {c : Rat} (h : Cop A B) (hc : c ≠ 0) (e : ∀ x, Cv.ev B' x = Cv.ev B x * c) : Cop A B' := by
  obtain ⟨u, v, h⟩ := h
  refine ⟨u, v.map (· * c⁻¹), fun x => ?_⟩
  rw [e, Cv.ev_scale]
  have := h x
  have i := Rat.mul_inv_cancel _ hc
  grind
theorem Cop.mulR {A B C M : List Rat} (h1 : Cop A B) (h2 : Cop A C) (e : ∀ x, Cv.ev M x = Cv.ev B x * Cv.ev C x) : Cop A M := (Cop.mul h1.turn h2.turn e).turn
/-- f is l times g, g its common part with its slope -/
structure Kn (f l g : List Rat) : Prop where
  gg : Good g
  mono : g[g.length - 1]? = some 1
  fe : ∀ x, Cv.ev f x = Cv.ev l x * Cv.ev g x
  un : ∃ u, (∀ x, Cv.ev (dL f) x = Cv.ev g x * Cv.ev u x) ∧ Cop l u
theorem kn_const {c : Rat} (hc : c ≠ 0) : Kn [c] [c] [1] :=
  ⟨.inr ⟨1, rfl, by decide⟩, rfl, fun x => by show c + x * 0 = (c + x * 0) * ((1 : Rat) + x * 0); grind, [], fun x => by rw [slope_const]; show (0 : Rat) = _ * 0; grind, [c⁻¹], [], fun x => by
    show (c⁻¹ + x * 0) * (c + x * 0) + 0 * 0 = 1
    have := Rat.mul_inv_cancel _ hc
    grind⟩
theorem mono_mul {p q m : List Rat} (gp : Good p) (gq : Good q) (lp : p[p.length - 1]? = some 1) (lq : q[q.length - 1]? = some 1) (gm : Good m) (e : ∀ x, Cv.ev m x = Cv.ev p x * Cv.ev q x) : m[m.length - 1]? = some 1 := by
  have np : p ≠ [] := fun z => by rw [z] at lp; cases lp
  have nq : q ≠ [] := fun z => by rw [z] at lq; cases lq
  have em : m = mulL p q := good_one gm (good_mul gp gq np nq) fun x => by rw [e, ev_mulL]
  have lm := mulL_length q (List.length_pos_iff.mpr nq) p (List.length_pos_iff.mpr np)
  have hp := List.length_pos_iff.mpr np
  have hq := List.length_pos_iff.mpr nq
  have key : ∀ (p q : List Rat) (a b : Nat) (s t : Rat), p.length = a + 1 → q.length = b + 1 → p[a]? = some s → q[b]? = some t → (mulL p q).getD (a + b) 0 = s * t := by
    intro p
    induction p with
    | nil => intro q a b s t h; simp at h
    | cons c p ih =>
      intro q a b s t hp hq hs ht
      show (addL (q.map (· * c)) (0 :: mulL p q)).getD (a + b) 0 = _
      rw [getD_addL]
      cases a with
      | zero =>
        have hp0 : p = [] := List.eq_nil_of_length_eq_zero (by simpa using hp)
        subst hp0
        have hs : c = s := by simpa using hs
        subst hs
        rw [Nat.zero_add]
        have h1 : (q.map (· * c)).getD b 0 = t * c := by rw [List.getD_eq_getElem?_getD, List.getElem?_map, ht]; rfl
        have h2 : ((0 : Rat) :: mulL [] q).getD b 0 = 0 := by
          show ([0] : List Rat).getD b 0 = 0
          cases b <;> simp
        rw [h1, h2]
        grind
      | succ a =>
        have h1 : (q.map (· * c)).getD (a + 1 + b) 0 = 0 := by
          rw [List.getD_eq_getElem?_getD, List.getElem?_eq_none (by rw [List.length_map]; lia)]
          rfl
        have h2 : ((0 : Rat) :: mulL p q).getD (a + 1 + b) 0 = (mulL p q).getD (a + b) 0 := by
          rw [show a + 1 + b = (a + b) + 1 by lia]
          simp
        rw [h1, h2, ih q a b s t (by simpa using hp) hq (by simpa using hs) ht]
        grind
  have k := key p q (p.length - 1) (q.length - 1) 1 1 (by lia) (by lia) lp lq
  rw [em, lm]
  have hlt : p.length + q.length - 1 - 1 < (mulL p q).length := by rw [lm]; lia
  rw [List.getElem?_eq_getElem hlt]
  have hi : p.length + q.length - 1 - 1 = (p.length - 1) + (q.length - 1) := by lia
  rw [List.getD_eq_getElem?_getD, ← hi, List.getElem?_eq_getElem hlt] at k
  rw [show (mulL p q)[p.length + q.length - 1 - 1] = 1 * 1 from k, Rat.mul_one]
/-- a factor more, m + 1 times -/
theorem Kn.more {f l g p : List Rat} (h : Kn f l g) (gp : Good p) (mp : p[p.length - 1]? = some 1) (c1 : Cop p l) (c2 : Cop p (dL p)) (m : Nat) : Kn (mulL f (pw p (m + 1))) (mulL l p) (Cv.strip (mulL g (pw p m))) := by
  obtain ⟨u, hu, cu⟩ := h.un
  have np : p ≠ [] := fun z => by rw [z] at mp; cases mp
  have pwm : ∀ n, (pw p n)[(pw p n).length - 1]? = some 1 := fun n => by
    induction n with
    | zero => rfl
    | succ n ih => exact mono_mul (pw_len gp np n).1 gp ih mp (pw_len gp np (n + 1)).1 fun x => ev_pw p n x
  have hm0 : ((m + 1 : Nat) : Rat) ≠ 0 := fun z => by
    have : m + 1 = 0 := by exact_mod_cast z
    lia
  refine ⟨good_strip _, mono_mul h.gg (pw_len gp np m).1 h.mono (pwm m) (good_strip _) (fun x => by rw [Cv.ev_strip, ev_mulL]), fun x => ?_, addL (mulL u p) ((mulL l (dL p)).map (· * ((m + 1 : Nat) : Rat))), fun x => ?_, ?_⟩
  · rw [ev_mulL, ev_mulL, Cv.ev_strip, ev_mulL, ev_pw, h.fe]
    grind
  · rw [slope_mul (l := mulL f (pw p (m + 1))) (a := f) (b := pw p (m + 1)) (fun x => ev_mulL x _ f) x, Cv.ev_strip, ev_mulL, ev_addL, ev_mulL, Cv.ev_scale, ev_mulL, hu, h.fe]
    have e1 := slope_mul (l := pw p (m + 1)) (a := pw p m) (b := p) (fun x => ev_pw p m x) x
    have e2 := slope_pw p x m
    have e3 := ev_pw p m x
    have e4 : ((m + 1 : Nat) : Rat) = (m : Rat) + 1 := by rw [Rat.natCast_add]; rfl
    rw [e1, e3, e4]
    generalize Cv.ev (pw p m) x = W at e2 ⊢
    generalize Cv.ev (dL (pw p m)) x = W' at e2 ⊢
    generalize Cv.ev p x = p0 at e2 ⊢
    generalize Cv.ev (dL p) x = p1 at e2 ⊢
    generalize Cv.ev l x = l0
    generalize Cv.ev g x = g0
    generalize Cv.ev u x = u0
    have : l0 * g0 * (W * p1 + W' * p0) = l0 * g0 * (W * p1 + (m : Rat) * W * p1) := by rw [e2]
    rw [this]
    grind
  · refine Cop.mul (A := l) (B := p) ?_ ?_ (fun x => ev_mulL x p l)
    · exact (Cop.mulR (M := mulL u p) cu c1.turn fun x => ev_mulL x p u).add (C := (dL p).map (· * ((m + 1 : Nat) : Rat))) fun x => by
        rw [ev_addL, Cv.ev_scale, Cv.ev_scale, ev_mulL, ev_mulL]
        grind
    · exact ((Cop.mulR (M := mulL l (dL p)) c1 c2 fun x => ev_mulL x _ l).scale (B' := (mulL l (dL p)).map (· * ((m + 1 : Nat) : Rat))) hm0 fun x => Cv.ev_scale _ x _).add (C := u) fun x => by
        rw [ev_addL, ev_mulL]
        grind
theorem Kn.like {f l g f' l' : List Rat} (h : Kn f l g) (e1 : ∀ x, Cv.ev f' x = Cv.ev f x) (e2 : ∀ x, Cv.ev l' x = Cv.ev l x) : Kn f' l' g :=
  ⟨h.gg, h.mono, fun x => by rw [e1, e2]; exact h.fe x, let ⟨u, hu, cu⟩ := h.un; ⟨u, fun x => by rw [slope_one e1]; exact hu x, cu.like e2 fun _ => rfl⟩⟩
theorem Kn.part {f fd l g : List Rat} (h : Kn f l g) (e : ∀ x, Cv.ev fd x = Cv.ev (dL f) x) : Part f fd g := by
  obtain ⟨u, hu, s, t, c⟩ := h.un
  refine ⟨h.gg, h.mono, fun d => ⟨fun ⟨h1, h2⟩ => ?_, fun h1 => ⟨h1.trans ⟨l, h.fe⟩, h1.trans ⟨u, fun x => by rw [e, hu]; grind⟩⟩⟩⟩
  refine Into.of (a := s) (b := t) h1 h2 fun x => ?_
  rw [e, hu, h.fe]
  have := c x
  have z : Cv.ev g x = (Cv.ev s x * Cv.ev l x + Cv.ev t x * Cv.ev u x) * Cv.ev g x := by rw [this]; grind
  rw [z]
  grind
/-- what lone_part finds of it -/
theorem Kn.lone {f fd l g g' r : List Rat} (h : Kn f l g) (e : ∀ x, Cv.ev fd x = Cv.ev (dL f) x) (P : Part f fd g') (hr : ∀ x, Cv.ev f x = Cv.ev r x * Cv.ev g' x) (gl : Good l) (gr : Good r) : r = l := by
  have eg : g' = g := P.one (h.part e) (Com.refl _ _)
  subst eg
  have ng := P.ne
  have sg : Cv.strip g' ≠ [] := fun z => ng (good_one P.good (.inl rfl) fun x => by rw [← Cv.ev_strip, z])
  exact good_one gr gl fun x => cancelP sg (fun x => by have h1 := hr x; have h2 := h.fe x; grind) x
/-! the factors -/
theorem cop_line {o : Rat} {B : List Rat} (h : Cv.ev B o ≠ 0) : Cop [-o, 1] B := by
  refine (cop_of (.inr ⟨1, rfl, by decide⟩) (good_strip B) fun d h1 h2 => ?_).like (fun _ => rfl) fun x => (Cv.ev_strip x B).symm
  refine Into.cancel (p := o) (A := [1]) h1 (fun x => by show -o + x * ((1 : Rat) + x * 0) = (x - o) * ((1 : Rat) + x * 0); grind) fun z => h ?_
  obtain ⟨q, hq⟩ := h2
  rw [← Cv.ev_strip, hq, z, Rat.mul_zero]
theorem line_self (o : Rat) : Cop [-o, 1] (dL [-o, 1]) := cop_line (by
  rw [ev_dL, ev_dL]
  show (1 : Rat) + o * 0 + o * (0 + o * 0) ≠ 0
  rw [show (1 : Rat) + o * 0 + o * (0 + o * 0) = 1 by grind]
  decide)
/-- a bow c + b x + x x without noughts -/
theorem bow_self {b c : Rat} (h : b * b - 4 * c ≠ 0) : Cop [c, b, 1] (dL [c, b, 1]) := by
  have hd := Rat.mul_inv_cancel _ h
  refine ⟨[-4 * (b * b - 4 * c)⁻¹], [b * (b * b - 4 * c)⁻¹, 2 * (b * b - 4 * c)⁻¹], fun x => ?_⟩
  have e : Cv.ev (dL [c, b, 1]) x = b + 2 * x := by
    rw [ev_dL, ev_dL, ev_dL]
    show b + x * ((1 : Rat) + x * 0) + x * ((1 : Rat) + x * 0 + x * (0 + x * 0)) = _
    grind
  rw [e]
  show (-4 * (b * b - 4 * c)⁻¹ + x * 0) * (c + x * (b + x * ((1 : Rat) + x * 0))) + (b * (b * b - 4 * c)⁻¹ + x * (2 * (b * b - 4 * c)⁻¹ + x * 0)) * (b + 2 * x) = 1
  grind
end L2

namespace L2
open PySem PySem.Spec PyProof.Rows
/-! ### long lists of constants: the judgement is kept closed while they are put together -/
section
variable {X : Cx} {e : Expr} {es : List Expr} {te : TE} {t : TA} {pos : Pos}
@[irreducible] def PEk (X : Cx) (e : Expr) (te : TE) : Prop := PE X e te
@[irreducible] def PAk (X : Cx) (es : List Expr) (t : TA) : Prop := PA X es t
theorem pek (h : PE X e te) : PEk X e te := by unfold PEk; exact h
end
end L2

/-! own layer, part 74: a loop over a dict whose keys are tuples (the dict is frozen from then on) -/
namespace L2
open PySem PySem.Spec PyProof.Rows
section
variable {prog : Program} {w : World} {A : Around} {E : Value → Shared → Prop} {s : Shared} {it d : Addr} {i ep : Nat} {od : Obj} {es : Array DictEntry}
/-- an iterator over a dict's keys, whatever they are -/
theorem iter_keys {Q : Value → Shared → Prop} (hd : (d == sysModules) = false) (ho : s.heap.get? d = some od) (hx : od.ExactDict) (hdat : od.data = .dict es ep) (hT : s.TypeIs (.ref d) "dict")
    (hQ : Q (.ref s.heap.objs.size) { s with heap := s.heap.push { cls := .type "dict_keyiterator", data := .fields #[.ref d, .int 0 0, .int es.size 0, .int ep 0] } }) : wpAny (model prog w) A (pyIter (.ref d)) Q E s := by
  refine wpAny_pyIter_slot hT F.slot_dict_iter (wpAny_call_entry F.slot_dict_iter hT F.entry_dict_iter ?_ (F.args_dict_iter_1 _))
  refine wpAny_bind (?_ : wpAny _ _ (Builtin.Dict.dictSlotNone _ _) _ _ s)
  refine wpAny_bind (wpAny_notOrdered_dict hT (wpAny_pure (wpAny_bind (wpAny_pure ?_))))
  refine wpAny_bind (?_ : wpAny _ _ (Builtin.Dict.showsAll d) _ _ s)
  unfold Builtin.Dict.showsAll
  rw [hd]
  refine wpAny_pure ?_
  refine wpAny_bind (wpAny_dictEntries ho hdat (wpAny_bind (wpAny_dictEpoch ho hdat ?_)))
  exact wpAny_bind (wpAny_newObj_type (wpAny_pure ⟨_, rfl, "dict_keyiterator", _, ⟨_, Heap.get?_push_size _ rfl, rfl⟩, F.slot_dict_keyiterator_next.lookup, by simpa [rawInt] using hQ⟩))
/-- its next key, or its end -/
theorem next_key {Q : Option Value → Shared → Prop} (hh : A.handled = none) (hit : s.heap.IsKeyIter it d i es.size ep) (hod : s.heap.get? d = some od) (hdd : od.data = .dict es ep)
    (hs : ∀ (hlt : i < es.size) h', h'.IsKeyIter it d (i + 1) es.size ep → Heap.SameBut it s.heap h' → Q (some es[i].key) { s with heap := h' })
    (he : es.size ≤ i → ∀ h', Heap.ExtBut it s.heap h' → Q none { s with heap := h' }) : wpAny (model prog w) A (pyNext (.ref it)) Q E s := by
  have hT := hit.typeIs
  obtain ⟨o, ho, hc, hd⟩ := id hit
  have named : ∀ {R : String → Shared → Prop} {E' : Value → Shared → Prop}, R "dict_keyiterator" s → wpAny (model prog w) A.in1 (typeNameOfWhole (.ref it)) R E' s := fun h => wpAny_typeNameOfWhole_keyiter hT h
  unfold pyNext
  refine wpAny_bind (wpAny_attempt (wpAny_callSpecial?_slot (name := "__next__") hT F.slot_dict_keyiterator_next (wpAny_call_entry F.slot_dict_keyiterator_next hT F.entry_dict_keyiterator_next ?_ (F.args_dict_keyiterator_next_1 _))))
  refine wpAny_bind (wpAny_pure (wpAny_bind (wpAny_bind ?_)))
  refine wpAny_bind (named (wpAny_pure (wpAny_bind (wpAny_fieldsOf ho hd ?_))))
  have hown : Builtin.Dict_items.ownsTuple "dict_keyiterator" = false := by decide
  simp only [hown, Bool.false_eq_true, if_false]
  refine wpAny_ite_split (fun z => nomatch (show false = true from z)) fun _ => ?_
  refine wpAny_bind (wpAny_pure (wpAny_bind (wpAny_dictEntries hod hdd ?_)))
  rw [if_neg (by simp)]
  refine wpAny_bind (wpAny_pure (wpAny_bind (wpAny_dictEpoch hod hdd ?_)))
  rw [if_neg (by simp)]
  refine wpAny_pure ?_
  simp only [show ¬ ((i : Int) < 0) from by lia, if_false, Int.toNat_natCast]
  rcases Nat.lt_or_ge i es.size with hlt | hge
  · rw [Array.getElem?_eq_getElem hlt]
    refine wpAny_bind (wpAny_bind (named (wpAny_pure ?_)))
    refine wpAny_bind (wpAny_isOneOf_keyiter hT ?_)
    change wpAny _ _ (setField (.ref it) 1 (rawInt ((i : Int) + 1)) >>= _) _ _ s
    refine wpAny_bind (wpAny_setField ho hd (by simp) ?_)
    have st : (s.heap.update it (Obj.mapFields (·.setIfInBounds 1 (rawInt ((i : Int) + 1))))).IsKeyIter it d (i + 1) es.size ep := by
      refine ⟨_, Heap.get?_update_self _ ho (Obj.isFreed_of_fields (Obj.data_mapFields hd _)), (Obj.cls_mapFields ..).trans hc, ?_⟩
      rw [Obj.data_mapFields hd]
      simp [rawInt]
    have sb : Heap.SameBut it s.heap (s.heap.update it (Obj.mapFields (·.setIfInBounds 1 (rawInt ((i : Int) + 1))))) := Heap.SameBut.update ..
    have q := hs hlt _ st sb
    generalize s.heap.update it (Obj.mapFields (·.setIfInBounds 1 (rawInt ((i : Int) + 1)))) = h' at st q ⊢
    refine wpAny_bind (wpAny_holding (wpAny_bind (wpAny_isOneOf_keyiter (s := { s with heap := h' }) st.typeIs ?_)))
    change wpAny _ _ (pure es[i].key) _ _ _
    exact wpAny_pure (wpAny_pure ⟨_, rfl, wpAny_pure q⟩)
  · rw [Array.getElem?_eq_none hge]
    refine wpAny_bind (wpAny_bind (named (wpAny_pure ?_)))
    change wpAny _ _ (setField (.ref it) 0 .none >>= _) _ _ s
    refine wpAny_bind (wpAny_setField ho hd (by simp) ?_)
    have q := fun h' => he hge h'
    have sb : Heap.ExtBut it s.heap (s.heap.update it (Obj.mapFields (·.setIfInBounds 0 Value.none))) := (Heap.SameBut.update ..).extBut
    generalize s.heap.update it (Obj.mapFields (·.setIfInBounds 0 Value.none)) = h1 at sb ⊢
    refine wpAny_bind ?_
    simp only [newExc, newTuple]
    refine wpAny_bind (wpAny_newObj_type (wpAny_bind (m := firstArgMember _ _) (wpAny_of_eq (a := Value.none) (by first | rfl | (simp only [firstArgMember]; rfl)) (wpAny_newObj_type ?_ (by size_fits)))) (by size_fits))
    simp only [raiseNew]
    refine wpAny_bind (wpAny_handled ?_)
    rw [show A.in1.handled = none from hh]
    refine wpAny_bind (wpAny_pure (wpAny_throw ?_))
    refine wpAny_bind (wpAny_isInstance (T := "StopIteration") (b := true) ⟨_, Heap.get?_push_size _ rfl, rfl⟩ isSubtype_stop ?_)
    exact wpAny_pure (q _ ((sb.push _).push _))
end
/-- the keys of the dict at d, one by one -/
def Itk (d : Addr) (o : Obj) (kvs : List (List Key × V)) : It :=
  ⟨fun i H => H d = some (.frz o (.dT kvs)) ∧ i < kvs.length, fun i H x H' => H' = H ∧ ∃ b p, x = .ref b ∧ kvs[i]? = some p ∧ H b = some (.tup (p.1.map kV)), fun i H => H d = some (.frz o (.dT kvs)) ∧ kvs.length ≤ i⟩
section
variable {X : Cx} {pins : List (Addr × Obj)} {σ : List (Option V)} {H : Hp} {s : Shared}
theorem KT.get {H : Hp} {kvs : List (List Key × V)} {xs : List (List Key × Addr × Value)} (r : KT H kvs xs) : ∀ {i : Nat} {p : List Key × V}, kvs[i]? = some p → ∃ x, xs[i]? = some x ∧ H x.2.1 = some (.tup (p.1.map kV)) := by
  induction r with
  | nil => intro i p e; cases e
  | @cons p q ps qs hq t ih =>
    intro i p' e
    cases i with
    | zero => cases e; exact ⟨q, rfl, hq.2.1⟩
    | succ j => exact ih e
theorem keys_at {i : Nat} {d : Addr} {o : Obj} {kvs : List (List Key × V)} {es : Array DictEntry} {ep : Nat} (I : Inv X pins σ H s) (hd : H d = some (.frz o (.dT kvs))) (ho : o.data = .dict es ep) : s.heap.get? d = some o ∧ es.size = kvs.length ∧ ∀ p, kvs[i]? = some p → ∃ e b, es[i]? = some e ∧ e.key = .ref b ∧ H b = some (.tup (p.1.map kV)) := by
  obtain ⟨h0, z, y, xs, r, o', es', ep', h1, h2, h3, h4, h5⟩ := (show ObjOk X.prog X.w H s.heap d (.frz o (.dT kvs)) from I.hok d _ hd)
  rw [h0] at h1
  cases h1
  rw [ho] at h3
  cases h3
  have hl := Paired.length r
  refine ⟨h0, by rw [← Array.length_toList, h4, List.length_map, hl], fun p hp => ?_⟩
  obtain ⟨x, hx, hb⟩ := KT.get r hp
  exact ⟨entryOfKey (tupleKind (mixKind X.prog X.w)) x, x.2.1, by rw [← Array.getElem?_toList, h4, List.getElem?_map, hx]; rfl, rfl, hb⟩
end
theorem turn_keys {P : Program} {w : World} {K : PySem.W.Frag} {tg : Expr} {d it : Addr} {o : Obj} {es : Array DictEntry} {ep : Nat} (kvs : List (List Key × V)) (ho : o.data = .dict es ep) : Turn P w K tg (Itk d o kvs) [it] it (fun i h => h.IsKeyIter it d i es.size ep) where
  mem := by simp
  obj := fun i h st b hb => by
    have e : b = it := by simpa using hb
    subst e
    obtain ⟨o, e, c, d⟩ := st
    exact ⟨o, e, fun v z => by rw [d] at z; cases z⟩
  keep := fun i h h' st k => let ⟨o, e, r⟩ := st; ⟨o, k it (by simp) o e, r⟩
  item := by
    intro X hP hw hK hc i pins s σ H E I hf st hg
    subst hP hw hK
    obtain ⟨hd, hi⟩ := hg
    obtain ⟨f0, f1, f2, f3, f4, f5⟩ := hf it (by simp)
    obtain ⟨h0, hsz, hk⟩ := keys_at (i := i) I hd ho
    refine next_key (I.ok.hd hc) st h0 ho (fun hlt h' st' sb => ?_) fun hge => absurd hi (by lia)
    have I1 : Inv X pins σ H { s with heap := h' } := I.turned (t' := s.toks) (fun b o hb e => (sb.2 b hb).trans e) f0 f1 f3 f4 f5
    obtain ⟨o', e, c, dd⟩ := id st'
    obtain ⟨en, b, he, hkey, hb⟩ := hk _ (List.getElem?_eq_getElem hi)
    rw [Array.getElem?_eq_getElem hlt] at he
    cases he
    exact ⟨_, rfl, go_of (s := { s with heap := h' }) e c dd (by decide) ⟨.ref b, H, I1, hkey, ⟨rfl, b, _, rfl, List.getElem?_eq_getElem hi, hb⟩, st', fun b hb => (hf b hb).1⟩⟩
  done := by
    intro X hP hw hK hc i pins s σ H E I hf st hg
    subst hP hw hK
    obtain ⟨hd, hi⟩ := hg
    obtain ⟨f0, f1, f2, f3, f4, f5⟩ := hf it (by simp)
    obtain ⟨h0, hsz, _⟩ := keys_at (i := i) I hd ho
    exact next_key (I.ok.hd hc) st h0 ho (fun hlt => absurd hlt (by lia)) fun _ h' eb => ⟨rfl, I.turned (t' := s.toks) (fun b o hb e => eb b o hb e) f0 f1 f3 f4 f5⟩
  self := fun _ _ _ _ _ st h => wpAny_pyIter_keyiter st h
section
variable {X : Cx} {pins : List (Addr × Obj)} {σ : List (Option V)} {H : Hp} {s : Shared}
/-- a dict that is known to the object from now on -/
theorem Inv.freeze {d : Addr} {o : Obj} {kvs : List (List Key × V)} (I : Inv X pins σ H s) (hd : H d = some (.dT kvs)) (ho : s.heap.get? d = some o) : Inv X pins σ (upd H d (.frz o (.dT kvs))) s := by
  have same : ∀ {b : Addr} {u : HO}, H b = some u → u ≠ .dT kvs → upd H d (.frz o (.dT kvs)) b = some u := fun {b u} h hu => by rw [upd_ne (ne_of h hd hu)]; exact h
  have none' : ∀ {b : Addr}, H b = none → upd H d (.frz o (.dT kvs)) b = none := fun {b} h => by rw [upd_ne (ne_of_none hd h).symm]; exact h
  have stay : ∀ {a : Addr} {u : HO}, ObjOk X.prog X.w H s.heap a u → ObjOk X.prog X.w (upd H d (.frz o (.dT kvs))) s.heap a u := fun x => x.stay (fun _ _ _ q => q) (fun _ q => same q (fun z => by cases z)) fun _ _ q => same q (fun z => by cases z)
  have r := I.step (H' := upd H d (.frz o (.dT kvs))) (h' := s.heap) (g' := s.gens) (t' := s.toks) (d' := s.drawn) (ch := []) (fun _ z => nomatch z) (fun _ _ _ _ _ q _ => q) (fun b ob _ _ _ q _ => ⟨ob.slots, q⟩) (fun _ _ _ _ q => none' q) (fun _ ob _ q => ⟨ob, q⟩)
    (fun _ _ q => same q (fun z => by cases z)) (fun _ _ _ q => same q (fun z => by cases z)) (fun _ ps q => ⟨#[], by rw [Array.append_empty]; exact same q (fun z => by cases z)⟩) (fun _ q => q) (fun a u e => by
      by_cases ha : a = d
      · subst ha
        rw [upd_same] at e
        cases e
        exact ⟨ho, stay (I.hok _ _ hd)⟩
      · rw [upd_ne ha] at e
        exact stay (I.hok _ _ e)) I.bare
  exact r
inductive iDict (tl : TE) (σ : St) (H : Hp) (R : It → Hp → Prop) : Prop
  | mk (h : tl σ H fun v H1 => ∃ d kvs, v = .ref d ∧ H1 d = some (.dT kvs) ∧ ∀ o, R (Itk d o kvs) (upd H1 d (.frz o (.dT kvs)))) : iDict tl σ H R
theorem piD {tg l : Expr} {tl : TE} (hl : PE X l tl) : PI X tg l (iDict tl) := by
  intro pins s σ H R I h
  obtain ⟨h⟩ := h
  refine thn (hl pins s σ H _ I h) fun v s1 ⟨x, H1, I1, r1, q1⟩ => ?_
  obtain ⟨d, kvs, rfl, hd, q⟩ := q1
  cases (show v = Value.ref d from r1)
  obtain ⟨z, y, xs, r, o, es, ep, h1, h2, h3, h4, h5⟩ := (show ObjOk X.prog X.w H1 s1.heap d (.dT kvs) from I1.hok d _ hd)
  have I2 := I1.freeze hd h1
  refine iter_keys y h1 h2 h3 ⟨o, h1, h2.1⟩ ?_
  refine ⟨s1.heap.objs.size, [s1.heap.objs.size], _, _, _, rfl, I2.kept (t' := s1.toks) fun b o e => Heap.get?_push_of_some _ e, turn_keys kvs h3, ⟨_, Heap.get?_push_size _ rfl, rfl, rfl⟩, fun b hb => ?_, q o⟩
  have e : b = s1.heap.objs.size := by simpa using hb
  subst e
  exact I2.fpOk (Nat.le_refl _) (I2.hok.fresh (Nat.le_refl _))
end
theorem for_keys {d : Addr} {o : Obj} {kvs : List (List Key × V)} {g : TG} {tb : TS} {D : Ends} {σ : St} {H : Hp} (Pv : Nat → St → Hp → Prop) (h0 : Pv 0 σ H) (hl : ∀ i σ H, i ≤ kvs.length → Pv i σ H → H d = some (.frz o (.dT kvs)))
    (hs : ∀ i b p σ H, kvs[i]? = some p → H b = some (.tup (p.1.map kV)) → Pv i σ H → g (.ref b) σ H fun σ2 H2 => tb { D with nx := Pv (i + 1), ct := Pv (i + 1), bk := D.nx } σ2 H2) (hd : ∀ σ H, Pv kvs.length σ H → D.nx σ H) :
    ∃ W : Nat → Nat → St → Hp → Prop, (∃ m, W 0 m σ H) ∧ ∀ i m σ H, W i m σ H →
      ((Itk d o kvs).stop i H ∧ D.nx σ H) ∨ ((Itk d o kvs).go i H ∧ ∃ N : St → Hp → Prop, (∀ σ' H', N σ' H' → ∃ m', m' < m ∧ W (i + 1) m' σ' H') ∧ ∀ x H', (Itk d o kvs).yld i H x H' → g x σ H' fun σ2 H2 => tb { D with nx := N, ct := N, bk := D.nx } σ2 H2) := by
  refine ⟨fun i m σ H => m = kvs.length - i ∧ i ≤ kvs.length ∧ Pv i σ H, ⟨_, rfl, Nat.zero_le _, h0⟩, ?_⟩
  rintro i m σ H ⟨rfl, hi, p⟩
  have q := hl i σ H hi p
  rcases Nat.lt_or_ge i kvs.length with hlt | hge
  · refine .inr ⟨⟨q, hlt⟩, Pv (i + 1), fun σ' H' p' => ⟨kvs.length - (i + 1), by lia, rfl, hlt, p'⟩, ?_⟩
    rintro x H' ⟨rfl, b, pp, rfl, e, hb⟩
    exact hs i b pp σ _ e hb p
  · obtain rfl : i = kvs.length := by lia
    exact .inl ⟨⟨q, Nat.le_refl _⟩, hd σ H p⟩
end L2

namespace Pf
open PySem L2
def top (i : Nat) : Stmt := PySem.Challenge.pw_onecurve_k39_lone_parts.main.body.getD i (.Pass ⟨0, 0, 0, 0⟩)
theorem exE1 {a1 : Type} {p : a1 → Prop} {G : Prop} (h : ∃ x1, p x1) (f : ∀ x1, p x1 → G) : G := Exists.elim h f
theorem exE2 {a1 a2 : Type} {p : a1 → a2 → Prop} {G : Prop} (h : ∃ x1 x2, p x1 x2) (f : ∀ x1 x2, p x1 x2 → G) : G := Exists.elim h fun x1 h => exE1 h (f x1)
theorem exE3 {a1 a2 a3 : Type} {p : a1 → a2 → a3 → Prop} {G : Prop} (h : ∃ x1 x2 x3, p x1 x2 x3) (f : ∀ x1 x2 x3, p x1 x2 x3 → G) : G := Exists.elim h fun x1 h => exE2 h (f x1)
theorem exE4 {a1 a2 a3 a4 : Type} {p : a1 → a2 → a3 → a4 → Prop} {G : Prop} (h : ∃ x1 x2 x3 x4, p x1 x2 x3 x4) (f : ∀ x1 x2 x3 x4, p x1 x2 x3 x4 → G) : G := Exists.elim h fun x1 h => exE3 h (f x1)
theorem exE5 {a1 a2 a3 a4 a5 : Type} {p : a1 → a2 → a3 → a4 → a5 → Prop} {G : Prop} (h : ∃ x1 x2 x3 x4 x5, p x1 x2 x3 x4 x5) (f : ∀ x1 x2 x3 x4 x5, p x1 x2 x3 x4 x5 → G) : G := Exists.elim h fun x1 h => exE4 h (f x1)
theorem exE6 {a1 a2 a3 a4 a5 a6 : Type} {p : a1 → a2 → a3 → a4 → a5 → a6 → Prop} {G : Prop} (h : ∃ x1 x2 x3 x4 x5 x6, p x1 x2 x3 x4 x5 x6) (f : ∀ x1 x2 x3 x4 x5 x6, p x1 x2 x3 x4 x5 x6 → G) : G := Exists.elim h fun x1 h => exE5 h (f x1)
theorem exE7 {a1 a2 a3 a4 a5 a6 a7 : Type} {p : a1 → a2 → a3 → a4 → a5 → a6 → a7 → Prop} {G : Prop} (h : ∃ x1 x2 x3 x4 x5 x6 x7, p x1 x2 x3 x4 x5 x6 x7) (f : ∀ x1 x2 x3 x4 x5 x6 x7, p x1 x2 x3 x4 x5 x6 x7 → G) : G := Exists.elim h fun x1 h => exE6 h (f x1)
theorem exE8 {a1 a2 a3 a4 a5 a6 a7 a8 : Type} {p : a1 → a2 → a3 → a4 → a5 → a6 → a7 → a8 → Prop} {G : Prop} (h : ∃ x1 x2 x3 x4 x5 x6 x7 x8, p x1 x2 x3 x4 x5 x6 x7 x8) (f : ∀ x1 x2 x3 x4 x5 x6 x7 x8, p x1 x2 x3 x4 x5 x6 x7 x8 → G) : G := Exists.elim h fun x1 h => exE7 h (f x1)
theorem exE9 {a1 a2 a3 a4 a5 a6 a7 a8 a9 : Type} {p : a1 → a2 → a3 → a4 → a5 → a6 → a7 → a8 → a9 → Prop} {G : Prop} (h : ∃ x1 x2 x3 x4 x5 x6 x7 x8 x9, p x1 x2 x3 x4 x5 x6 x7 x8 x9) (f : ∀ x1 x2 x3 x4 x5 x6 x7 x8 x9, p x1 x2 x3 x4 x5 x6 x7 x8 x9 → G) : G := Exists.elim h fun x1 h => exE8 h (f x1)
theorem exE10 {a1 a2 a3 a4 a5 a6 a7 a8 a9 a10 : Type} {p : a1 → a2 → a3 → a4 → a5 → a6 → a7 → a8 → a9 → a10 → Prop} {G : Prop} (h : ∃ x1 x2 x3 x4 x5 x6 x7 x8 x9 x10, p x1 x2 x3 x4 x5 x6 x7 x8 x9 x10) (f : ∀ x1 x2 x3 x4 x5 x6 x7 x8 x9 x10, p x1 x2 x3 x4 x5 x6 x7 x8 x9 x10 → G) : G := Exists.elim h fun x1 h => exE9 h (f x1)
theorem exE11 {a1 a2 a3 a4 a5 a6 a7 a8 a9 a10 a11 : Type} {p : a1 → a2 → a3 → a4 → a5 → a6 → a7 → a8 → a9 → a10 → a11 → Prop} {G : Prop} (h : ∃ x1 x2 x3 x4 x5 x6 x7 x8 x9 x10 x11, p x1 x2 x3 x4 x5 x6 x7 x8 x9 x10 x11) (f : ∀ x1 x2 x3 x4 x5 x6 x7 x8 x9 x10 x11, p x1 x2 x3 x4 x5 x6 x7 x8 x9 x10 x11 → G) : G := Exists.elim h fun x1 h => exE10 h (f x1)
theorem anE2 {A1 A2 G : Prop} (h : A1 ∧ A2) (f : A1 → A2 → G) : G := f h.1 h.2
theorem anE3 {A1 A2 A3 G : Prop} (h : A1 ∧ A2 ∧ A3) (f : A1 → A2 → A3 → G) : G := anE2 h.2 (f h.1)
theorem anE4 {A1 A2 A3 A4 G : Prop} (h : A1 ∧ A2 ∧ A3 ∧ A4) (f : A1 → A2 → A3 → A4 → G) : G := anE3 h.2 (f h.1)
theorem anE5 {A1 A2 A3 A4 A5 G : Prop} (h : A1 ∧ A2 ∧ A3 ∧ A4 ∧ A5) (f : A1 → A2 → A3 → A4 → A5 → G) : G := anE4 h.2 (f h.1)
theorem anE6 {A1 A2 A3 A4 A5 A6 G : Prop} (h : A1 ∧ A2 ∧ A3 ∧ A4 ∧ A5 ∧ A6) (f : A1 → A2 → A3 → A4 → A5 → A6 → G) : G := anE5 h.2 (f h.1)
theorem anE7 {A1 A2 A3 A4 A5 A6 A7 G : Prop} (h : A1 ∧ A2 ∧ A3 ∧ A4 ∧ A5 ∧ A6 ∧ A7) (f : A1 → A2 → A3 → A4 → A5 → A6 → A7 → G) : G := anE6 h.2 (f h.1)
theorem anE8 {A1 A2 A3 A4 A5 A6 A7 A8 G : Prop} (h : A1 ∧ A2 ∧ A3 ∧ A4 ∧ A5 ∧ A6 ∧ A7 ∧ A8) (f : A1 → A2 → A3 → A4 → A5 → A6 → A7 → A8 → G) : G := anE7 h.2 (f h.1)
theorem anE9 {A1 A2 A3 A4 A5 A6 A7 A8 A9 G : Prop} (h : A1 ∧ A2 ∧ A3 ∧ A4 ∧ A5 ∧ A6 ∧ A7 ∧ A8 ∧ A9) (f : A1 → A2 → A3 → A4 → A5 → A6 → A7 → A8 → A9 → G) : G := anE8 h.2 (f h.1)
theorem anE10 {A1 A2 A3 A4 A5 A6 A7 A8 A9 A10 G : Prop} (h : A1 ∧ A2 ∧ A3 ∧ A4 ∧ A5 ∧ A6 ∧ A7 ∧ A8 ∧ A9 ∧ A10) (f : A1 → A2 → A3 → A4 → A5 → A6 → A7 → A8 → A9 → A10 → G) : G := anE9 h.2 (f h.1)
/-- the top of a number over a common bottom -/
def topOf (B : Int) (q : Rat) : Int := q.num * B.fdiv q.den
theorem topOf_rat {B : Int} {q : Rat} (h : (q.den : Int) ∣ B) : ((topOf B q : Int) : Rat) = q * (B : Rat) := by
  obtain ⟨k, rfl⟩ := h
  have e : (((q.den : Int) * k).fdiv (q.den : Int)) = k := Int.mul_fdiv_cancel_left _ (Nm.den_ne q)
  unfold topOf
  rw [e, Rat.intCast_mul, Rat.intCast_mul, Nm.num_mul q]
  grind
theorem tops_ev {B : Int} {qs : List Rat} (h : ∀ q ∈ qs, (q.den : Int) ∣ B) (x : Rat) : Cv.ev ((qs.map (topOf B)).map fun t : Int => (t : Rat)) x = Cv.ev qs x * (B : Rat) := by
  rw [← Cv.ev_scale, List.map_map]
  congr 1
  exact List.map_congr_left fun q hq => topOf_rat (h q hq)
inductive spBot (K : PySem.W.Frag) (vs : List V) (H : Hp) (Q : VK) (E_3 : XK) : Prop
  | mk (b : Bool) (r : Addr) (xs : List V) (qs : List Rat) (n : Nat) (h1 : vs = [.ref r]) (h2 : Sq b K H r xs) (h3 : Nums K H xs qs) (h4 : (∀ q ∈ qs, Bd n (q.den : Int))) (h5 : n * (qs.length + 2) ≤ 60000000) (h6 : ∀ B : Int, 0 < B → (∀ q ∈ qs, (q.den : Int) ∣ B) → Bd (n * qs.length + 1) B → Q (.int B) H) : spBot K vs H Q E_3
inductive spTops (K : PySem.W.Frag) (vs : List V) (H : Hp) (Q : VK) (E_3 : XK) : Prop
  | mk (b : Bool) (r : Addr) (xs : List V) (qs : List Rat) (B : Int) (m n : Nat) (h1 : vs = [.ref r, .int B]) (h2 : Sq b K H r xs) (h3 : Nums K H xs qs) (h4 : Bd m B) (h5 : (∀ q ∈ qs, Bd n q.num)) (h6 : m + n ≤ 134217728) (h7 : qs.length ≤ 1000) (h8 : ∀ p, H p = none → Q (.ref p) (upd H p (.lst ((qs.map (topOf B)).map V.int)))) : spTops K vs H Q E_3
inductive spCurveOf (K : PySem.W.Frag) (vs : List V) (H : Hp) (Q : VK) (E_3 : XK) : Prop
  | mk (r : Addr) (xs : List V) (qs : List Rat) (h1 : vs = [.ref r]) (h2 : SqL K H r xs) (h3 : Nums K H xs qs) (h4 : qs.length ≤ 1000) (h5 : ∀ p H', Same H H' → Crv K H' p (Cv.strip qs) → Q (.ref p) H') : spCurveOf K vs H Q E_3
theorem lcm_step {b d : Int} (hb : 0 < b) (hd : 0 < d) : 0 < b * d.fdiv (Int.gcd b d : Int) ∧ b ∣ b * d.fdiv (Int.gcd b d : Int) ∧ d ∣ b * d.fdiv (Int.gcd b d : Int) := by
  have g0 : (0 : Int) < (Int.gcd b d : Int) := by have := Nm.gcd_pos (a := b) (b := d) (by lia); lia
  obtain ⟨k, hk⟩ : (Int.gcd b d : Int) ∣ d := Int.gcd_dvd_right ..
  obtain ⟨j, hj⟩ : (Int.gcd b d : Int) ∣ b := Int.gcd_dvd_left ..
  generalize (Int.gcd b d : Int) = g at *
  subst hk
  subst hj
  have e : (g * k).fdiv g = k := Int.mul_fdiv_cancel_left _ (by lia)
  rw [e]
  have hk0 : 0 < k := by
    rcases Int.lt_trichotomy k 0 with z | z | z
    · have : g * k < 0 := Int.mul_neg_of_pos_of_neg g0 z
      lia
    · rw [z, Int.mul_zero] at hd; lia
    · exact z
  exact ⟨Int.mul_pos hb hk0, ⟨k, rfl⟩, ⟨j, by grind⟩⟩

inductive spCurveOver (K : PySem.W.Frag) (vs : List V) (H : Hp) (Q : VK) (E_3 : XK) : Prop
  | mk (l : Addr) (ts : List Int) (b : Int) (h1 : vs = [.ref l, .int b]) (h2 : SqL K H l (ts.map V.int)) (h3 : b ≠ 0) (h4 : ts.length ≤ 1000) (h5 : ∀ p H', Same H H' → Crv K H' p (Cv.strip (ts.map fun t => Rat.divInt t b)) → Q (.ref p) H') : spCurveOver K vs H Q E_3
def slopeL (qs : List Rat) : List Rat := (List.range (qs.length - 1)).map fun j => qs.getD (j + 1) 0 * ((j + 1 : Nat) : Rat)
inductive spSlope (K : PySem.W.Frag) (vs : List V) (H : Hp) (Q : VK) (E_3 : XK) : Prop
  | mk (r : Addr) (qs : List Rat) (n : Nat) (h1 : vs = [.ref r]) (h2 : Crv K H r qs) (h3 : qs.length ≤ 1000) (h4 : (∀ q ∈ qs, RB n q)) (h5 : n ≤ 10000000) (h6 : ∀ p H', Same H H' → Crv K H' p (slopeL qs) → Q (.ref p) H') : spSlope K vs H Q E_3

/-- a drawn curve -/
inductive spCurve (K : PySem.W.Frag) (n : Nat) (vs : List V) (H : Hp) (Q : VK) (E_3 : XK) : Prop
  | mk (a : Addr) (most : Int) (h1 : vs = [.ref a, .int most]) (h2 : Pen H a) (h3 : 0 ≤ most) (h4 : most ≤ 100) (h5 : ∀ (qs : List Rat) (r : Addr) (H' : Hp), Mv a H H' → Pen H' a → Crv K H' r qs → Good qs → (qs.length : Int) ≤ most → (∀ q ∈ qs, RB n q) → Q (.ref r) H') : spCurve K n vs H Q E_3
theorem Mv.put' {a l : Addr} {H H' : Hp} {o : HO} (m : Mv a H H') (hl : H l = none) : Mv a H (upd H' l o) := fun b u n q => by rw [upd_ne (ne_of_none q hl)]; exact m b u n q

inductive spRaised (vs : List V) (H : Hp) (Q : VK) (E_3 : XK) : Prop
  | mk (b : Int) (n L : Nat) (h1 : vs = [.int b, .int n]) (h2 : n ≤ 1000) (h3 : Bd L b) (h4 : L * n + L ≤ 100000000) (h5 : Q (.int (b ^ n)) H) : spRaised vs H Q E_3
/-- what a division of tops leaves: how often, the rest -/
structure DivOk (fs gs os rs : List Int) (lead : Int) (B : Nat) : Prop where
  ol : os.length = fs.length + 1 - gs.length
  rl : rs.length = min fs.length (gs.length - 1)
  ev : ∀ x, Cv.evI fs x * ((lead ^ os.length : Int) : Rat) = Cv.evI os x * Cv.evI gs x + Cv.evI rs x
  ob : ∀ t ∈ os, Bd B t
  rb : ∀ t ∈ rs, Bd B t
  top : os ≠ [] → ∃ t, fs[fs.length - 1]? = some t ∧ os[os.length - 1]? = some (lead ^ (os.length - 1) * t)
inductive spDiv (K : PySem.W.Frag) (vs : List V) (H : Hp) (Q : VK) (E_3 : XK) : Prop
  | mk (f g : Addr) (fs gs : List Int) (lead : Int) (M L : Nat) (h1 : vs = [.ref f, .ref g]) (h2 : SqL K H f (fs.map V.int)) (h3 : SqL K H g (gs.map V.int)) (h4 : gs[gs.length - 1]? = some lead) (h5 : fs.length ≤ 1000) (h6 : gs.length ≤ 1000) (h7 : (∀ t ∈ fs, Bd M t)) (h8 : (∀ t ∈ gs, Bd L t)) (h9 : M + fs.length * (L + 1) + L ≤ 100000000) (h10 : L ≤ 100000000) (h11 : ∀ (p pa pb : Addr) (H' : Hp) (os rs : List Int), Same H H' → H' p = some (.tup [.ref pa, .ref pb]) → H' pa = some (.lst (os.map V.int)) → H' pb = some (.lst (rs.map V.int)) → DivOk fs gs os rs lead (M + os.length * (L + 1)) → Q (.ref p) H') : spDiv K vs H Q E_3
theorem strip_good {l : List Rat} (h : Good l) : Cv.strip l = l := by
  have e := Cv.take_strip l l.length (fun j q hj e => absurd (List.getElem?_eq_some_iff.mp e).1 (by lia)) (by
    rcases h with h | h
    · left; rw [h]; rfl
    · right; exact h)
  rw [List.take_length] at e
  exact e.symm
theorem top_ne {B : Int} {q : Rat} (hB : 0 < B) (h : (q.den : Int) ∣ B) (hq : q ≠ 0) : topOf B q ≠ 0 := fun z => by
  have e := topOf_rat h
  rw [z, Rat.intCast_zero] at e
  rcases Rat.mul_eq_zero.mp e.symm with y | y
  · exact hq y
  · exact Nm.cast_ne (show B ≠ 0 by lia) y
theorem tops_last {B : Int} {qs : List Rat} (h : Good qs) (hne : qs ≠ []) (hB : 0 < B) (hd : ∀ q ∈ qs, (q.den : Int) ∣ B) : ∃ t, (qs.map (topOf B))[(qs.map (topOf B)).length - 1]? = some t ∧ t ≠ 0 := by
  rcases h with h | ⟨q, e, hq⟩
  · exact absurd h hne
  · exact ⟨topOf B q, by rw [List.length_map, List.getElem?_map, e]; rfl, top_ne hB (hd q (List.mem_of_getElem? e)) hq⟩
theorem div_ne {t c : Int} (ht : t ≠ 0) (hc : c ≠ 0) : Rat.divInt t c ≠ 0 := fun z => by
  rw [Rat.divInt_eq_div, Rat.div_def] at z
  rcases Rat.mul_eq_zero.mp z with y | y
  · exact Nm.cast_ne ht y
  · have h1 := Rat.mul_inv_cancel _ (Nm.cast_ne hc)
    rw [y, Rat.mul_zero] at h1
    exact absurd h1 (by decide)
theorem ev_divs (ts : List Int) (c : Int) (hc : c ≠ 0) (x : Rat) : Cv.ev (ts.map fun t => Rat.divInt t c) x * (c : Rat) = Cv.evI ts x := by
  have e : (ts.map fun t => Rat.divInt t c) = (ts.map fun t : Int => (t : Rat)).map (· * (c : Rat)⁻¹) := by
    rw [List.map_map]
    refine List.map_congr_left fun t _ => ?_
    show Rat.divInt t c = (t : Rat) * (c : Rat)⁻¹
    rw [Rat.divInt_eq_div, Rat.div_def]
  rw [e, Cv.ev_scale, Rat.mul_assoc, Rat.inv_mul_cancel _ (Nm.cast_ne hc), Rat.mul_one]
  rfl
theorem getD_some {l : List Rat} {i : Nat} (h : i < l.length) : l[i]? = some (l.getD i 0) := by rw [List.getD_eq_getElem?_getD, List.getElem?_eq_getElem h]; rfl

theorem rb_nat11 {k : Nat} (hk : k ≤ 1000) : RB 11 ((k : Nat) : Rat) := ⟨by rw [Rat.num_natCast]; unfold Bd; lia, by rw [Rat.den_natCast]; unfold Bd; decide⟩
theorem slope_rb {cs : List Rat} {n : Nat} (hl : cs.length ≤ 1000) (hn : 1 ≤ n) (h : ∀ q ∈ cs, RB n q) : ∀ q ∈ slopeL cs, RB (n + 11) q := fun q hq => by
  unfold slopeL at hq
  obtain ⟨j, hj, rfl⟩ := List.mem_map.mp hq
  have hj' := List.mem_range.mp hj
  have g : RB n (cs.getD (j + 1) 0) := by
    rw [List.getD_eq_getElem?_getD]
    cases e : cs[j + 1]? with
    | none => exact RB.zero hn
    | some t => exact h t (List.mem_of_getElem? e)
  exact g.times (rb_nat11 (by lia))
theorem slope_length (cs : List Rat) : (slopeL cs).length = cs.length - 1 := by unfold slopeL; rw [List.length_map, List.length_range]
theorem rb_neg {n : Nat} {q : Rat} (h : RB n q) : RB n (-q) := ⟨by show Bd n (-q.num); exact h.1.neg, h.2⟩
def pb (n : Nat) : Nat → Nat
  | 0 => 1
  | k + 1 => 2 * pb n k + n + 1
theorem nT_int (k : Int) : nT ((k : Int) : Rat) = .tup [.int k, .int 1] := by
  unfold nT
  rw [Rat.num_intCast, Rat.den_intCast]
  rfl
def ml (i : Nat) (σ : St) (H : Hp) : Nat := match σ[i]? with
  | some (some (.ref r)) => (match H r with | some (.lst xs) => xs.length | _ => 0)
  | _ => 0

inductive spWLN (K : PySem.W.Frag) (vs : List V) (H : Hp) (Q : VK) (E_3 : XK) : Prop
  | mk (l : Addr) (ts : List Int) (h1 : vs = [.ref l]) (h2 : SqL K H l (ts.map V.int)) (h3 : ∀ (p : Addr) (H' : Hp) (w : Nat), w ≤ ts.length → (∀ j, w ≤ j → ts.getD j 0 = 0) → (1 ≤ w → ts.getD (w - 1) 0 ≠ 0) → Same H H' → H' p = some (.lst ((ts.take w).map V.int)) → Q (.ref p) H') : spWLN K vs H Q E_3
inductive spLRest (K : PySem.W.Frag) (vs : List V) (H : Hp) (Q : VK) (E_3 : XK) : Prop
  | mk (f g : Addr) (fs gs : List Int) (W X : Nat) (h1 : vs = [.ref f, .ref g]) (h2 : SqL K H f (fs.map V.int)) (h3 : H g = some (.lst (gs.map V.int))) (h4 : 1 ≤ fs.length) (h5 : gs.length ≤ fs.length) (h6 : fs.length ≤ 10) (h7 : Top0 fs) (h8 : Top0 gs) (h9 : (∀ t ∈ fs, Bd W t)) (h10 : (∀ t ∈ gs, Bd W t)) (h11 : 18 * (W + 5) + 1 ≤ X) (h12 : X ≤ 8000000) (h13 : ∀ (p : Addr) (H' : Hp) (hs : List Int), Same H H' → SqL K H' p (hs.map V.int) → 1 ≤ hs.length → hs.length ≤ fs.length → Top0 hs → Com (cst fs) (cst gs) (cst hs) [] → (∀ t ∈ hs, Bd X t) → Q (.ref p) H') : spLRest K vs H Q E_3
theorem good_slope {qs : List Rat} (h : Good qs) : Good (slopeL qs) := by
  rcases h with h | ⟨q, e, hq⟩
  · left; rw [h]; rfl
  · have hl := (List.getElem?_eq_some_iff.mp e).1
    by_cases h1 : qs.length = 1
    · left; unfold slopeL; rw [h1]; rfl
    · right
      refine ⟨q * ((qs.length - 1 : Nat) : Rat), ?_, fun z => ?_⟩
      · unfold slopeL
        rw [List.length_map, List.length_range, List.getElem?_map, List.getElem?_range (by lia)]
        show some (qs.getD (qs.length - 1 - 1 + 1) 0 * ((qs.length - 1 - 1 + 1 : Nat) : Rat)) = _
        rw [show qs.length - 1 - 1 + 1 = qs.length - 1 by lia, List.getD_eq_getElem?_getD, e]; rfl
      · rcases Rat.mul_eq_zero.mp z with y | y
        · exact hq y
        · have y0 : ((qs.length - 1 : Nat) : Rat) = ((0 : Nat) : Rat) := y
          have := Rat.natCast_inj.mp y0
          lia
/-- 1 over a number of steps -/
def inv1 (B : Int) : Rat := if h : 0 < B then ⟨1, B.toNat, by lia, by simp⟩ else 0
theorem inv1_nT {B : Int} (h : 0 < B) : nT (inv1 B) = .tup [.int 1, .int B] := by
  have e : inv1 B = ⟨1, B.toNat, by lia, by simp⟩ := by unfold inv1; rw [dif_pos h]
  rw [e]
  show HO.tup [.int 1, .int ((B.toNat : Nat) : Int)] = _
  rw [Int.toNat_of_nonneg (by lia)]
theorem inv1_mul {B : Int} (h : 0 < B) : inv1 B * ((B : Int) : Rat) = 1 := by
  have e : inv1 B = ⟨1, B.toNat, by lia, by simp⟩ := by unfold inv1; rw [dif_pos h]
  have h1 := Nm.num_mul (inv1 B)
  have h2 : (inv1 B).num = 1 := by rw [e]
  have h3 : ((inv1 B).den : Int) = B := by rw [e]; exact Int.toNat_of_nonneg (by lia)
  rw [h2, h3] at h1
  exact h1.symm
theorem inv1_rb {n : Nat} {B : Int} (h : 0 < B) (hb : Bd n B) : RB n (inv1 B) := by
  have e : inv1 B = ⟨1, B.toNat, by lia, by simp⟩ := by unfold inv1; rw [dif_pos h]
  have h3 : ((inv1 B).den : Int) = B := by rw [e]; exact Int.toNat_of_nonneg (by lia)
  refine ⟨?_, by rw [h3]; exact hb⟩
  rw [e]
  show Bd n 1
  unfold Bd at *
  lia
theorem inv1_ne {B : Int} (h : 0 < B) : inv1 B ≠ 0 := fun z => by
  have := inv1_mul h
  rw [z] at this
  have e : (0 : Rat) * ((B : Int) : Rat) = 0 := Rat.zero_mul _
  rw [e] at this
  exact absurd this (by decide)
theorem atV {xs : List V} {i : Nat} {x : V} {k : Int} (h : xs[i]? = some x) (e : k = (i : Int)) : atI xs k = some x := by subst e; exact atI_nat h
theorem ev_take_succ (x : Rat) (l : List Rat) (i : Nat) (v : Rat) (h : l[i]? = some v) : Cv.ev (l.take (i + 1)) x = Cv.ev (l.take i) x + v * x ^ i := by
  have hi : i < l.length := (List.getElem?_eq_some_iff.mp h).1
  rw [List.take_add_one, h]
  show Cv.ev (l.take i ++ [v]) x = _
  rw [Cv.ev_snoc, List.length_take, Nat.min_eq_left (by lia)]

inductive spCom9 (K : PySem.W.Frag) (vs : List V) (H : Hp) (Q : VK) (E_3 : XK) : Prop
  | mk (r u : Addr) (qs ps : List Rat) (n N : Nat) (h1 : vs = [.ref r, .ref u]) (h2 : Crv K H r qs) (h3 : Crv K H u ps) (h4 : Good qs) (h5 : Good ps) (h6 : (qs ≠ [] ∨ ps ≠ [])) (h7 : (∀ q ∈ qs, RB n q)) (h8 : (∀ q ∈ ps, RB n q)) (h9 : n ≤ 40000) (h10 : N ≤ 10) (h11 : qs.length ≤ N) (h12 : ps.length ≤ N) (h13 : ∀ (p : Addr) (H' : Hp) (cs : List Rat), Same H H' → Crv K H' p cs → Part qs ps cs → cs.length ≤ N → (∀ q ∈ cs, RB (18 * (n * N + n + 6) + 1) q) → Q (.ref p) H') : spCom9 K vs H Q E_3
inductive spDivd9 (K : PySem.W.Frag) (vs : List V) (H : Hp) (Q : VK) (E_3 : XK) : Prop
  | mk (r u : Addr) (qs ps : List Rat) (m L C : Nat) (h1 : vs = [.ref r, .ref u]) (h2 : Crv K H r qs) (h3 : Crv K H u ps) (h4 : Good qs) (h5 : ps ≠ []) (h6 : Good ps) (h7 : (∀ q ∈ qs, RB m q)) (h8 : (∀ q ∈ ps, RB L q)) (h9 : m ≤ 100000) (h10 : L ≤ 1000000) (h11 : m * qs.length + m + (qs.length + 1 - ps.length) * (L * ps.length + L + 1 + 1) + L * ps.length + 20 ≤ C) (h12 : qs.length ≤ 8) (h13 : ps.length ≤ 8) (h14 : ∀ (p a b : Addr) (H' : Hp) (os rs : List Rat), Same H H' → H' p = some (.tup [.ref a, .ref b]) → Crv K H' a os → Crv K H' b rs → Good os → Good rs → os.length = qs.length + 1 - ps.length → rs.length < ps.length → (∀ x, Cv.ev qs x = Cv.ev os x * Cv.ev ps x + Cv.ev rs x) → (∀ q ∈ os, RB C q) → Q (.ref p) H') : spDivd9 K vs H Q E_3
theorem slope_rb3 {cs : List Rat} {n : Nat} (hl : cs.length ≤ 8) (hn : 1 ≤ n) (h : ∀ q ∈ cs, RB n q) : ∀ q ∈ slopeL cs, RB (n + 3) q := fun q hq => by
  unfold slopeL at hq
  obtain ⟨j, hj, rfl⟩ := List.mem_map.mp hq
  have hj' := List.mem_range.mp hj
  have g : RB n (cs.getD (j + 1) 0) := by
    rw [List.getD_eq_getElem?_getD]
    cases e : cs[j + 1]? with
    | none => exact RB.zero hn
    | some t => exact h t (List.mem_of_getElem? e)
  exact g.times ⟨by rw [Rat.num_natCast]; unfold Bd; lia, by rw [Rat.den_natCast]; unfold Bd; decide⟩
theorem lone_room {n : Nat} (hn : n ≤ 1000) : ∃ n' C, n + 3 ≤ n' ∧ n' ≤ 1003 ∧ (n ≤ 8 → C ≤ 36000) ∧ C ≤ 4000000 ∧ ∀ a l : Nat, 1 ≤ l → l ≤ 6 → a ≤ 6 → n * a + n + (a + 1 - l) * ((18 * (n' * 6 + n' + 6) + 1) * l + (18 * (n' * 6 + n' + 6) + 1) + 1 + 1) + (18 * (n' * 6 + n' + 6) + 1) * l + 20 ≤ C := by
  have go : ∀ n' C : Nat, (18 * (n' * 6 + n' + 6) + 1) * 6 + n * 7 + 20 + 6 * (18 * (n' * 6 + n' + 6) + 1) + 12 + 12 * (18 * (n' * 6 + n' + 6) + 1) ≤ C → ∀ a l : Nat, 1 ≤ l → l ≤ 6 → a ≤ 6 → n * a + n + (a + 1 - l) * ((18 * (n' * 6 + n' + 6) + 1) * l + (18 * (n' * 6 + n' + 6) + 1) + 1 + 1) + (18 * (n' * 6 + n' + 6) + 1) * l + 20 ≤ C := by
    intro n' C h a l h1 h6 ha
    generalize 18 * (n' * 6 + n' + 6) + 1 = L at h ⊢
    have e1 : n * a ≤ n * 6 := Nat.mul_le_mul_left _ ha
    have e2 : (a + 1 - l) * (L * l + L + 1 + 1) ≤ (7 - l) * (L * l + L + 1 + 1) := Nat.mul_le_mul_right _ (by lia)
    have e3 : l = 1 ∨ l = 2 ∨ l = 3 ∨ l = 4 ∨ l = 5 ∨ l = 6 := by lia
    rcases e3 with rfl | rfl | rfl | rfl | rfl | rfl <;> lia
  by_cases h8 : n ≤ 8
  · obtain ⟨C, hC⟩ : ∃ C, C = 36000 := ⟨_, rfl⟩
    obtain ⟨m, hm⟩ : ∃ m, m = 11 := ⟨_, rfl⟩
    exact ⟨m, C, by lia, by lia, by lia, by lia, go m C (by lia)⟩
  · obtain ⟨C, hC⟩ : ∃ C, C = 4000000 := ⟨_, rfl⟩
    obtain ⟨m, hm⟩ : ∃ m, m = 1003 := ⟨_, rfl⟩
    exact ⟨m, C, by lia, by lia, by lia, by lia, go m C (by lia)⟩
inductive spLone (K : PySem.W.Frag) (vs : List V) (H : Hp) (Q : VK) (E_3 : XK) : Prop
  | mk (r : Addr) (qs : List Rat) (n : Nat) (h1 : vs = [.ref r]) (h2 : Crv K H r qs) (h3 : Good qs) (h4 : qs ≠ []) (h5 : (∀ q ∈ qs, RB n q)) (h6 : 1 ≤ n) (h7 : n ≤ 1000) (h8 : qs.length ≤ 6) (h9 : ∀ (p : Addr) (H' : Hp) (g os : List Rat), Same H H' → Crv K H' p os → Good os → Part qs (slopeL qs) g → (∀ x, Cv.ev qs x = Cv.ev os x * Cv.ev g x) → os.length ≤ qs.length → (n ≤ 8 → ∀ q ∈ os, RB 36000 q) → Q (.ref p) H') : spLone K vs H Q E_3
inductive spLoneX (K : PySem.W.Frag) (C : Addr) (vs : List V) (H : Hp) (E_2 : VK) (E : XK) : Prop
  | mk (r : Addr) (h1 : vs = [.ref r]) (h2 : SqT K H r []) (h3 : E (.ref C) none H) : spLoneX K C vs H E_2 E
theorem cat_pts {K : PySem.W.Frag} {H : Hp} {a b : Addr} {xs ys : List V} {Q : VK} (ha : SqT K H a xs) (hb : SqT K H b ys) (hl : xs.length + ys.length ≤ sizeLine) (h : ∀ (p : Addr) (H' : Hp), Same H H' → SqT K H' p (xs ++ ys) → Q (.ref p) H') : rCatTA K (.ref a) (.ref b) H Q := by
  by_cases ex : xs = []
  · subst ex
    exact .inr ⟨a, b, ys, rfl, rfl, ha, hb, h b H (Same.refl _) hb⟩
  · refine .inl ⟨a, b, xs, ys, rfl, rfl, ha, hb, ex, hl, fun ey => ?_, fun _ p hp => h p _ (Same.new hp) (SqT.of upd_same)⟩
    subst ey
    exact h a H (Same.refl _) (by rw [List.append_nil]; exact ha)

inductive spProdP (K : PySem.W.Frag) (vs : List V) (H : Hp) (Q : VK) (E_3 : XK) : Prop
  | mk (r u : Addr) (qs ps : List Rat) (m n : Nat) (h1 : vs = [.ref r, .ref u]) (h2 : Crv K H r qs) (h3 : Crv K H u ps) (h4 : (∀ q ∈ qs, RB m q)) (h5 : (∀ q ∈ ps, RB n q)) (h6 : m + n ≤ 100000) (h7 : qs.length ≤ 50) (h8 : ps.length ≤ 50) (h9 : qs ≠ []) (h10 : ps ≠ []) (h11 : ∀ (p : Addr) (H' : Hp) (ms : List Rat), Same H H' → Crv K H' p ms → ms.length = qs.length + ps.length - 1 → (∀ x, Cv.ev ms x = Cv.ev qs x * Cv.ev ps x) → (∀ q ∈ ms, RB (qs.length * (m + n + 1) + 1) q) → Q (.ref p) H') : spProdP K vs H Q E_3
/-- a bound by the length -/
def lb : Nat → Nat
  | 0 => 8 | 1 => 8 | 2 => 18 | 3 => 55 | 4 => 193 | _ => 809
/-- a curve, the same with each part once, the places at which it is nought -/
structure KnF (f l xs : List Rat) : Prop where
  kn : ∃ g, Kn f l g
  gf : Good f
  gl : Good l
  nf : f ≠ []
  nl : l ≠ []
  le : l.length ≤ f.length
  l5 : f.length ≤ 5
  bf : ∀ q ∈ f, RB (lb f.length) q
  bl : ∀ q ∈ l, RB (lb l.length) q
  rt : ∀ x ∈ xs, Cv.ev l x = 0
  bx : ∀ x ∈ xs, RB 8 x
theorem prod_is {f p m : List Rat} (nf : f ≠ []) (np : p ≠ []) (l : m.length = f.length + p.length - 1) (e : ∀ x, Cv.ev m x = Cv.ev f x * Cv.ev p x) : m = mulL f p := by
  have lm := mulL_length p (List.length_pos_iff.mpr np) f (List.length_pos_iff.mpr nf)
  refine List.ext_getElem? fun i => ?_
  have h := coef_one (l := m) (m := mulL f p) (fun k => by rw [e, ev_mulL]) i
  rw [List.getD_eq_getElem?_getD, List.getD_eq_getElem?_getD] at h
  by_cases hi : i < m.length
  · have hj : i < (mulL f p).length := by lia
    rw [List.getElem?_eq_getElem hi, List.getElem?_eq_getElem hj] at h ⊢
    exact congrArg some h
  · rw [List.getElem?_eq_none (by lia), List.getElem?_eq_none (by lia)]
theorem lb_line : ∀ l : Nat, 1 ≤ l → l ≤ 4 → l * (lb l + 8 + 1) + 1 ≤ lb (l + 1)
  | 1, _, _ => by decide | 2, _, _ => by decide | 3, _, _ => by decide | 4, _, _ => by decide
theorem lb_bow : ∀ l : Nat, 1 ≤ l → l ≤ 3 → l * (lb l + 8 + 1) + 1 ≤ lb (l + 2)
  | 1, _, _ => by decide | 2, _, _ => by decide | 3, _, _ => by decide
theorem lb_le : ∀ l : Nat, lb l ≤ 809
  | 0 => by decide | 1 => by decide | 2 => by decide | 3 => by decide | 4 => by decide | _ + 5 => Nat.le_refl 809
theorem lb_ge : ∀ l : Nat, 8 ≤ lb l
  | 0 => by decide | 1 => by decide | 2 => by decide | 3 => by decide | 4 => by decide | _ + 5 => (by decide : 8 ≤ 809)
theorem KnF.more {f l xs p f' l' xs' : List Rat} (h : KnF f l xs) (gp : Good p) (mp : p[p.length - 1]? = some 1) (c1 : Cop p l) (c2 : Cop p (dL p)) (m : Nat) (ef : ∀ x, Cv.ev f' x = Cv.ev f x * Cv.ev (pw p (m + 1)) x) (lf : f'.length = f.length + (m + 1) * (p.length - 1)) (el : ∀ x, Cv.ev l' x = Cv.ev l x * Cv.ev p x) (ll : l'.length = l.length + (p.length - 1)) (l5 : f'.length ≤ 5) (bf : ∀ q ∈ f', RB (lb f'.length) q) (bl : ∀ q ∈ l', RB (lb l'.length) q) (rt : ∀ x ∈ xs', Cv.ev l x = 0 ∨ Cv.ev p x = 0) (bx : ∀ x ∈ xs', RB 8 x) : KnF f' l' xs' := by
  have np : p ≠ [] := fun z => by rw [z] at mp; cases mp
  have p1 := List.length_pos_iff.mpr np
  have f1 := List.length_pos_iff.mpr h.nf
  have l1 := List.length_pos_iff.mpr h.nl
  obtain ⟨gw, lw⟩ := pw_len gp np (m + 1)
  have nw : pw p (m + 1) ≠ [] := fun z => by rw [z] at lw; simp at lw
  have e1 : f' = mulL f (pw p (m + 1)) := prod_is h.nf nw (by lia) ef
  have e2 : l' = mulL l p := prod_is h.nl np (by lia) el
  obtain ⟨g, k⟩ := h.kn
  have h3 : (m + 1) * (p.length - 1) = m * (p.length - 1) + (p.length - 1) := Nat.succ_mul _ _
  have hle := h.le
  exact ⟨⟨_, (k.more gp mp c1 c2 m).like (fun x => by rw [e1]) fun x => by rw [e2]⟩, by rw [e1]; exact good_mul h.gf gw h.nf nw, by rw [e2]; exact good_mul h.gl gp h.nl np, fun z => by rw [z] at lf; simp only [List.length_nil] at lf; lia, fun z => by rw [z] at ll; simp only [List.length_nil] at ll; lia, by lia, l5, bf, bl, fun x hx => by
    rw [el]
    rcases rt x hx with z | z
    · rw [z, Rat.zero_mul]
    · rw [z, Rat.mul_zero], bx⟩
structure KnI (f l xs : List Rat) : Prop where
  k : KnF f l xs
  cop : ∀ B, (∀ x ∈ xs, Cv.ev B x ≠ 0) → Cop l B
theorem KnI.start {c : Rat} (hc : c ≠ 0) (hb : RB 8 c) : KnI [c] [c] [] := by
  have g : Good [c] := .inr ⟨c, rfl, hc⟩
  have b : ∀ q ∈ [c], RB (lb 1) q := fun q hq => by rw [List.mem_singleton.mp hq]; exact hb
  refine ⟨⟨⟨_, kn_const hc⟩, g, g, (fun z => by cases z), (fun z => by cases z), Nat.le_refl _, (by decide : 1 ≤ 5), b, b, (fun _ h => nomatch h), (fun _ h => nomatch h)⟩, fun B _ => ⟨[c⁻¹], [], fun x => ?_⟩⟩
  show (c⁻¹ + x * 0) * (c + x * 0) + 0 * _ = 1
  have := Rat.mul_inv_cancel _ hc
  grind
theorem ev_ln (o x : Rat) : Cv.ev [-o, 1] x = x - o := by show -o + x * ((1 : Rat) + x * 0) = _; grind
theorem KnI.line {f l xs f' l' : List Rat} {o : Rat} (h : KnI f l xs) (ho : o ∉ xs) (bo : RB 8 o) (m : Nat) (ef : ∀ x, Cv.ev f' x = Cv.ev f x * Cv.ev (pw [-o, 1] (m + 1)) x) (lf : f'.length = f.length + (m + 1)) (el : ∀ x, Cv.ev l' x = Cv.ev l x * Cv.ev [-o, 1] x) (ll : l'.length = l.length + 1) (l5 : f'.length ≤ 5) (bf : ∀ q ∈ f', RB (lb f'.length) q) (bl : ∀ q ∈ l', RB (lb l'.length) q) : KnI f' l' (xs ++ [o]) := by
  have c1 : Cop l [-o, 1] := h.cop _ fun x hx z => by
    rw [ev_ln] at z
    exact ho (by have : o = x := by grind
                 rw [this]; exact hx)
  refine ⟨h.k.more (.inr ⟨1, rfl, by decide⟩) rfl c1.turn (line_self o) m ef (by rw [lf]; show _ = _ + (m + 1) * 1; lia) el ll l5 bf bl (fun x hx => ?_) fun x hx => ?_, fun B hB => Cop.mul (h.cop B fun x hx => hB x (List.mem_append_left _ hx)) (cop_line (hB o (List.mem_append_right _ (List.mem_singleton.mpr rfl)))) el⟩
  · rcases List.mem_append.mp hx with z | z
    · exact .inl (h.k.rt x z)
    · rw [List.mem_singleton.mp z, ev_ln]; exact .inr (Rat.sub_self)
  · rcases List.mem_append.mp hx with z | z
    · exact h.k.bx x z
    · rw [List.mem_singleton.mp z]; exact bo
theorem KnI.bow {f l xs f' l' : List Rat} {b c : Rat} (h : KnI f l xs) (hbc : b * b < 4 * c) (m : Nat) (ef : ∀ x, Cv.ev f' x = Cv.ev f x * Cv.ev (pw [c, b, 1] (m + 1)) x) (lf : f'.length = f.length + (m + 1) * 2) (el : ∀ x, Cv.ev l' x = Cv.ev l x * Cv.ev [c, b, 1] x) (ll : l'.length = l.length + 2) (l5 : f'.length ≤ 5) (bf : ∀ q ∈ f', RB (lb f'.length) q) (bl : ∀ q ∈ l', RB (lb l'.length) q) : KnF f' l' xs := by
  have c1 : Cop l [c, b, 1] := h.cop _ fun x hx z => by
    have e : Cv.ev [c, b, 1] x = c + x * (b + x) := by show c + x * (b + x * ((1 : Rat) + x * 0)) = _; grind
    rw [e] at z
    have s : 0 ≤ (2 * x + b) * (2 * x + b) := by
      rcases Rat.le_total (a := 0) (b := 2 * x + b) with y | y
      · exact Rat.mul_nonneg y y
      · have := Rat.mul_nonneg (a := -(2 * x + b)) (b := -(2 * x + b)) (by grind) (by grind)
        grind
    grind
  exact h.k.more (.inr ⟨1, rfl, by decide⟩) rfl c1.turn (bow_self fun z => by grind) m ef lf el ll l5 bf bl (fun x hx => .inl (h.k.rt x hx)) h.k.bx
theorem SqT.putD {K : PySem.W.Frag} {H : Hp} {a p : Addr} {xs : List V} {kvs : List (List Key × V)} {o : HO} (h : SqT K H a xs) (hp : H p = some (.dT kvs)) : SqT K (upd H p o) a xs := by
  rcases h with (h | ⟨u, h⟩) | h
  · exact .inl (.inl (by rw [upd_ne (ne_of h hp (fun z => by cases z))]; exact h))
  · exact .inl (.inr ⟨u, by rw [upd_ne (ne_of h hp (fun z => by cases z))]; exact h⟩)
  · exact .inr h
theorem Crv.putD {K : PySem.W.Frag} {H : Hp} {r p : Addr} {qs : List Rat} {kvs : List (List Key × V)} {o : HO} (h : Crv K H r qs) (hp : H p = some (.dT kvs)) : Crv K (upd H p o) r qs := by
  obtain ⟨xs, a, b⟩ := h
  exact ⟨xs, SqT.putD a hp, Paired.mapP b fun _ _ z => by obtain ⟨r, rfl, h⟩ := z; exact ⟨r, rfl, SqT.putD h hp⟩⟩
theorem val_not {kvs : List (List Key × V)} {xs : List Rat} {o : Rat} (h : kvs.map (·.1) = xs.map kQ) (hv : valV kvs (kQ o) = none) : o ∉ xs := fun hx => by
  have hm : kQ o ∈ kvs.map (·.1) := by rw [h]; exact List.mem_map_of_mem hx
  obtain ⟨p, hp, e⟩ := List.mem_map.mp hm
  have ha := valV_any (kQ o) kvs
  rw [hv, List.any_eq_true.mpr ⟨p, hp, decide_eq_true e⟩] at ha
  cases ha
/-- what the known curve's making carries -/
structure K39 (K : PySem.W.Frag) (a d : Addr) (H G : Hp) (c l : Addr) (fs ls xs : List Rat) (kvs : List (List Key × V)) : Prop where
  mv : Mv a H G
  pn : Pen G a
  cc : Crv K G c fs
  cl : Crv K G l ls
  dd : G d = some (.dT kvs)
  ks : kvs.map (·.1) = xs.map kQ
theorem K39.go {K : PySem.W.Frag} {a d : Addr} {H G G' : Hp} {c l : Addr} {fs ls xs : List Rat} {kvs : List (List Key × V)} (h : K39 K a d H G c l fs ls xs kvs) (m : Mv a G G') (p : Pen G' a) : K39 K a d H G' c l fs ls xs kvs :=
  ⟨h.mv.trans m, p, h.cc.mv h.pn m, h.cl.mv h.pn m, m _ _ (h.pn.ne h.dd fun _ _ _ z => by cases z) h.dd, h.ks⟩
theorem K39.on {K : PySem.W.Frag} {a d : Addr} {H G G' : Hp} {c l : Addr} {fs ls xs : List Rat} {kvs : List (List Key × V)} (h : K39 K a d H G c l fs ls xs kvs) (s : Same G G') : K39 K a d H G' c l fs ls xs kvs := h.go s.mv (h.pn.sm s)
theorem K39.put {K : PySem.W.Frag} {a d : Addr} {H G : Hp} {c l : Addr} {fs ls xs : List Rat} {kvs : List (List Key × V)} {o : Rat} {v : V} (h : K39 K a d H G c l fs ls xs kvs) (hd : H d = none) (hv : valV kvs (kQ o) = none) : K39 K a d H (upd G d (.dT (putK kvs (kQ o) v))) c l fs ls (xs ++ [o]) (putK kvs (kQ o) v) :=
  ⟨Mv.put' h.mv hd, h.pn.put' (h.pn.ne h.dd fun _ _ _ z => by cases z), Crv.putD h.cc h.dd, Crv.putD h.cl h.dd, upd_same, by rw [putK_new v hv, List.map_append, List.map_append, h.ks]; rfl⟩
theorem nT_mv {a r : Addr} {G G' : Hp} {q : Rat} (h : G r = some (nT q)) (p : Pen G a) (m : Mv a G G') : G' r = some (nT q) := m _ _ (p.ne h fun _ _ _ z => by cases z) h
inductive spKnown (K : PySem.W.Frag) (vs : List V) (H : Hp) (Q : VK) (E_3 : XK) : Prop
  | mk (a : Addr) (h1 : vs = [.ref a]) (h2 : Pen H a) (h3 : ∀ (p c d l : Addr) (H' : Hp) (fs ls xs : List Rat) (kvs : List (List Key × V)), Mv a H H' → Pen H' a → H' p = some (.tup [.ref c, .ref d, .ref l]) → Crv K H' c fs → Crv K H' l ls → H d = none → H' d = some (.dT kvs) → kvs.map (·.1) = xs.map kQ → KnF fs ls xs → Q (.ref p) H') : spKnown K vs H Q E_3
def spRef39 (K : PySem.W.Frag) : Sp := fun vs H Q _ => vs = [] ∧ ∀ H', Same H H' → Q (.bl true) H'
inductive spSlopeAt (K : PySem.W.Frag) (vs : List V) (H : Hp) (Q : VK) (E_3 : XK) : Prop
  | mk (c rx : Addr) (cs : List Rat) (x : Rat) (n : Nat) (h1 : vs = [.ref c, .ref rx]) (h2 : Crv K H c cs) (h3 : NumV K H (.ref rx) x) (h4 : (∀ q ∈ cs, RB n q)) (h5 : RB n x) (h6 : cs.length ≤ 20) (h7 : n ≤ 10000) (h8 : 1 ≤ n) (h9 : ∀ p H', Same H H' → H' p = some (nT (Cv.ev (slopeL cs) x)) → RB ((n + 13) * ((cs.length + 2) * (cs.length + 2))) (Cv.ev (slopeL cs) x) → Q (.ref p) H') : spSlopeAt K vs H Q E_3

section
variable {P : Program} {w : World} {K : PySem.W.Frag} {mg : Str → Option Value} {base : Heap}
theorem sc__law_pen : FnScope ["_law_script", "_law_k", "_law_cell"] ["_law_script", "_law_k"] (defScope (top 33)) := ⟨rfl, rfl, rfl, by decide +kernel, rfl, by decide +kernel, by decide +kernel⟩
set_option maxHeartbeats 4000000 in
theorem ok__law_pen {f : Addr} {fd : FuncData} (F : Fun K "_law_pen" "_law_pen" (top 33) f fd) (b_len : mg "len" = none) (hT : P.given.tree = none) :
    FnOk P w K mg base CX0 33 f fd ["_law_script", "_law_k"] (spPen K) := by
  refine F.ok sc__law_pen (fun vs H Q E h => ?_) (fun cdv A outer s H vs Q E hr h => ?_)
  · obtain ⟨_, _, _, rfl, _⟩ := h; rfl
  refine ⟨_, (pss_consC (K := K) (ps_set (i := 2) sc__law_pen.nd rfl (Or.inl rfl) (pe_op op_add (pe_op op_mulC pe_int (pv 1)) pe_int))
    (pss_consC (K := K) (ps_ifC (K := K) (pt_cmpR op_lt (pv 1) (pe_callB (lenK K) rfl b_len bt_len (pa_cons (pv 0) pa_nil)) (nomark _)) (pss_one (ps_set (i := 2) sc__law_pen.nd rfl (Or.inl rfl) (pe_ix (ixL K) (pv 0) (pv 1) (fun u v => rfl)))) (pss_one (ps_ifC (K := K) (pt_cmpR op_gt (pe_callB (lenK K) rfl b_len bt_len (pa_cons (pv 0) pa_nil)) pe_int (nomark _)) (pss_one (ps_set (i := 2) sc__law_pen.nd rfl (Or.inl rfl) (pe_op op_add (pe_ix (ixL K) (pv 0) (pe_op op_mod (pv 1) (pe_callB (lenK K) rfl b_len bt_len (pa_cons (pv 0) pa_nil))) (fun u v => rfl)) (pe_op op_mulC pe_int (pv 1))))) pss_nil (by rfl) (by rfl))) (by rfl) (by rfl))
    (pss_consC (K := K) (ps_ifC (K := K) (pt_cmpR op_ge (pv 2) (pe_op op_pow pe_int pe_int) (nomark _)) (pss_one (ps_ret (pe_lst (pa_cons (pe_op op_sub (pv 2) (pe_op op_pow pe_int pe_int)) (pa_cons (pe_op op_mod (pv 2) pe_int) (pa_cons pe_int pa_nil)))))) pss_nil (by rfl) (by rfl))
    (pss_one (ps_ret (pe_lst (pa_cons pe_int (pa_cons (pe_op op_add (pe_op op_mod (pv 2) pe_int) (pe_op op_mulC pe_int (pv 1))) (pa_cons pe_int pa_nil)))))) (by rfl)) (by rfl)) (by rfl)), ?_⟩
  obtain ⟨a, ns, k, rfl, hS, h63, h0, h62, q⟩ := h
  have hl : (ns.map V.int).length = ns.length := List.length_map _
  have P3 : 3 ≤ sizeLine := by decide
  have C1 : CPow 10 18 := by unfold CPow; decide
  refine ⟨_, rfl, _, _, rfl, rfl, .inl ⟨by decide, by decide⟩, _, _, rfl, rfl, ?_⟩
  refine ⟨_, rfl, _, rfl, a, _, rfl, .inl hS, _, _, rfl, rfl, _, rfl, ?_⟩
  rw [hl]
  have hk1 : k < (ns.length : Int) → ∃ v : Int, atI (ns.map V.int) k = some (.int v) := fun c => at_ints h0 c
  have hk2 : 0 < (ns.length : Int) → ∃ v : Int, atI (ns.map V.int) (k % (ns.length : Int)) = some (.int v) := fun c => at_ints (Int.emod_nonneg _ (by lia)) (Int.emod_lt_of_pos _ c)
  refine ite2 (fun c => ?_) (fun c => ?_)
  · obtain ⟨v, hv⟩ := (hk1 (of_decide_eq_true c))
    refine ⟨_, rfl, _, rfl, a, _, _, _, rfl, rfl, hS, hv, ?_⟩
    refine ⟨_, rfl, _, _, rfl, rfl, C1, _, _, rfl, rfl, _, rfl, ?_⟩
    refine ite2 (fun c => ?_) (fun c => ?_)
    · exact ⟨_, rfl, _, _, rfl, rfl, C1, _, _, rfl, rfl, _, rfl, _, _, rfl, rfl, (by first | decide | (dsimp only; decide)), P3, fun p hp => q p _ _ hp⟩
    · exact ⟨_, rfl, _, _, rfl, rfl, (by first | decide | (dsimp only; decide)), _, rfl, _, _, rfl, rfl, .inl ⟨by decide, by decide⟩, _, _, rfl, rfl, P3, fun p hp => q p _ _ hp⟩
  · refine ⟨_, rfl, a, _, rfl, .inl hS, _, _, rfl, rfl, _, rfl, ?_⟩
    rw [hl]
    refine ite2 (fun c => ?_) (fun c => ?_)
    · obtain ⟨v, hv⟩ := (hk2 (of_decide_eq_true c))
      have c' : 0 < (((ns.map V.int).length : Nat) : Int) := by rw [hl]; exact of_decide_eq_true c
      rw [← hl] at hv
      refine ⟨_, rfl, _, rfl, _, rfl, a, _, rfl, .inl hS, _, _, rfl, rfl, c', a, _, _, _, rfl, rfl, hS, hv, _, rfl, _, _, rfl, rfl, .inl ⟨by decide, by decide⟩, _, _, rfl, rfl, ?_⟩
      refine ⟨_, rfl, _, _, rfl, rfl, C1, _, _, rfl, rfl, _, rfl, ?_⟩
      refine ite2 (fun c => ?_) (fun c => ?_)
      · exact ⟨_, rfl, _, _, rfl, rfl, C1, _, _, rfl, rfl, _, rfl, _, _, rfl, rfl, (by first | decide | (dsimp only; decide)), P3, fun p hp => q p _ _ hp⟩
      · exact ⟨_, rfl, _, _, rfl, rfl, (by first | decide | (dsimp only; decide)), _, rfl, _, _, rfl, rfl, .inl ⟨by decide, by decide⟩, _, _, rfl, rfl, P3, fun p hp => q p _ _ hp⟩
    · refine ⟨_, rfl, _, _, rfl, rfl, C1, _, _, rfl, rfl, _, rfl, ?_⟩
      refine ite2 (fun c => ?_) (fun c => ?_)
      · exact ⟨_, rfl, _, _, rfl, rfl, C1, _, _, rfl, rfl, _, rfl, _, _, rfl, rfl, (by first | decide | (dsimp only; decide)), P3, fun p hp => q p _ _ hp⟩
      · exact ⟨_, rfl, _, _, rfl, rfl, (by first | decide | (dsimp only; decide)), _, rfl, _, _, rfl, rfl, .inl ⟨by decide, by decide⟩, _, _, rfl, rfl, P3, fun p hp => q p _ _ hp⟩
theorem sc__law_lowest : FnScope ["_law_top", "_law_bottom", "_law_one", "_law_other"] ["_law_top", "_law_bottom"] (defScope (top 35)) := ⟨rfl, rfl, rfl, by decide +kernel, rfl, by decide +kernel, by decide +kernel⟩
set_option maxHeartbeats 4000000 in
theorem ok__law_lowest {f : Addr} {fd : FuncData} (F : Fun K "_law_lowest" "_law_lowest" (top 35) f fd) (b_abs : mg "abs" = none) (hT : P.given.tree = none) :
    FnOk P w K mg base CX0 33 f fd ["_law_top", "_law_bottom"] (spLow) := by
  refine F.ok sc__law_lowest (fun vs H Q E h => ?_) (fun cdv A outer s H vs Q E hr h => ?_)
  · obtain ⟨_, _, rfl, _⟩ := h; rfl
  refine ⟨_, (pss_consC (K := K) (ps_set (i := 2) sc__law_lowest.nd rfl (Or.inl rfl) (pe_callB call_abs rfl b_abs bt_abs (pa_cons (pv 0) pa_nil)))
    (pss_consC (K := K) (ps_set (i := 3) sc__law_lowest.nd rfl (Or.inl rfl) (pe_callB call_abs rfl b_abs bt_abs (pa_cons (pv 1) pa_nil)))
    (pss_consC (K := K) (ps_while PassesOwn.never (pt_cmpR op_gt (pv 3) pe_int (nomark _)) (pss_one (ps_par (i := 2) (j := 3) rfl sc__law_lowest.nd rfl rfl (by decide) rfl rfl (pa_cons (pv 3) (pa_cons (pe_op op_mod (pv 2) (pv 3)) pa_nil)) (by with_unfolding_all rfl))))
    (pss_consC (K := K) (ps_ifC (K := K) (pt_cmpR op_lt (pv 1) pe_int (nomark _)) (pss_one (ps_set (i := 2) sc__law_lowest.nd rfl (Or.inl rfl) (pe_op op_sub pe_int (pv 2)))) pss_nil (by rfl) (by rfl))
    (pss_one (ps_ret (pe_tup (pa_cons (pe_op (op_fdivX hr hT) (pv 0) (pv 2)) (pa_cons (pe_op (op_fdivX hr hT) (pv 1) (pv 2)) pa_nil))))) (by rfl)) (by rfl)) (by rfl)) (by rfl)), ?_⟩
  obtain ⟨a, b, rfl, hb, q⟩ := h
  refine ⟨_, rfl, a, rfl, ?_⟩
  refine ⟨_, rfl, b, rfl, ?_⟩
  refine while_by (L3 H a b fun H a b σ H' => H' = H ∧ ∃ (x y : Int), σ = [some (.int a), some (.int b), some (.int x), some (.int y)] ∧ 0 ≤ x ∧ 0 ≤ y ∧ Int.gcd x y = Int.gcd a b) (fun σ _ => mu 3 σ)
    ⟨rfl, _, _, rfl, ?_, ?_, ?_⟩ ?_ ?_
  · rw [Nm.abs_if]; exact Int.natCast_nonneg _
  · rw [Nm.abs_if]; exact Int.natCast_nonneg _
  · rw [Nm.abs_if, Nm.abs_if]; rfl
  · rintro σ H' hR1
    refine anE2 hR1 fun hq1 hz3 => ?_
    refine exE2 hz3 fun x y hz3' => ?_
    clear hz3
    refine anE4 hz3' fun hq2 hx hy hg => ?_
    clear hz3'
    obtain rfl := hq1
    obtain rfl := hq2
    try clear hR1
    refine ⟨_, rfl, _, _, rfl, rfl, _, rfl, ?_⟩
    by_cases hy0 : y = 0
    · subst hy0
      refine iteF ?_
      have e : (Int.gcd a b : Int) = x := by rw [← hg, Int.gcd_zero]; lia
      subst e
      refine ⟨_, rfl, _, _, rfl, rfl, _, rfl, ?_⟩
      have hd : Nm.msr a b ≠ 0 := Nm.msr_ne hb
      have fin : ∀ p, H' p = none → Q (.ref p) (upd H' p (.tup [.int (a.fdiv (Nm.msr a b)), .int (b.fdiv (Nm.msr a b))])) := fun p hp => by
        rw [Nm.top_msr hb, Nm.bottom_msr hb]; exact q p hp
      by_cases hb0 : b < 0
      · have hd' : Nm.msr a b = 0 - (Int.gcd a b : Int) := by unfold Nm.msr; rw [if_pos hb0]; lia
        rw [hd'] at hd fin
        refine iteTc (by rw [decide_eq_true hb0] <;> rfl) ⟨_, rfl, _, _, rfl, rfl, ?_⟩
        exact ⟨_, rfl, _, rfl, _, _, rfl, rfl, hd, _, rfl, _, rfl, _, _, rfl, rfl, hd, (by decide : 2 ≤ sizeLine), fin⟩
      · have hd' : Nm.msr a b = (Int.gcd a b : Int) := by unfold Nm.msr; rw [if_neg hb0]
        rw [hd'] at hd fin
        refine iteFc (by rw [decide_eq_false hb0] <;> rfl) ?_
        exact ⟨_, rfl, _, rfl, _, _, rfl, rfl, hd, _, rfl, _, rfl, _, _, rfl, rfl, hd, (by decide : 2 ≤ sizeLine), fin⟩
    · have hyp : 0 < y := by lia
      refine iteTc (by rw [decide_eq_true hyp] <;> rfl) ?_
      refine ⟨_, rfl, _, rfl, _, rfl, _, _, rfl, rfl, hyp, _, _, rfl, ⟨rfl, y, x % y, rfl, hy, Int.emod_nonneg _ hy0, ?_⟩, ?_⟩
      · rw [Nm.gcd_turn]; exact hg
      · show (x % y).toNat < y.toNat
        have := Int.emod_lt_of_pos x hyp
        lia
  · rintro σ H' Q1 Q2 hm hR2
    obtain ⟨v, e, i, j, e1, e2, k, ek, q1⟩ := hR2
    try clear hR2
    exact ⟨v, e, i, j, e1, e2, k, ek, hm _ _ q1⟩
theorem sc__law_draw : FnScope ["_law_pen_here", "_law_many", "_law_drawn", "_law_number_here"] ["_law_pen_here", "_law_many"] (defScope (top 34)) := ⟨rfl, rfl, rfl, by decide +kernel, rfl, by decide +kernel, by decide +kernel⟩
set_option maxHeartbeats 4000000 in
theorem ok__law_draw {f : Addr} {fd : FuncData} (F : Fun K "_law_draw" "_law_draw" (top 34) f fd) (hT : P.given.tree = none) :
    FnOk P w K mg base CX0 33 f fd ["_law_pen_here", "_law_many"] (spDraw) := by
  refine F.ok sc__law_draw (fun vs H Q E h => ?_) (fun cdv A outer s H vs Q E hr h => ?_)
  · obtain ⟨_, _, rfl, _⟩ := h; rfl
  refine ⟨_, (pss_consC (K := K) (ps_asg (pe_op op_add (pe_ix (ixL K) (pv 0) pe_int (fun u v => rfl)) pe_int) (pg_sub (pv 0) pe_int set_list))
    (pss_consC (K := K) (ps_ifC (K := K) (pt_cmpR op_gt (pe_ix (ixL K) (pv 0) pe_int (fun u v => rfl)) pe_int (nomark _)) (pss_consC (K := K) (ps_set (i := 2) sc__law_draw.nd rfl (Or.inl rfl) (pe_op op_mod (pe_ix (ixL K) (pv 0) pe_int (fun u v => rfl)) (pv 1)))
    (pss_consC (K := K) (ps_asg (pe_op (op_fdivX hr hT) (pe_ix (ixL K) (pv 0) pe_int (fun u v => rfl)) (pv 1)) (pg_sub (pv 0) pe_int set_list))
    (pss_one (ps_ret (pv 2))) (by rfl)) (by rfl)) pss_nil (by rfl) (by rfl))
    (pss_consC (K := K) (ps_set (i := 3) sc__law_draw.nd rfl (Or.inl rfl) (pe_op op_mod (pe_op op_mulC (pe_op op_add (pe_op op_add (pe_ix (ixL K) (pv 0) pe_int (fun u v => rfl)) (pe_op op_mulC pe_int (pe_ix (ixL K) (pv 0) pe_int (fun u v => rfl)))) pe_int) pe_int) pe_int))
    (pss_consC (K := K) (ps_set (i := 3) sc__law_draw.nd rfl (Or.inl rfl) (pe_op op_mod (pe_op op_mulC (pv 3) (pe_op op_add (pe_op op_add (pe_op op_mod (pv 3) pe_int) (pe_ix (ixL K) (pv 0) pe_int (fun u v => rfl))) pe_int)) pe_int))
    (pss_one (ps_ret (pe_op op_mod (pe_op (op_fdivX hr hT) (pe_op op_mod (pe_op op_mulC (pv 3) (pe_op op_add (pe_op op_mod (pv 3) pe_int) pe_int)) pe_int) pe_int) (pv 1)))) (by rfl)) (by rfl)) (by rfl)) (by rfl)), ?_⟩
  obtain ⟨a, m, rfl, ⟨c0, c1, c2, hp⟩, h1, h2, q0⟩ := h
  have q : ∀ d c0' c2' : Int, 0 ≤ d → d < m → Q (.int d) (upd H a (.lst [.int c0', .int c1, .int c2'])) := fun d _ _ h3 h4 => q0 d _ h3 h4 .put .put
  have hm : m ≠ 0 := by lia
  have q' : ∀ (o : HO) (d c0' c2' : Int), 0 ≤ d → d < m → Q (.int d) (upd (upd H a o) a (.lst [.int c0', .int c1, .int c2'])) := fun o d c0' c2' h3 h4 => by rw [upd_upd]; exact q d c0' c2' h3 h4
  refine ⟨_, rfl, a, _, _, _, rfl, rfl, SqL.of hp, rfl, _, _, rfl, rfl, _, rfl, a, _, _, _, rfl, rfl, hp, rfl, ?_⟩
  refine ⟨_, rfl, a, _, _, _, rfl, rfl, SqL.of upd_same, rfl, _, _, rfl, rfl, _, rfl, ?_⟩
  refine ite2 (fun c => ?_) (fun c => ?_)
  · refine ⟨_, rfl, a, _, _, _, rfl, rfl, SqL.of upd_same, rfl, _, rfl, _, _, rfl, rfl, (by lia : 0 < m), ?_⟩
    refine ⟨_, rfl, a, _, _, _, rfl, rfl, SqL.of upd_same, rfl, _, rfl, _, _, rfl, rfl, hm, _, rfl, a, _, _, _, rfl, rfl, upd_same, rfl, ?_⟩
    refine ⟨_, rfl, ?_⟩
    exact q' _ _ _ _ (Int.emod_nonneg _ (by lia)) (Int.emod_lt_of_pos _ (by lia))
  · have cl : ∀ z : Int, 0 < z → (0 : Int) < z := fun _ h => h
    refine ⟨_, rfl, a, _, _, _, rfl, rfl, SqL.of upd_same, rfl, _, rfl, a, _, _, _, rfl, rfl, SqL.of upd_same, rfl, _, _, rfl, rfl, .inl ⟨by decide, by decide⟩, _, _, rfl, rfl, _, _, rfl, rfl, _, _, rfl, rfl, .inr (.inl ⟨by decide, by decide⟩), _, _, rfl, rfl, (by first | decide | (dsimp only; decide)), ?_⟩
    have n1 := Int.emod_nonneg ((c1 + 40503 * (c2 + 1) + 1) * 48271) (show (2147483647 : Int) ≠ 0 by decide)
    have n2 := Int.emod_lt_of_pos ((c1 + 40503 * (c2 + 1) + 1) * 48271) (show (0 : Int) < 2147483647 by decide)
    generalize hN : (c1 + 40503 * (c2 + 1) + 1) * 48271 % 2147483647 = N at n1 n2
    refine ⟨_, rfl, _, rfl, _, _, rfl, rfl, (by first | decide | (dsimp only; decide)), _, rfl, a, _, _, _, rfl, rfl, SqL.of upd_same, rfl, _, _, rfl, rfl, _, _, rfl, rfl, _, _, rfl, rfl, .inl ?_, _, _, rfl, rfl, (by first | decide | (dsimp only; decide)), ?_⟩
    · (try rw [hN]); lia
    try rw [hN]
    have n3 := Int.emod_nonneg (N * (N % 65521 + (c2 + 1) + 3)) (show (2147483629 : Int) ≠ 0 by decide)
    have n4 := Int.emod_lt_of_pos (N * (N % 65521 + (c2 + 1) + 3)) (show (0 : Int) < 2147483629 by decide)
    generalize N * (N % 65521 + (c2 + 1) + 3) % 2147483629 = M at n3 n4
    refine ⟨_, rfl, _, rfl, _, _, rfl, rfl, (by first | decide | (dsimp only; decide)), _, _, rfl, rfl, _, _, rfl, rfl, .inl ⟨by lia, by lia⟩, _, _, rfl, rfl, (by first | decide | (dsimp only; decide)), _, _, rfl, rfl, (by first | decide | (dsimp only; decide)), _, rfl, _, _, rfl, rfl, (by lia : 0 < m), ?_⟩
    exact q _ _ _ (Int.emod_nonneg _ (by lia)) (Int.emod_lt_of_pos _ (by lia))
theorem sc__law_number : FnScope ["_law_pen_here"] ["_law_pen_here"] (defScope (top 39)) := ⟨rfl, rfl, rfl, by decide +kernel, rfl, by decide +kernel, by decide +kernel⟩
set_option maxHeartbeats 4000000 in
theorem ok__law_number {f : Addr} {fd : FuncData} (F : Fun K "_law_number" "_law_number" (top 39) f fd) (F__law_lowest : Fd P w K mg base 33 "_law_lowest" ["_law_top", "_law_bottom"] (spLow)) (F__law_draw : Fd P w K mg base 33 "_law_draw" ["_law_pen_here", "_law_many"] (spDraw)) (hT : P.given.tree = none) :
    FnOk P w K mg base CX0 34 f fd ["_law_pen_here"] (spNum 8) := by
  refine F.ok sc__law_number (fun vs H Q E h => ?_) (fun cdv A outer s H vs Q E hr h => ?_)
  · obtain ⟨_, rfl, _⟩ := h; rfl
  refine ⟨_, (pss_consC (K := K) (ps_ifC (K := K) (pt_cmpR op_gt (pe_fn F__law_draw hr rfl (pa_cons (pv 0) (pa_cons pe_int pa_nil))) pe_int (nomark _)) (pss_one (ps_ret (pe_fn F__law_lowest hr rfl (pa_cons (pe_op op_sub (pe_fn F__law_draw hr rfl (pa_cons (pv 0) (pa_cons pe_int pa_nil))) pe_int) (pa_cons (pe_op op_add pe_int (pe_fn F__law_draw hr rfl (pa_cons (pv 0) (pa_cons (pe_ix (ixL K) (pe_lst (pa_cons pe_int (pa_cons pe_int pa_nil))) (pe_fn F__law_draw hr rfl (pa_cons (pv 0) (pa_cons pe_int pa_nil))) (fun u v => rfl)) pa_nil)))) pa_nil))))) pss_nil (by rfl) (by rfl))
    (pss_one (ps_ret (pe_fn F__law_lowest hr rfl (pa_cons (pe_op op_sub (pe_fn F__law_draw hr rfl (pa_cons (pv 0) (pa_cons pe_int pa_nil))) pe_int) (pa_cons (pe_op op_add pe_int (pe_fn F__law_draw hr rfl (pa_cons (pv 0) (pa_cons pe_int pa_nil)))) pa_nil))))) (by rfl)), ?_⟩
  obtain ⟨a, rfl, pn, q⟩ := h
  have b8 : ∀ x : Int, -200 < x → x < 200 → Bd 8 x := fun x h1 h2 => by unfold Bd; lia
  refine ⟨_, rfl, a, 6, rfl, pn, by decide, by decide, fun w H1 w0 w1 o1 p1 => ⟨_, _, rfl, rfl, _, rfl, ?_⟩⟩
  refine ite2 (fun c => ?_) (fun c => ?_)
  · refine ⟨_, rfl, a, 19, rfl, p1, by decide, by decide, fun d H2 d0 d1 o2 p2 => ⟨_, _, rfl, rfl, ?_⟩⟩
    refine ⟨_, rfl, (by decide : 2 ≤ sizeLine), fun l hl => ?_⟩
    refine ⟨_, rfl, a, 2, rfl, p2.same hl, by decide, by decide, fun e H3 e0 e1 o3 p3 => ?_⟩
    obtain ⟨v, hv, hm⟩ := (at_menu (xs := [1, 4]) (i := e) e0 e1)
    have hv1 : 1 ≤ v ∧ v ≤ 4 := by simp at hm; lia
    have hl3 : H3 l = some (.lst [.int 1, .int 4]) := by
      refine exE3 p2 fun x0 x1 x2 ex => ?_
      rw [o3 l (ne_of_none ex hl).symm]; exact upd_same
    refine ⟨l, _, _, _, rfl, rfl, SqL.of hl3, hv, a, v, rfl, p3, by lia, by lia, fun g H4 g0 g1 o4 p4 => ⟨_, _, rfl, rfl, _, _, rfl, by lia, fun r hr => ?_⟩⟩
    exact q _ r _ (o1.mv.trans (o2.mv.trans ((Mv.new hl).trans (o3.mv.trans (o4.mv.trans (Mv.new hr)))))) (p4.same hr) upd_same (Bd.num (b8 _ (by lia) (by lia))) (Bd.den (by lia) (b8 _ (by lia) (by lia)))
  · refine ⟨_, rfl, a, 199, rfl, p1, by decide, by decide, fun d H2 d0 d1 o2 p2 => ⟨_, _, rfl, rfl, ?_⟩⟩
    refine ⟨_, rfl, a, 9, rfl, p2, by decide, by decide, fun e H3 e0 e1 o3 p3 => ⟨_, _, rfl, rfl, _, _, rfl, by lia, fun r hr => ?_⟩⟩
    exact q _ r _ (o1.mv.trans (o2.mv.trans (o3.mv.trans (Mv.new hr)))) (p3.same hr) upd_same (Bd.num (b8 _ (by lia) (by lia))) (Bd.den (by lia) (b8 _ (by lia) (by lia)))
theorem sc__law_plus : FnScope ["_law_a", "_law_b"] ["_law_a", "_law_b"] (defScope (top 36)) := ⟨rfl, rfl, rfl, by decide +kernel, rfl, by decide +kernel, by decide +kernel⟩
set_option maxHeartbeats 4000000 in
theorem ok__law_plus {f : Addr} {fd : FuncData} (F : Fun K "_law_plus" "_law_plus" (top 36) f fd) (F__law_lowest : Fd P w K mg base 33 "_law_lowest" ["_law_top", "_law_bottom"] (spLow)) (hT : P.given.tree = none) :
    FnOk P w K mg base CX0 34 f fd ["_law_a", "_law_b"] (spBin K (· + ·)) := by
  refine F.ok sc__law_plus (fun vs H Q E h => ?_) (fun cdv A outer s H vs Q E hr h => ?_)
  · obtain ⟨_, _, _, _, _, _, rfl, _⟩ := h; rfl
  refine ⟨_, (pss_one (ps_ret (pe_fn F__law_lowest hr rfl (pa_cons (pe_op op_add (pe_op op_mulC (pe_ix (ixT K) (pv 0) pe_int (fun u v => rfl)) (pe_ix (ixT K) (pv 1) pe_int (fun u v => rfl))) (pe_op op_mulC (pe_ix (ixT K) (pv 1) pe_int (fun u v => rfl)) (pe_ix (ixT K) (pv 0) pe_int (fun u v => rfl)))) (pa_cons (pe_op op_mulC (pe_ix (ixT K) (pv 0) pe_int (fun u v => rfl)) (pe_ix (ixT K) (pv 1) pe_int (fun u v => rfl))) pa_nil))))), ?_⟩
  obtain ⟨x, y, p, q, m, n, rfl, ⟨r, rfl, hr⟩, ⟨u, rfl, hu⟩, hp, hq, hmn, k⟩ := h
  refine ⟨_, rfl, r, _, _, _, rfl, rfl, hr, rfl, _, rfl, u, _, _, _, rfl, rfl, hu, rfl, _, _, rfl, rfl, MulC.bd hp.1 hq.2, _, rfl, u, _, _, _, rfl, rfl, hu, rfl, _, rfl, r, _, _, _, rfl, rfl, hr, rfl, _, _, rfl, rfl, MulC.bd hq.1 hp.2, _, _, rfl, rfl, ?_⟩
  refine ⟨_, rfl, r, _, _, _, rfl, rfl, hr, rfl, _, rfl, u, _, _, _, rfl, rfl, hu, rfl, _, _, rfl, rfl, MulC.bd hp.2 hq.2, ?_⟩
  refine ⟨_, _, rfl, Int.mul_ne_zero (Nm.den_ne p) (Nm.den_ne q), fun z hz => ?_⟩
  have e := k z hz
  try dsimp only at e
  rw [← Nm.plus_eq] at e
  exact e
theorem sc__law_times : FnScope ["_law_a", "_law_b"] ["_law_a", "_law_b"] (defScope (top 38)) := ⟨rfl, rfl, rfl, by decide +kernel, rfl, by decide +kernel, by decide +kernel⟩
set_option maxHeartbeats 4000000 in
theorem ok__law_times {f : Addr} {fd : FuncData} (F : Fun K "_law_times" "_law_times" (top 38) f fd) (F__law_lowest : Fd P w K mg base 33 "_law_lowest" ["_law_top", "_law_bottom"] (spLow)) (hT : P.given.tree = none) :
    FnOk P w K mg base CX0 34 f fd ["_law_a", "_law_b"] (spBin K (· * ·)) := by
  refine F.ok sc__law_times (fun vs H Q E h => ?_) (fun cdv A outer s H vs Q E hr h => ?_)
  · obtain ⟨_, _, _, _, _, _, rfl, _⟩ := h; rfl
  refine ⟨_, (pss_one (ps_ret (pe_fn F__law_lowest hr rfl (pa_cons (pe_op op_mulC (pe_ix (ixT K) (pv 0) pe_int (fun u v => rfl)) (pe_ix (ixT K) (pv 1) pe_int (fun u v => rfl))) (pa_cons (pe_op op_mulC (pe_ix (ixT K) (pv 0) pe_int (fun u v => rfl)) (pe_ix (ixT K) (pv 1) pe_int (fun u v => rfl))) pa_nil))))), ?_⟩
  obtain ⟨x, y, p, q, m, n, rfl, ⟨r, rfl, hr⟩, ⟨u, rfl, hu⟩, hp, hq, hmn, k⟩ := h
  refine ⟨_, rfl, r, _, _, _, rfl, rfl, hr, rfl, _, rfl, u, _, _, _, rfl, rfl, hu, rfl, _, _, rfl, rfl, MulC.bd hp.1 hq.1, ?_⟩
  refine ⟨_, rfl, r, _, _, _, rfl, rfl, hr, rfl, _, rfl, u, _, _, _, rfl, rfl, hu, rfl, _, _, rfl, rfl, MulC.bd hp.2 hq.2, ?_⟩
  refine ⟨_, _, rfl, Int.mul_ne_zero (Nm.den_ne p) (Nm.den_ne q), fun z hz => ?_⟩
  have e := k z hz
  try dsimp only at e
  rw [← Nm.times_eq] at e
  exact e
theorem sc__law_product : FnScope ["_law_one", "_law_other", "_law_found", "_law_j", "_law_k"] ["_law_one", "_law_other"] (defScope (top 47)) := ⟨rfl, rfl, rfl, by decide +kernel, rfl, by decide +kernel, by decide +kernel⟩
set_option maxHeartbeats 4000000 in
theorem ok__law_product {f : Addr} {fd : FuncData} (F : Fun K "_law_product" "_law_product" (top 47) f fd) (F__law_plus : Fd P w K mg base 34 "_law_plus" ["_law_a", "_law_b"] (spBin K (· + ·))) (F__law_times : Fd P w K mg base 34 "_law_times" ["_law_a", "_law_b"] (spBin K (· * ·))) (b_range : mg "range" = none) (b_tuple : mg "tuple" = none) (b_len : mg "len" = none) (hT : P.given.tree = none) :
    FnOk P w K mg base CX0 35 f fd ["_law_one", "_law_other"] (spProdP K) := by
  refine F.ok sc__law_product (fun vs H Q E h => ?_) (fun cdv A outer s H vs Q E hr h => ?_)
  · obtain ⟨_, _, _, _, _, _, rfl, _⟩ := h; rfl
  refine ⟨_, (pss_consC (K := K) (ps_ifC (K := K) (PW.pt (pw_or (pt_cmpR (eqD K hr.units) (pv 0) (pe_tup pa_nil) (nomark _)) (pw_or1 (pt_cmpR (eqD K hr.units) (pv 1) (pe_tup pa_nil) (nomark _))))) (pss_one (ps_ret (pe_tup pa_nil))) pss_nil (by rfl) (by rfl))
    (pss_consC (K := K) (ps_set (i := 2) sc__law_product.nd rfl (Or.inl rfl) (pe_op op_rep (pe_lst (pa_cons (pe_tup (pa_cons pe_int (pa_cons pe_int pa_nil))) pa_nil)) (pe_op op_sub (pe_op op_add (pe_callB (lenK K) rfl b_len bt_len (pa_cons (pv 0) pa_nil)) (pe_callB (lenK K) rfl b_len bt_len (pa_cons (pv 1) pa_nil))) pe_int)))
    (pss_consC (K := K) (ps_forC (K := K) PassesOwn.never rfl (pi_range1 rfl b_range (pa_cons (pe_callB (lenK K) rfl b_len bt_len (pa_cons (pv 0) pa_nil)) pa_nil)) (pg_name (i := 3) sc__law_product.nd rfl (Or.inl rfl)) (pss_one (ps_forC (K := K) PassesOwn.never rfl (pi_range1 rfl b_range (pa_cons (pe_callB (lenK K) rfl b_len bt_len (pa_cons (pv 1) pa_nil)) pa_nil)) (pg_name (i := 4) sc__law_product.nd rfl (Or.inl rfl)) (pss_one (ps_asg (pe_fn F__law_plus hr rfl (pa_cons (pe_ix (ixL K) (pv 2) (pe_op op_add (pv 3) (pv 4)) (fun u v => rfl)) (pa_cons (pe_fn F__law_times hr rfl (pa_cons (pe_ix (ixT K) (pv 0) (pv 3) (fun u v => rfl)) (pa_cons (pe_ix (ixT K) (pv 1) (pv 4) (fun u v => rfl)) pa_nil))) pa_nil))) (pg_sub (pv 2) (pe_op op_add (pv 3) (pv 4)) set_list))) (by rfl))) (by rfl))
    (pss_one (ps_ret (pe_callTy (tupleK K) rfl b_tuple bt_tuple (pa_cons (pv 2) pa_nil)))) (by rfl)) (by rfl)) (by rfl)), ?_⟩
  obtain ⟨r, u, qs, ps, m, n, rfl, ⟨xs, hS, hn⟩, ⟨ys, hT', hm⟩, hB, hC, hmn, hq50, hp50, nq, np, q⟩ := h
  have P0 : 0 ≤ sizeLine := by decide
  have P1 : 1 ≤ sizeLine := by decide
  have P2 : 2 ≤ sizeLine := by decide
  have hl := hn.length
  have hly := hm.length
  have hq1 := List.length_pos_iff.mpr nq
  have hp1 := List.length_pos_iff.mpr np
  refine ⟨_, rfl, P0, fun e he => ?_⟩
  have sA : Same H (upd H e (.tup [])) := Same.new he
  refine eqT (ps := qs) (qs := []) ⟨xs, SqT.same hS sA, Nums.same hn sA⟩ ⟨[], SqT.of upd_same, .nil⟩ ?_
  refine ⟨_, rfl, iteFc (by rw [decide_eq_false nq] <;> rfl) ?_⟩
  refine ⟨_, rfl, P0, fun e2 he2 => ?_⟩
  have sB : Same H (upd (upd H e (.tup [])) e2 (.tup [])) := sA.trans (Same.new he2)
  refine eqT (ps := ps) (qs := []) ⟨ys, SqT.same hT' sB, Nums.same hm sB⟩ ⟨[], SqT.of upd_same, .nil⟩ ?_
  refine ⟨_, rfl, iteFc (by rw [decide_eq_false np] <;> rfl) ?_⟩
  generalize upd (upd H e (.tup [])) e2 (.tup []) = HH at sB ⊢
  replace hS := SqT.same hS sB
  replace hT' := SqT.same hT' sB
  replace hn := Nums.same hn sB
  replace hm := Nums.same hm sB
  refine ⟨P2, fun t ht => ⟨P1, fun o ho => ?_⟩⟩
  have s0 : Same HH (upd (upd HH t (.tup [.int 0, .int 1])) o (.lst [.ref t])) := (Same.new ht).trans (Same.new ho)
  have nt0 : NumV K (upd (upd HH t (.tup [.int 0, .int 1])) o (.lst [.ref t])) (.ref t) 0 := NumV.of ((Same.new ho) _ _ (upd_same (o := nT 0)))
  have eN : ((xs.length : Int) + (ys.length : Int) - 1).toNat = qs.length + ps.length - 1 := by lia
  refine ⟨_, rfl, r, xs, rfl, .inr (SqT.same hS s0), _, rfl, u, ys, rfl, .inr (SqT.same hT' s0), _, _, rfl, rfl, _, _, rfl, rfl, o, _, _, rfl, rfl, upd_same, by lia, by lia, ?_, fun fd hfd => ?_⟩
  · show 1 * ((xs.length : Int) + (ys.length : Int) - 1).toNat ≤ sizeLine
    rw [eN]; exact Nat.le_of_lt (small1000 (by lia))
  rw [eN]
  have s1 := s0.trans (Same.new (o := .lst (List.replicate (qs.length + ps.length - 1) [V.ref t]).flatten) hfd)
  have nz := Nums.same (rep_nums nt0 (qs.length + ps.length - 1)) (Same.new (o := .lst (List.replicate (qs.length + ps.length - 1) [V.ref t]).flatten) hfd)
  have hfH : HH fd = none := by
    cases z : HH fd with
    | none => rfl
    | some u => rw [s0 fd u z] at hfd; cases hfd
  have e1 : (upd (upd (upd HH t (.tup [.int 0, .int 1])) o (.lst [.ref t])) fd (.lst (List.replicate (qs.length + ps.length - 1) [V.ref t]).flatten)) fd = some (.lst (List.replicate (qs.length + ps.length - 1) [V.ref t]).flatten) := upd_same
  generalize upd (upd (upd HH t (.tup [.int 0, .int 1])) o (.lst [.ref t])) fd (.lst (List.replicate (qs.length + ps.length - 1) [V.ref t]).flatten) = H1 at s1 nz e1 ⊢
  refine ⟨_, rfl, r, xs, rfl, .inr (SqT.same hS s1), _, rfl, by lia, by lia, ?_⟩
  rw [Int.toNat_natCast, hl]
  refine for_range (n := qs.length) (L9 HH r u fd K qs ps m n fun HH r u fd K qs ps m n i σ H' => Same HH H' ∧ ∃ (zs : List V) (ms : List Rat) (z3 z4 : Option V), σ = [some (.ref r), some (.ref u), some (.ref fd), z3, z4] ∧ H' fd = some (.lst zs) ∧ Nums K H' zs ms ∧ ms.length = qs.length + ps.length - 1 ∧ (∀ x, Cv.ev ms x = Cv.ev (qs.take i) x * Cv.ev ps x) ∧ ∀ c ∈ ms, RB (i * (m + n + 1) + 1) c)
    ⟨s1, _, _, none, none, rfl, e1, nz, List.length_replicate, fun x => ?_, fun c hc => ?_⟩ ?_ ?_
  · rw [Cv.ev_zeros, List.take_zero]
    show (0 : Rat) = 0 * _
    grind
  · rw [(List.mem_replicate.mp hc).2]; exact RB.zero (by lia)
  · rintro i σ H' hi hR1
    refine anE2 hR1 fun sm hz7 => ?_
    refine exE4 hz7 fun zs ms z3 z4 hz7' => ?_
    clear hz7
    refine anE6 hz7' fun hq6 ef hnm hml hev hbm => ?_
    clear hz7'
    obtain rfl := hq6
    try clear hR1
    have hqi : qs[i]? = some qs[i] := List.getElem?_eq_getElem hi
    have hi1 : (i + 1) * (m + n + 1) = i * (m + n + 1) + m + n + 1 := by rw [Nat.add_mul]; lia
    have hiM : i * (m + n + 1) ≤ 50 * 100001 := Nat.mul_le_mul (by lia) (by lia)
    obtain ⟨xi, hxi, nxi⟩ := (Paired.get' hn hqi)
    refine ⟨_, rfl, u, ys, rfl, .inr (SqT.same hT' sm), _, rfl, by lia, by lia, ?_⟩
    rw [Int.toNat_natCast, hly]
    refine for_range (n := ps.length) (fun j σ H' => Same HH H' ∧ ∃ (zs : List V) (ms : List Rat) (z4 : Option V), σ = [some (.ref r), some (.ref u), some (.ref fd), some (.int (0 + (i : Int))), z4] ∧ H' fd = some (.lst zs) ∧ Nums K H' zs ms ∧ ms.length = qs.length + ps.length - 1 ∧ (∀ x, Cv.ev ms x = Cv.ev (qs.take i) x * Cv.ev ps x + qs[i] * x ^ i * Cv.ev (ps.take j) x) ∧ ∀ k c, ms[k]? = some c → RB (if k < i + j then (i + 1) * (m + n + 1) + 1 else i * (m + n + 1) + 1) c)
      ⟨sm, zs, ms, z4, rfl, ef, hnm, hml, fun x => ?_, fun k c hc => ?_⟩ ?_ ?_
    · rw [hev x, List.take_zero]
      show _ = _ + _ * (0 : Rat)
      grind
    · have := hbm c (List.mem_of_getElem? hc)
      split
      · exact this.mono (by lia)
      · exact this
    · rintro j σ H2 hj hR2
      refine anE2 hR2 fun sm2 hz9 => ?_
      refine exE3 hz9 fun zs2 ms2 z4' hz9' => ?_
      clear hz9
      refine anE6 hz9' fun hq8 ef2 hnm2 hml2 hev2 hbm2 => ?_
      clear hz9'
      obtain rfl := hq8
      try clear hR2
      have hpj : ps[j]? = some ps[j] := List.getElem?_eq_getElem hj
      obtain ⟨yj, hyj, nyj⟩ := (Paired.get' hm hpj)
      have hk : i + j < ms2.length := by lia
      have hmk : ms2[i + j]? = some ms2[i + j] := List.getElem?_eq_getElem hk
      obtain ⟨vk, hvk, nvk⟩ := (Paired.get' hnm2 hmk)
      have hzl := hnm2.length
      have bk := hbm2 _ _ hmk
      rw [if_neg (by lia)] at bk
      refine ⟨_, rfl, _, rfl, _, rfl, _, _, rfl, rfl, fd, _, _, vk, rfl, rfl, SqL.of ef2, atV hvk (by lia), _, rfl, _, rfl, r, xs, _, xi, rfl, rfl, SqT.same hS sm2, atV hxi (by lia), _, rfl, _, rfl, u, ys, _, yj, rfl, rfl, SqT.same hT' sm2, atV hyj (by lia), ?_⟩
      refine ⟨_, _, qs[i], ps[j], m, n, rfl, nxi.same sm2, nyj.same sm2, hB _ (List.getElem_mem hi), hC _ (List.getElem_mem hj), by lia, fun r1 hr1 => ?_⟩
      have s3 : Same H2 (upd H2 r1 (nT (qs[i] * ps[j]))) := Same.new hr1
      refine ⟨_, _, ms2[i + j], qs[i] * ps[j], _, m + n, rfl, nvk.same s3, NumV.of upd_same, bk, (hB _ (List.getElem_mem hi)).times (hC _ (List.getElem_mem hj)), by lia, fun r2 hr2 => ?_⟩
      have s4 := s3.trans (Same.new (o := nT (ms2[i + j] + qs[i] * ps[j])) hr2)
      have ef4 := s4 _ _ ef2
      refine ⟨_, rfl, _, rfl, _, rfl, _, _, rfl, rfl, fd, _, _, i + j, rfl, rfl, ef4, ixN_plus (by lia) (by lia), ?_⟩
      refine ⟨(sm2.trans s4).put hfH, _, ms2.set (i + j) (ms2[i + j] + qs[i] * ps[j]), _, rfl, upd_same, Paired.set (NumV.put (NumV.of upd_same) ef4) (i + j) (Nums.put (Nums.same hnm2 s4) ef4), by rw [List.length_set]; exact hml2, fun x => ?_, fun k c hc => ?_⟩
      · rw [Cv.ev_set x _ ms2 (i + j) _ hmk, hev2 x, ev_take_succ x ps j _ hpj, Nm.pow_add]
        grind
      · by_cases hk2 : k = i + j
        · subst hk2
          rw [List.getElem?_set_self hk] at hc
          cases hc
          rw [if_pos (by lia)]
          exact (bk.plus ((hB _ (List.getElem_mem hi)).times (hC _ (List.getElem_mem hj)))).mono (by lia)
        · rw [List.getElem?_set_ne (fun z => hk2 z.symm)] at hc
          have b1 := hbm2 k c hc
          split
          · split at b1
            · exact b1
            · exact b1.mono (by lia)
          · rw [if_neg (by lia)] at b1; exact b1
    · rintro σ H2 hR3
      refine anE2 hR3 fun sm2 hz11 => ?_
      refine exE3 hz11 fun zs2 ms2 z4' hz11' => ?_
      clear hz11
      refine anE6 hz11' fun hq10 ef2 hnm2 hml2 hev2 hbm2 => ?_
      clear hz11'
      obtain rfl := hq10
      try clear hR3
      refine ⟨sm2, zs2, ms2, _, _, rfl, ef2, hnm2, hml2, fun x => ?_, fun c hc => ?_⟩
      · rw [hev2 x, List.take_length, ev_take_succ x qs i _ hqi]
        grind
      · obtain ⟨k, hk⟩ := (List.getElem?_of_mem hc)
        have := hbm2 k c hk
        split at this <;> exact this.mono (by lia)
  rintro σ Hz hR4
  refine anE2 hR4 fun smz hz13 => ?_
  refine exE4 hz13 fun zs ms z3 z4 hz13' => ?_
  clear hz13
  refine anE6 hz13' fun hq12 efz hnz hml hev hbm => ?_
  clear hz13'
  obtain rfl := hq12
  try clear hR4
  rw [List.take_length] at hev
  have hzl := hnz.length
  
  refine ⟨_, rfl, fd, _, rfl, .inl ⟨SqL.of efz, fun rr hrr => ?_⟩⟩
  have sZ : Same Hz (upd Hz rr (.tup zs)) := Same.new hrr
  exact q rr _ ms ((sB.trans smz).trans sZ) ⟨zs, SqT.of upd_same, Nums.same hnz sZ⟩ hml hev hbm
theorem sc__law_minus : FnScope ["_law_a", "_law_b"] ["_law_a", "_law_b"] (defScope (top 37)) := ⟨rfl, rfl, rfl, by decide +kernel, rfl, by decide +kernel, by decide +kernel⟩
set_option maxHeartbeats 4000000 in
theorem ok__law_minus {f : Addr} {fd : FuncData} (F : Fun K "_law_minus" "_law_minus" (top 37) f fd) (F__law_lowest : Fd P w K mg base 33 "_law_lowest" ["_law_top", "_law_bottom"] (spLow)) (hT : P.given.tree = none) :
    FnOk P w K mg base CX0 34 f fd ["_law_a", "_law_b"] (spBin K (· - ·)) := by
  refine F.ok sc__law_minus (fun vs H Q E h => ?_) (fun cdv A outer s H vs Q E hr h => ?_)
  · obtain ⟨_, _, _, _, _, _, rfl, _⟩ := h; rfl
  refine ⟨_, (pss_one (ps_ret (pe_fn F__law_lowest hr rfl (pa_cons (pe_op op_sub (pe_op op_mulC (pe_ix (ixT K) (pv 0) pe_int (fun u v => rfl)) (pe_ix (ixT K) (pv 1) pe_int (fun u v => rfl))) (pe_op op_mulC (pe_ix (ixT K) (pv 1) pe_int (fun u v => rfl)) (pe_ix (ixT K) (pv 0) pe_int (fun u v => rfl)))) (pa_cons (pe_op op_mulC (pe_ix (ixT K) (pv 0) pe_int (fun u v => rfl)) (pe_ix (ixT K) (pv 1) pe_int (fun u v => rfl))) pa_nil))))), ?_⟩
  obtain ⟨x, y, p, q, m, n, rfl, ⟨r, rfl, hr⟩, ⟨u, rfl, hu⟩, hp, hq, hmn, k⟩ := h
  refine ⟨_, rfl, r, _, _, _, rfl, rfl, hr, rfl, _, rfl, u, _, _, _, rfl, rfl, hu, rfl, _, _, rfl, rfl, MulC.bd hp.1 hq.2, _, rfl, u, _, _, _, rfl, rfl, hu, rfl, _, rfl, r, _, _, _, rfl, rfl, hr, rfl, _, _, rfl, rfl, MulC.bd hq.1 hp.2, _, _, rfl, rfl, ?_⟩
  refine ⟨_, rfl, r, _, _, _, rfl, rfl, hr, rfl, _, rfl, u, _, _, _, rfl, rfl, hu, rfl, _, _, rfl, rfl, MulC.bd hp.2 hq.2, ?_⟩
  refine ⟨_, _, rfl, Int.mul_ne_zero (Nm.den_ne p) (Nm.den_ne q), fun z hz => ?_⟩
  have e := k z hz
  try dsimp only at e
  rw [← Nm.minus_eq] at e
  exact e
theorem sc__law_known : FnScope ["_law_pen_here", "_law_top", "_law_curve_here", "_law_lone", "_law_places", "_law_k", "_law_x", "_law_often", "_law_line", "_law_j", "_law_bow"] ["_law_pen_here"] (defScope (top 48)) := ⟨rfl, rfl, rfl, by decide +kernel, rfl, by decide +kernel, by decide +kernel⟩
set_option maxHeartbeats 4000000 in
theorem ok__law_known {f : Addr} {fd : FuncData} (F : Fun K "_law_known" "_law_known" (top 48) f fd) (F__law_number : Fd P w K mg base 34 "_law_number" ["_law_pen_here"] (spNum 8)) (F__law_draw : Fd P w K mg base 33 "_law_draw" ["_law_pen_here", "_law_many"] (spDraw)) (F__law_product : Fd P w K mg base 35 "_law_product" ["_law_one", "_law_other"] (spProdP K)) (F__law_lowest : Fd P w K mg base 33 "_law_lowest" ["_law_top", "_law_bottom"] (spLow)) (F__law_minus : Fd P w K mg base 34 "_law_minus" ["_law_a", "_law_b"] (spBin K (· - ·))) (b_range : mg "range" = none) (b_int : mg "int" = none) (b_len : mg "len" = none) (hT : P.given.tree = none) :
    FnOk P w K mg base CX0 36 f fd ["_law_pen_here"] (spKnown K) := by
  refine F.ok sc__law_known (fun vs H Q E h => ?_) (fun cdv A outer s H vs Q E hr h => ?_)
  · obtain ⟨_, rfl, _⟩ := h; rfl
  refine ⟨_, (pss_consC (K := K) (ps_set (i := 1) sc__law_known.nd rfl (Or.inl rfl) (pe_fn F__law_number hr rfl (pa_cons (pv 0) pa_nil)))
    (pss_consC (K := K) (ps_ifC (K := K) (pt_cmpR op_eq (pe_ix (ixT K) (pv 1) pe_int (fun u v => rfl)) pe_int (nomark _)) (pss_one (ps_set (i := 1) sc__law_known.nd rfl (Or.inl rfl) (pe_tup (pa_cons pe_int (pa_cons (pe_op op_add pe_int (pe_fn F__law_draw hr rfl (pa_cons (pv 0) (pa_cons pe_int pa_nil)))) pa_nil))))) pss_nil (by rfl) (by rfl))
    (pss_consC (K := K) (ps_set (i := 2) sc__law_known.nd rfl (Or.inl rfl) (pe_tup (pa_cons (pv 1) pa_nil)))
    (pss_consC (K := K) (ps_set (i := 3) sc__law_known.nd rfl (Or.inl rfl) (pe_tup (pa_cons (pv 1) pa_nil)))
    (pss_consC (K := K) (ps_set (i := 4) sc__law_known.nd rfl (Or.inl rfl) pe_dnewT)
    (pss_consC (K := K) (ps_forC (K := K) PassesOwn.never rfl (pi_range1 rfl b_range (pa_cons (pe_fn F__law_draw hr rfl (pa_cons (pv 0) (pa_cons pe_int pa_nil))) pa_nil)) (pg_name (i := 5) sc__law_known.nd rfl (Or.inl rfl)) (pss_consC (K := K) (ps_set (i := 6) sc__law_known.nd rfl (Or.inl rfl) (pe_ix (ixL K) (pe_lst (pa_cons (pe_fn F__law_lowest hr rfl (pa_cons (pe_op op_sub (pe_fn F__law_draw hr rfl (pa_cons (pv 0) (pa_cons pe_int pa_nil))) pe_int) (pa_cons pe_int pa_nil))) (pa_cons (pe_fn F__law_number hr rfl (pa_cons (pv 0) pa_nil)) pa_nil))) (pe_callTy call_int1 rfl b_int bt_int (pa_cons (pe_cmpR op_eq (pe_fn F__law_draw hr rfl (pa_cons (pv 0) (pa_cons pe_int pa_nil))) pe_int (nomark _)) pa_nil)) (fun u v => rfl)))
    (pss_consC (K := K) (ps_set (i := 7) sc__law_known.nd rfl (Or.inl rfl) (pe_op op_add pe_int (pe_fn F__law_draw hr rfl (pa_cons (pv 0) (pa_cons pe_int pa_nil)))))
    (pss_one (ps_ifC (K := K) (PW.pt (pw_and (pt_cmp (pc_dnotin hr.units1 (pv 6) (pv 4)) (by with_unfolding_all rfl)) (pw_and1 (pt_cmpR op_lt (pe_op op_add (pe_callB (lenK K) rfl b_len bt_len (pa_cons (pv 2) pa_nil)) (pv 7)) pe_int (nomark _))))) (pss_consC (K := K) (ps_dput hr.units1 (pv 4) (pv 6) (pv 7) rfl)
    (pss_consC (K := K) (ps_set (i := 8) sc__law_known.nd rfl (Or.inl rfl) (pe_tup (pa_cons (pe_fn F__law_minus hr rfl (pa_cons (pe_tup (pa_cons pe_int (pa_cons pe_int pa_nil))) (pa_cons (pv 6) pa_nil))) (pa_cons (pe_tup (pa_cons pe_int (pa_cons pe_int pa_nil))) pa_nil))))
    (pss_consC (K := K) (ps_set (i := 3) sc__law_known.nd rfl (Or.inl rfl) (pe_fn F__law_product hr rfl (pa_cons (pv 3) (pa_cons (pv 8) pa_nil))))
    (pss_one (ps_forC (K := K) PassesOwn.never rfl (pi_range1 rfl b_range (pa_cons (pv 7) pa_nil)) (pg_name (i := 9) sc__law_known.nd rfl (Or.inl rfl)) (pss_one (ps_set (i := 2) sc__law_known.nd rfl (Or.inl rfl) (pe_fn F__law_product hr rfl (pa_cons (pv 2) (pa_cons (pv 8) pa_nil))))) (by rfl))) (by rfl)) (by rfl)) (by rfl)) pss_nil (by rfl) (by rfl))) (by rfl)) (by rfl)) (by rfl))
    (pss_consC (K := K) (ps_set (i := 7) sc__law_known.nd rfl (Or.inl rfl) (pe_fn F__law_draw hr rfl (pa_cons (pv 0) (pa_cons pe_int pa_nil))))
    (pss_consC (K := K) (ps_ifC (K := K) (PW.pt (pw_and (pt_cmpR op_gt (pv 7) pe_int (nomark _)) (pw_and1 (pt_cmpR op_lt (pe_op op_add (pe_callB (lenK K) rfl b_len bt_len (pa_cons (pv 2) pa_nil)) (pe_op op_mulC pe_int (pv 7))) pe_int (nomark _))))) (pss_consC (K := K) (ps_set (i := 10) sc__law_known.nd rfl (Or.inl rfl) (pe_tup (pa_cons (pe_tup (pa_cons (pe_op op_add pe_int (pe_fn F__law_draw hr rfl (pa_cons (pv 0) (pa_cons pe_int pa_nil)))) (pa_cons pe_int pa_nil))) (pa_cons (pe_tup (pa_cons (pe_op op_sub (pe_fn F__law_draw hr rfl (pa_cons (pv 0) (pa_cons pe_int pa_nil))) pe_int) (pa_cons pe_int pa_nil))) (pa_cons (pe_tup (pa_cons pe_int (pa_cons pe_int pa_nil))) pa_nil)))))
    (pss_consC (K := K) (ps_set (i := 3) sc__law_known.nd rfl (Or.inl rfl) (pe_fn F__law_product hr rfl (pa_cons (pv 3) (pa_cons (pv 10) pa_nil))))
    (pss_one (ps_forC (K := K) PassesOwn.never rfl (pi_range1 rfl b_range (pa_cons (pv 7) pa_nil)) (pg_name (i := 9) sc__law_known.nd rfl (Or.inl rfl)) (pss_one (ps_set (i := 2) sc__law_known.nd rfl (Or.inl rfl) (pe_fn F__law_product hr rfl (pa_cons (pv 2) (pa_cons (pv 10) pa_nil))))) (by rfl))) (by rfl)) (by rfl)) pss_nil (by rfl) (by rfl))
    (pss_one (ps_ret (pe_tup (pa_cons (pv 2) (pa_cons (pv 4) (pa_cons (pv 3) pa_nil)))))) (by rfl)) (by rfl)) (by rfl)) (by rfl)) (by rfl)) (by rfl)) (by rfl)) (by rfl)), ?_⟩
  obtain ⟨a, rfl, pn, q⟩ := h
  have P1 : 1 ≤ sizeLine := by decide
  have P2 : 2 ≤ sizeLine := by decide
  have P3 : 3 ≤ sizeLine := by decide
  have o1 : HO.tup [.int 1, .int 1] = nT 1 := rfl
  refine ⟨_, rfl, a, rfl, pn, fun t0 r0 H1 m1 p1 hr0 bn bd => ?_⟩
  try dsimp only
  refine seq_joinN (L2 a H fun a H σ' G => ∃ (rt : Addr) (t : Rat), σ' = [some (.ref a), some (.ref rt), none, none, none, none, none, none, none, none, none] ∧ Mv a H G ∧ Pen G a ∧ G rt = some (nT t) ∧ t ≠ 0 ∧ RB 8 t) (fun nx hnx => ?_) ?_
  · refine ⟨_, rfl, r0, _, _, .int t0.num, rfl, rfl, SqT.of hr0, atI_nat (j := 0) rfl, rfl, _, rfl, ?_⟩
    by_cases hz : t0.num = 0
    · refine iteTc (by rw [decide_eq_true (show V.int t0.num = V.int 0 by rw [hz])] <;> rfl) ⟨_, rfl, a, 9, rfl, p1, by decide, by decide, fun e H2 e0 e1 o2 p2 => ⟨_, _, rfl, rfl, P2, fun rt ht => ?_⟩⟩
      have b0 : 0 < 1 + e := by lia
      exact hnx _ _ ⟨rt, inv1 (1 + e), rfl, (m1.trans o2.mv).trans (Mv.new ht), p2.same ht, by rw [upd_same, inv1_nT b0], inv1_ne b0, inv1_rb b0 (by unfold Bd; lia)⟩
    · exact iteFc (by rw [decide_eq_false (show ¬ V.int t0.num = V.int 0 from fun z => hz (V.int.inj z))] <;> rfl) (hnx _ _ ⟨r0, t0, rfl, m1, p1, hr0, fun z => hz (by rw [z]; rfl), bn, bd⟩)
  clear hr0 bn bd m1 p1 pn
  rintro σ' G hR1
  refine exE2 hR1 fun rt t hz15' => ?_
  refine anE6 hz15' fun hq14 m1 p1 hrt ht0 bt => ?_
  clear hz15'
  obtain rfl := hq14
  try clear hR1
  refine ⟨_, rfl, P1, fun rc hc => ⟨_, rfl, P1, fun rl hl => fun d hd => ?_⟩⟩
  have sB := (Same.new (o := .tup [.ref rt]) hc).trans (Same.new (o := .tup [.ref rt]) hl)
  have sA := sB.trans (Same.new (o := .dT []) hd)
  have dA : d ≠ a := (p1.sm sB).ne' hd
  have hHd : H d = none := (m1.trans sB.mv).free dA hd
  have nt : Nums K (upd (upd (upd G rc (.tup [.ref rt])) rl (.tup [.ref rt])) d (.dT [])) [.ref rt] [t] := .cons (NumV.of (sA _ _ hrt)) .nil
  have k0 : K39 K a d H (upd (upd (upd G rc (.tup [.ref rt])) rl (.tup [.ref rt])) d (.dT [])) rc rl [t] [t] [] [] := ⟨m1.trans sA.mv, p1.sm sA, ⟨_, SqT.of ((Same.new hd) _ _ ((Same.new hl) _ _ upd_same)), nt⟩, ⟨_, SqT.of ((Same.new hd) _ _ upd_same), nt⟩, upd_same, rfl⟩
  generalize upd (upd (upd G rc (.tup [.ref rt])) rl (.tup [.ref rt])) d (.dT []) = G1 at k0 ⊢
  clear hc hl hd sA sB nt hrt m1 p1
  refine ⟨_, rfl, a, 4, rfl, k0.pn, by decide, by decide, fun w G2 w0 w1 o2 p2 => ?_⟩
  replace k0 := k0.go o2.mv p2
  obtain ⟨N, rfl⟩ : ∃ N : Nat, w = (N : Int) := ⟨w.toNat, by lia⟩
  refine ⟨_, rfl, by lia, by lia, ?_⟩
  rw [Int.toNat_natCast]
  clear o2 p2
  refine for_range (n := N) (L5 a rt d K H fun a rt d K H i σ G => ∃ (c l : Addr) (fs ls xs : List Rat) (kvs : List (List Key × V)) (z5 z6 z7 z8 z9 : Option V), σ = [some (.ref a), some (.ref rt), some (.ref c), some (.ref l), some (.ref d), z5, z6, z7, z8, z9, none] ∧ K39 K a d H G c l fs ls xs kvs ∧ kvs.length ≤ i ∧ KnI fs ls xs) ⟨rc, rl, [t], [t], [], [], none, none, none, none, none, rfl, k0, Nat.le_refl _, KnI.start ht0 bt⟩ ?_ ?_
  · rintro i σ G hi hR2
    refine exE11 hR2 fun c l fs ls xs kvs z5 z6 z7 z8 z9 hz17' => ?_
    refine anE4 hz17' fun hq16 k kl kn => ?_
    clear hz17'
    obtain rfl := hq16
    try clear hR2
    refine ⟨_, rfl, a, 17, rfl, k.pn, by decide, by decide, fun e G1 e0 e1 o1 p1 => ⟨_, _, rfl, rfl, _, _, rfl, by decide, fun r1 hr1 => ?_⟩⟩
    have er1 := upd_same (H := G1) (a := r1) (o := nT (Rat.divInt (e - 8) 4))
    have b1 : RB 8 (Rat.divInt (e - 8) 4) := RB.div (m := 0) (by unfold Bd; lia) (by unfold Bd; decide) (by decide)
    replace k := (k.go o1.mv p1).on (Same.new (o := nT (Rat.divInt (e - 8) 4)) hr1)
    generalize upd G1 r1 (nT (Rat.divInt (e - 8) 4)) = G2 at k er1 ⊢
    generalize Rat.divInt (e - 8) 4 = y1 at er1 b1
    refine ⟨_, rfl, a, rfl, k.pn, fun y2 r2 G3 m3 p3 er2 bn bd => ?_⟩
    replace er1 := nT_mv er1 k.pn m3
    replace k := k.go m3 p3
    refine ⟨P2, fun li hli => ?_⟩
    have sL := Same.new (o := .lst [.ref r1, .ref r2]) hli
    have eli := upd_same (H := G3) (a := li) (o := .lst [.ref r1, .ref r2])
    replace k := k.on sL
    replace er1 := sL _ _ er1
    replace er2 := sL _ _ er2
    generalize upd G3 li (.lst [.ref r1, .ref r2]) = G4 at k er1 er2 eli ⊢
    clear sL hli m3 p3 o1 p1 hr1
    refine ⟨_, rfl, a, 3, rfl, k.pn, by decide, by decide, fun v G5 v0 v1 o5 p5 => ⟨rfl, .inr ⟨_, rfl, ?_⟩⟩⟩
    have key : ∃ rx o, atI [V.ref r1, V.ref r2] (if decide (V.int v = V.int 0) = true then 1 else 0) = some (.ref rx) ∧ G5 rx = some (nT o) ∧ RB 8 o := by
      by_cases hv : v = 0
      · rw [decide_eq_true (show V.int v = V.int 0 by rw [hv])]
        exact ⟨r2, y2, rfl, nT_mv er2 k.pn o5.mv, bn, bd⟩
      · rw [decide_eq_false (show ¬ V.int v = V.int 0 from fun z => hv (V.int.inj z))]
        exact ⟨r1, y1, rfl, nT_mv er1 k.pn o5.mv, b1⟩
    refine exE2 key fun rx o hz18' => ?_
    refine anE3 hz18' fun hat erx bo => ?_
    clear hz18'
    replace eli := o5.mv _ _ (k.pn.ne eli fun _ _ _ z => by cases z) eli
    replace k := k.go o5.mv p5
    clear o5 p5 er1 er2 bn bd b1
    refine ⟨li, _, _, _, rfl, rfl, SqL.of eli, hat, ?_⟩
    refine ⟨_, rfl, a, 3, rfl, k.pn, by decide, by decide, fun u G6 u0 u1 o6 p6 => ⟨_, _, rfl, rfl, ?_⟩⟩
    replace erx := nT_mv erx k.pn o6.mv
    replace k := k.go o6.mv p6
    clear eli hat o6 p6
    obtain ⟨m, hm⟩ : ∃ m : Nat, u = (m : Int) := ⟨u.toNat, by lia⟩
    subst hm
    refine ⟨_, rfl, _, rfl, d, _, rfl, DGet.t (k := kQ o) k.dd erx, _, rfl, ?_⟩
    cases hv : valV kvs (kQ o) with
    | some _ => exact iteF (iteF ⟨c, l, fs, ls, xs, kvs, _, _, _, _, _, rfl, k, by lia, kn⟩)
    | none =>
    have ho : o ∉ xs := val_not k.ks hv
    obtain ⟨cv, hcS, hcN⟩ := (id k.cc)
    have hcl := hcN.length
    refine iteT ⟨_, rfl, c, _, rfl, .inr hcS, _, rfl, _, _, rfl, rfl, _, _, rfl, rfl, _, rfl, ?_⟩
    refine ite2 (fun c6 => ?_) (fun _ => ⟨c, l, fs, ls, xs, kvs, _, _, _, _, _, rfl, k, by lia, kn⟩)
    have c6 := of_decide_eq_true c6
    have kf := kn.k
    have f1 := List.length_pos_iff.mpr kf.nf
    have l1 := List.length_pos_iff.mpr kf.nl
    have hle := kf.le
    refine ⟨_, rfl, _, rfl, _, rfl, d, _, rfl, DPut.t (k := kQ o) k.dd erx (Nat.lt_of_lt_of_le (show kvs.length < 300 by lia) (by decide)), ?_⟩
    have kl' : (putK kvs (kQ o) (V.int (1 + (m : Int)))).length ≤ i + 1 := Nat.le_trans (length_putK _ _ _) (by lia)
    have erx' : (upd G6 d (.dT (putK kvs (kQ o) (V.int (1 + (m : Int)))))) rx = some (nT o) := by rw [upd_ne (ne_of erx k.dd fun z => by cases z)]; exact erx
    replace k := k.put (v := V.int (1 + (m : Int))) hHd hv
    generalize putK kvs (kQ o) (V.int (1 + (m : Int))) = kvs' at k kl' erx' ⊢
    generalize upd G6 d (.dT kvs') = G7 at k erx' ⊢
    clear erx hv kl hcS hcN
    refine ⟨P2, fun t1 ht1 => ⟨_, rfl, _, _, 0, o, 1, 8, rfl, NumV.of (upd_same (o := nT 0)), NumV.of ((Same.new ht1) _ _ erx'), RB.zero (by decide), bo, by decide, fun t2 ht2 => ⟨P2, fun t3 ht3 => ⟨P2, fun t4 ht4 => ?_⟩⟩⟩⟩
    have sA : Same G7 (upd (upd (upd (upd G7 t1 (.tup [.int 0, .int 1])) t2 (nT (0 - o))) t3 (.tup [.int 1, .int 1])) t4 (.tup [.ref t2, .ref t3])) := (((Same.new ht1).trans (Same.new ht2)).trans (Same.new ht3)).trans (Same.new ht4)
    have cL : Crv K (upd (upd (upd (upd G7 t1 (.tup [.int 0, .int 1])) t2 (nT (0 - o))) t3 (.tup [.int 1, .int 1])) t4 (.tup [.ref t2, .ref t3])) t4 [-o, 1] := ⟨_, SqT.of upd_same, .cons (NumV.of ((Same.new (o := .tup [.ref t2, .ref t3]) ht4) _ _ ((Same.new (o := nT 1) ht3) _ _ (by rw [upd_same, show (0 : Rat) - o = -o by grind])))) (.cons (NumV.of ((Same.new (o := .tup [.ref t2, .ref t3]) ht4) _ _ upd_same)) .nil)⟩
    generalize upd (upd (upd (upd G7 t1 (.tup [.int 0, .int 1])) t2 (nT (0 - o))) t3 (.tup [.int 1, .int 1])) t4 (.tup [.ref t2, .ref t3]) = G8 at sA cL ⊢
    replace k := k.on sA
    have bL : ∀ q ∈ [-o, 1], RB 8 q := fun q hq => by
      rcases List.mem_cons.mp hq with z | z
      · rw [z]; exact rb_neg bo
      · rw [List.mem_singleton.mp z]; exact RB.one (by decide)
    clear sA ht1 ht2 ht3 ht4 erx'
    have n1 : ([-o, 1] : List Rat) ≠ [] := fun z => by cases z
    have lbl := lb_le ls.length
    refine ⟨_, rfl, _, rfl, l, t4, ls, [-o, 1], lb ls.length, 8, rfl, k.cl, cL, kf.bl, bL, by lia, by lia, (by decide : 2 ≤ 50), kf.nl, n1, fun rm G9 ms s9 cms lms ems bms => ?_⟩
    replace lms : ms.length = ls.length + 1 := lms
    replace cL := cL.same s9
    replace k : K39 K a d H G9 c rm fs ms (xs ++ [o]) kvs' := let w := k.on s9; ⟨w.mv, w.pn, w.cc, cms, w.dd, w.ks⟩
    have bms' : ∀ q ∈ ms, RB (lb ms.length) q := fun q hq => by
      rw [lms]
      exact (bms q hq).mono (lb_line _ (by lia) (by lia))
    clear bms cms s9
    refine ⟨_, rfl, ((m + 1 : Nat) : Int), by rw [show ((m + 1 : Nat) : Int) = 1 + (m : Int) by lia], by lia, by lia, ?_⟩
    rw [Int.toNat_natCast]
    refine for_range (n := m + 1) (L12 a rt rm d i rx m t4 G9 K fs o fun a rt rm d i rx m t4 G9 K fs o j σ G => ∃ (c' : Addr) (gs : List Rat) (z9 : Option V), σ = [some (.ref a), some (.ref rt), some (.ref c'), some (.ref rm), some (.ref d), some (.int (0 + (i : Int))), some (.ref rx), some (.int (1 + (m : Int))), some (.ref t4), z9, none] ∧ Same G9 G ∧ Crv K G c' gs ∧ (∀ x, Cv.ev gs x = Cv.ev fs x * Cv.ev (pw [-o, 1] j) x) ∧ gs.length = fs.length + j ∧ ∀ q ∈ gs, RB (lb gs.length) q) ⟨c, fs, z9, rfl, Same.refl _, k.cc, fun x => by show _ = _ * ((1 : Rat) + x * 0); grind, rfl, kf.bf⟩ ?_ ?_
    · rintro j σ G hj hR3
      refine exE3 hR3 fun c' gs z9' hz20' => ?_
      refine anE6 hz20' fun hq19 sj cg eg lg bg => ?_
      clear hz20'
      obtain rfl := hq19
      try clear hR3
      have lbg := lb_le gs.length
      refine ⟨_, rfl, _, rfl, c', t4, gs, [-o, 1], lb gs.length, 8, rfl, cg, cL.same sj, bg, bL, by lia, by lia, (by decide : 2 ≤ 50), List.length_pos_iff.mp (by lia), n1, fun rm' Ga ms' sa cms' lms' ems' bms'' => ?_⟩
      replace lms' : ms'.length = gs.length + 1 := lms'
      refine ⟨rm', ms', _, rfl, sj.trans sa, cms', fun x => ?_, by lia, fun q hq => ?_⟩
      · rw [ems', eg, ev_pw]; grind
      · rw [lms']
        exact (bms'' q hq).mono (lb_line _ (by lia) (by lia))
    · rintro σ G hR4
      refine exE3 hR4 fun c' gs z9' hz22' => ?_
      refine anE6 hz22' fun hq21 sj cg eg lg bg => ?_
      clear hz22'
      obtain rfl := hq21
      try clear hR4
      refine ⟨c', rm, gs, ms, xs ++ [o], kvs', _, _, _, _, _, rfl, let w := k.on sj; ⟨w.mv, w.pn, cg, w.cl, w.dd, w.ks⟩, kl', kn.line ho bo m eg lg ems lms (by lia) bg bms'⟩
  rintro σ G hR5
  refine exE11 hR5 fun c l fs ls xs kvs z5 z6 z7 z8 z9 hz24' => ?_
  refine anE4 hz24' fun hq23 k kl kn => ?_
  clear hz24'
  obtain rfl := hq23
  try clear hR5
  refine ⟨_, rfl, a, 3, rfl, k.pn, by decide, by decide, fun u G1 u0 u1 o1 p1 => ?_⟩
  replace k := k.go o1.mv p1
  clear o1 p1
  obtain ⟨m, hm⟩ : ∃ m : Nat, u = (m : Int) := ⟨u.toNat, by lia⟩
  subst hm
  have kf := kn.k
  have f1 := List.length_pos_iff.mpr kf.nf
  have l1 := List.length_pos_iff.mpr kf.nl
  have hle := kf.le
  try dsimp only
  refine seq_joinN (L7 a rt d K H xs kvs fun a rt d K H xs kvs σ' G => ∃ (c l : Addr) (fs ls : List Rat) (y5 y6 y7 y8 y9 y10 : Option V), σ' = [some (.ref a), some (.ref rt), some (.ref c), some (.ref l), some (.ref d), y5, y6, y7, y8, y9, y10] ∧ K39 K a d H G c l fs ls xs kvs ∧ KnF fs ls xs) (fun nx hnx => ?_) ?_
  rotate_left
  · rintro σ' G hR6
    refine exE10 hR6 fun c l fs ls y5 y6 y7 y8 y9 y10 hz26' => ?_
    refine anE3 hz26' fun hq25 k kf => ?_
    clear hz26'
    obtain rfl := hq25
    try clear hR6
    refine ⟨_, rfl, _, rfl, _, rfl, P3, fun p hp => ?_⟩
    replace k := k.on (Same.new (o := .tup [.ref c, .ref d, .ref l]) hp)
    exact q p c d l _ fs ls xs kvs k.mv k.pn upd_same k.cc k.cl hHd k.dd k.ks kf
  obtain ⟨cv, hcS, hcN⟩ := (id k.cc)
  have hcl := hcN.length
  refine ⟨_, rfl, _, _, rfl, rfl, _, rfl, ?_⟩
  by_cases hm : 0 < (m : Int)
  rotate_left
  · exact iteFc (by rw [decide_eq_false hm] <;> rfl) (iteF (hnx _ _ ⟨c, l, fs, ls, _, _, _, _, _, _, rfl, k, kf⟩))
  refine iteTc (by rw [decide_eq_true hm] <;> rfl) ⟨_, rfl, c, _, rfl, .inr hcS, _, rfl, _, _, rfl, rfl, .inl ⟨by decide, by decide⟩, _, _, rfl, rfl, _, _, rfl, rfl, _, rfl, ?_⟩
  refine ite2 (fun c6 => ?_) (fun _ => hnx _ _ ⟨c, l, fs, ls, _, _, _, _, _, _, rfl, k, kf⟩)
  have c6 := of_decide_eq_true c6
  clear hcS hcN
  obtain ⟨m, rfl⟩ : ∃ m' : Nat, m = m' + 1 := ⟨m - 1, by lia⟩
  refine ⟨_, rfl, a, 3, rfl, k.pn, by decide, by decide, fun v G2 v0 v1 o2 p2 => ⟨_, _, rfl, rfl, P2, fun t1 ht1 => ?_⟩⟩
  replace k := (k.go o2.mv p2).on (Same.new (o := .tup [.int (1 + v), .int 1]) ht1)
  have e1 : (upd G2 t1 (.tup [.int (1 + v), .int 1])) t1 = some (nT ((1 + v : Int) : Rat)) := by rw [upd_same, nT_int]
  generalize upd G2 t1 (.tup [.int (1 + v), .int 1]) = G3 at k e1 ⊢
  refine ⟨_, rfl, a, 3, rfl, k.pn, by decide, by decide, fun y G4 y0 y1 o4 p4 => ⟨_, _, rfl, rfl, P2, fun t2 ht2 => ⟨P2, fun t3 ht3 => ⟨P3, fun t4 ht4 => ?_⟩⟩⟩⟩
  replace e1 := nT_mv e1 k.pn o4.mv
  replace k := k.go o4.mv p4
  have sA : Same G4 (upd (upd (upd G4 t2 (.tup [.int (y - 1), .int 1])) t3 (.tup [.int 1, .int 1])) t4 (.tup [.ref t1, .ref t2, .ref t3])) := ((Same.new ht2).trans (Same.new ht3)).trans (Same.new ht4)
  have cL : Crv K (upd (upd (upd G4 t2 (.tup [.int (y - 1), .int 1])) t3 (.tup [.int 1, .int 1])) t4 (.tup [.ref t1, .ref t2, .ref t3])) t4 [((1 + v : Int) : Rat), ((y - 1 : Int) : Rat), 1] := ⟨_, SqT.of upd_same, .cons (NumV.of (sA _ _ e1)) (.cons (NumV.of ((Same.new ht4) _ _ ((Same.new ht3) _ _ (by rw [upd_same, nT_int])))) (.cons (NumV.of ((Same.new (o := .tup [.ref t1, .ref t2, .ref t3]) ht4) _ _ upd_same)) .nil))⟩
  generalize upd (upd (upd G4 t2 (.tup [.int (y - 1), .int 1])) t3 (.tup [.int 1, .int 1])) t4 (.tup [.ref t1, .ref t2, .ref t3]) = G5 at sA cL ⊢
  replace k := k.on sA
  clear sA ht1 ht2 ht3 ht4 e1 o2 p2 o4 p4
  have hbc : ((y - 1 : Int) : Rat) * ((y - 1 : Int) : Rat) < 4 * ((1 + v : Int) : Rat) := by
    rw [← Rat.intCast_mul, show (4 : Rat) = ((4 : Int) : Rat) from rfl, ← Rat.intCast_mul, Rat.intCast_lt_intCast]
    have hy : y = 0 ∨ y = 1 ∨ y = 2 := by lia
    rcases hy with z | z | z <;> (rw [z]; lia)
  have bL : ∀ q ∈ [((1 + v : Int) : Rat), ((y - 1 : Int) : Rat), 1], RB 8 q := fun q hq => by
    rcases List.mem_cons.mp hq with z | z
    · rw [z]; exact ⟨by rw [Rat.num_intCast]; unfold Bd; lia, by rw [Rat.den_intCast]; unfold Bd; decide⟩
    rcases List.mem_cons.mp z with z | z
    · rw [z]; exact ⟨by rw [Rat.num_intCast]; unfold Bd; lia, by rw [Rat.den_intCast]; unfold Bd; decide⟩
    · rw [List.mem_singleton.mp z]; exact RB.one (by decide)
  generalize ((1 + v : Int) : Rat) = cc at cL hbc bL
  generalize ((y - 1 : Int) : Rat) = bb at cL hbc bL
  have n1 : ([cc, bb, 1] : List Rat) ≠ [] := fun z => by cases z
  have lbl := lb_le ls.length
  have l5 : fs.length + 2 * (m + 1) < 6 := by lia
  refine ⟨_, rfl, _, rfl, l, t4, ls, [cc, bb, 1], lb ls.length, 8, rfl, k.cl, cL, kf.bl, bL, by lia, by lia, (by decide : 3 ≤ 50), kf.nl, n1, fun rm G9 ms s9 cms lms ems bms => ?_⟩
  replace lms : ms.length = ls.length + 2 := lms
  replace cL := cL.same s9
  replace k : K39 K a d H G9 c rm fs ms xs kvs := let w := k.on s9; ⟨w.mv, w.pn, w.cc, cms, w.dd, w.ks⟩
  have bms' : ∀ q ∈ ms, RB (lb ms.length) q := fun q hq => by
    rw [lms]
    exact (bms q hq).mono (lb_bow _ (by lia) (by lia))
  clear bms cms s9
  refine ⟨_, rfl, ((m + 1 : Nat) : Int), rfl, by lia, by lia, ?_⟩
  rw [Int.toNat_natCast]
  refine for_range (n := m + 1) (L14 a rt rm d z5 z6 m z8 t4 G9 K fs cc bb fun a rt rm d z5 z6 m z8 t4 G9 K fs cc bb j σ G => ∃ (c' : Addr) (gs : List Rat) (w9 : Option V), σ = [some (.ref a), some (.ref rt), some (.ref c'), some (.ref rm), some (.ref d), z5, z6, some (.int ((m + 1 : Nat) : Int)), z8, w9, some (.ref t4)] ∧ Same G9 G ∧ Crv K G c' gs ∧ (∀ x, Cv.ev gs x = Cv.ev fs x * Cv.ev (pw [cc, bb, 1] j) x) ∧ gs.length = fs.length + j * 2 ∧ ∀ q ∈ gs, RB (lb gs.length) q) ⟨c, fs, z9, rfl, Same.refl _, k.cc, fun x => by show _ = _ * ((1 : Rat) + x * 0); grind, rfl, kf.bf⟩ ?_ ?_
  · rintro j σ G hj hR7
    refine exE3 hR7 fun c' gs z9' hz28' => ?_
    refine anE6 hz28' fun hq27 sj cg eg lg bg => ?_
    clear hz28'
    obtain rfl := hq27
    try clear hR7
    have lbg := lb_le gs.length
    refine ⟨_, rfl, _, rfl, c', t4, gs, [cc, bb, 1], lb gs.length, 8, rfl, cg, cL.same sj, bg, bL, by lia, by lia, (by decide : 3 ≤ 50), List.length_pos_iff.mp (by lia), n1, fun rm' Ga ms' sa cms' lms' ems' bms'' => ?_⟩
    replace lms' : ms'.length = gs.length + 2 := lms'
    refine ⟨rm', ms', _, rfl, sj.trans sa, cms', fun x => ?_, by lia, fun q hq => ?_⟩
    · rw [ems', eg, ev_pw]; grind
    · rw [lms']
      exact (bms'' q hq).mono (lb_bow _ (by lia) (by lia))
  · rintro σ G hR8
    refine exE3 hR8 fun c' gs z9' hz30' => ?_
    refine anE6 hz30' fun hq29 sj cg eg lg bg => ?_
    clear hz30'
    obtain rfl := hq29
    try clear hR8
    exact hnx _ _ ⟨c', rm, gs, ms, _, _, _, _, _, _, rfl, let w := k.on sj; ⟨w.mv, w.pn, cg, w.cl, w.dd, w.ks⟩, kn.bow hbc m eg lg ems lms (by lia) bg bms'⟩
theorem sc_common_measure : FnScope ["one", "other", "great", "small", "rest"] ["one", "other"] (defScope (top 13)) := ⟨rfl, rfl, rfl, by decide +kernel, rfl, by decide +kernel, by decide +kernel⟩
set_option maxHeartbeats 4000000 in
theorem ok_common_measure {f : Addr} {fd : FuncData} (F : Fun K "common_measure" "common_measure" (top 13) f fd) (b_abs : mg "abs" = none) (hT : P.given.tree = none) :
    FnOk P w K mg base CX0 33 f fd ["one", "other"] (spGcd) := by
  refine F.ok sc_common_measure (fun vs H Q E h => ?_) (fun cdv A outer s H vs Q E hr h => ?_)
  · obtain ⟨_, _, rfl, _⟩ := h; rfl
  refine ⟨_, (pss_consC (K := K) (ps_set (i := 2) sc_common_measure.nd rfl (Or.inl rfl) (pe_callB call_abs rfl b_abs bt_abs (pa_cons (pv 0) pa_nil)))
    (pss_consC (K := K) (ps_set (i := 3) sc_common_measure.nd rfl (Or.inl rfl) (pe_callB call_abs rfl b_abs bt_abs (pa_cons (pv 1) pa_nil)))
    (pss_consC (K := K) (ps_while PassesOwn.never (pt_cmpR op_ne (pv 3) pe_int (nomark _)) (pss_consC (K := K) (ps_set (i := 4) sc_common_measure.nd rfl (Or.inl rfl) (pe_op op_mod (pv 2) (pv 3)))
    (pss_consC (K := K) (ps_set (i := 2) sc_common_measure.nd rfl (Or.inl rfl) (pv 3))
    (pss_one (ps_set (i := 3) sc_common_measure.nd rfl (Or.inl rfl) (pv 4))) (by rfl)) (by rfl)))
    (pss_one (ps_ret (pv 2))) (by rfl)) (by rfl)) (by rfl)), ?_⟩
  obtain ⟨a, b, rfl, q⟩ := h
  refine ⟨_, rfl, a, rfl, ?_⟩
  refine ⟨_, rfl, b, rfl, ?_⟩
  refine while_by (L3 H a b fun H a b σ H' => H' = H ∧ ∃ (x y : Int) (r : Option V), σ = [some (.int a), some (.int b), some (.int x), some (.int y), r] ∧ 0 ≤ x ∧ 0 ≤ y ∧ Int.gcd x y = Int.gcd a b) (fun σ _ => mu 3 σ)
    ⟨rfl, _, _, none, rfl, ?_, ?_, ?_⟩ ?_ ?_
  · rw [Nm.abs_if]; exact Int.natCast_nonneg _
  · rw [Nm.abs_if]; exact Int.natCast_nonneg _
  · rw [Nm.abs_if, Nm.abs_if]; rfl
  · rintro σ H' hR1
    refine anE2 hR1 fun hq31 hz33 => ?_
    refine exE3 hz33 fun x y r hz33' => ?_
    clear hz33
    refine anE4 hz33' fun hq32 hx hy hg => ?_
    clear hz33'
    obtain rfl := hq31
    obtain rfl := hq32
    try clear hR1
    refine ⟨_, rfl, rfl, _, rfl, ?_⟩
    by_cases hy0 : y = 0
    · subst hy0
      refine iteFc (by rw [decide_eq_true rfl] <;> rfl) ⟨_, rfl, ?_⟩
      have e : (Int.gcd a b : Int) = x := by rw [← hg, Int.gcd_zero]; lia
      rw [e] at q
      exact q
    · refine iteTc (by rw [decide_eq_false (fun z => hy0 (V.int.inj z))] <;> rfl) ?_
      have hyp : 0 < y := by lia
      refine ⟨_, rfl, _, rfl, _, _, rfl, rfl, hyp, ?_⟩
      refine ⟨_, rfl, _, rfl, ⟨rfl, y, x % y, _, rfl, hy, Int.emod_nonneg _ hy0, ?_⟩, ?_⟩
      · rw [Nm.gcd_turn]; exact hg
      · show (x % y).toNat < y.toNat
        have := Int.emod_lt_of_pos x hyp
        lia
  · rintro σ H' Q1 Q2 hm hR2
    obtain ⟨v, e, s1, k, ek, q1⟩ := hR2
    try clear hR2
    exact ⟨v, e, s1, k, ek, hm _ _ q1⟩
theorem sc_bottom_of : FnScope ["numbers", "bottom", "number"] ["numbers"] (defScope (top 19)) := ⟨rfl, rfl, rfl, by decide +kernel, rfl, by decide +kernel, by decide +kernel⟩
set_option maxHeartbeats 4000000 in
theorem ok_bottom_of {f : Addr} {fd : FuncData} (F : Fun K "bottom_of" "bottom_of" (top 19) f fd) (F_common_measure : Fd P w K mg base 33 "common_measure" ["one", "other"] (spGcd)) (hT : P.given.tree = none) :
    FnOk P w K mg base CX0 34 f fd ["numbers"] (spBot K) := by
  refine F.ok sc_bottom_of (fun vs H Q E h => ?_) (fun cdv A outer s H vs Q E hr h => ?_)
  · obtain ⟨_, _, _, _, _, rfl, _⟩ := h; rfl
  refine ⟨_, (pss_consC (K := K) (ps_set (i := 1) sc_bottom_of.nd rfl (Or.inl rfl) pe_int)
    (pss_consC (K := K) (ps_forC (K := K) PassesOwn.never rfl (piS K (pv 0)) (pg_name (i := 2) sc_bottom_of.nd rfl (Or.inl rfl)) (pss_one (ps_set (i := 1) sc_bottom_of.nd rfl (Or.inl rfl) (pe_op op_mulC (pv 1) (pe_op (op_fdivX hr hT) (pe_ix (ixT K) (pv 2) pe_int (fun u v => rfl)) (pe_fn F_common_measure hr rfl (pa_cons (pv 1) (pa_cons (pe_ix (ixT K) (pv 2) pe_int (fun u v => rfl)) pa_nil))))))) (by rfl))
    (pss_one (ps_ret (pv 1))) (by rfl)) (by rfl)), ?_⟩
  obtain ⟨b, r, xs, qs, n, rfl, hS, hn, hB, hz, q⟩ := h
  have hl := hn.length
  refine for_seq (b := b) (a := r) (xs := xs) rfl (L4 H r qs n fun H r qs n i σ H' => H' = H ∧ ∃ (B : Int) (z : Option V), σ = [some (.ref r), some (.int B), z] ∧ 0 < B ∧ (∀ q ∈ qs.take i, (q.den : Int) ∣ B) ∧ Bd (n * i + 1) B) ⟨rfl, 1, none, rfl, by decide, fun q hq => by simp at hq, by unfold Bd; rw [Nat.mul_zero]; decide⟩ (fun i σ H' _ p => by rw [p.1]; exact hS) ?_ ?_
  · rintro i x σ H' hx hR1
    refine anE2 hR1 fun hq35 hz37 => ?_
    refine exE2 hz37 fun B z hz37' => ?_
    clear hz37
    refine anE4 hz37' fun hq36 hB0 hdv hbd => ?_
    clear hz37'
    obtain rfl := hq35
    obtain rfl := hq36
    try clear hR1
    obtain ⟨c, hc, r', rfl, hr⟩ := (Paired.get hn hx)
    have hi : i < qs.length := (List.getElem?_eq_some_iff.mp hc).1
    have hcm : c ∈ qs := List.mem_of_getElem? hc
    have hd0 : 0 < (c.den : Int) := by have := c.den_pos; lia
    obtain ⟨l1, l2, l3⟩ := (lcm_step hB0 hd0)
    have g0 : (Int.gcd B c.den : Int) ≠ 0 := by have := Nm.gcd_pos (a := B) (b := c.den) (by lia); lia
    have bd2 : Bd n (Int.fdiv c.den (Int.gcd B c.den : Int)) := (hB c hcm).fdiv
    have hni : n * i ≤ n * qs.length := Nat.mul_le_mul_left n (by lia)
    have hnm : n * (qs.length + 2) = n * qs.length + 2 * n := by rw [Nat.mul_add]; lia
    refine ⟨_, rfl, _, rfl, r', _, _, _, rfl, rfl, hr, rfl, _, rfl, _, rfl, r', _, _, _, rfl, rfl, hr, rfl, _, _, rfl, _, _, rfl, rfl, g0, _, _, rfl, rfl, MulC.bd hbd bd2 (by lia), ?_⟩
    refine ⟨rfl, _, _, rfl, l1, fun q' hq' => ?_, ?_⟩
    · rw [List.take_add_one, hc] at hq'
      rcases List.mem_append.mp hq' with z | z
      · exact Int.dvd_trans (hdv q' z) l2
      · have : q' = c := by simpa using z
        subst this; exact l3
    · have := hbd.mul bd2
      rw [Nat.mul_add, Nat.mul_one, show n * i + n + 1 = n * i + 1 + n by lia]
      exact this
  · rintro σ H' hR2
    refine anE2 hR2 fun hq40 hz42 => ?_
    refine exE2 hz42 fun B z hz42' => ?_
    clear hz42
    refine anE4 hz42' fun hq41 hB0 hdv hbd => ?_
    clear hz42'
    obtain rfl := hq40
    obtain rfl := hq41
    try clear hR2
    rw [hl, List.take_length] at hdv
    rw [hl] at hbd
    exact ⟨_, rfl, q B hB0 hdv hbd⟩
theorem sc_tops_over : FnScope ["numbers", "bottom"] ["numbers", "bottom"] (defScope (top 20)) := ⟨rfl, rfl, rfl, by decide +kernel, rfl, by decide +kernel, by decide +kernel⟩
set_option maxHeartbeats 4000000 in
theorem ok_tops_over {f : Addr} {fd : FuncData} (F : Fun K "tops_over" "tops_over" (top 20) f fd) (hT : P.given.tree = none) :
    FnOk P w K mg base CX0 33 f fd ["numbers", "bottom"] (spTops K) := by
  refine F.ok sc_tops_over (fun vs H Q E h => ?_) (fun cdv A outer s H vs Q E hr h => ?_)
  · obtain ⟨_, _, _, _, _, _, _, rfl, _⟩ := h; rfl
  refine ⟨_, (pss_one (ps_ret (pe_lc rfl (N := ["number", "bottom"]) (nt := 1) (js := [1]) (CompOk.look (NX := ["numbers", "bottom"]) (sc := defScope (top 20)) rfl rfl (by decide +kernel)) (piS K (pv 0)) (fun u1 u2 u3 u4 u5 => (pg_name (i := 0) (show List.Nodup (["number", "bottom"] : List Str) from by decide +kernel) rfl (Or.inl rfl))) (stays_name (by decide)) (fun u1 u2 u3 u4 u5 => pts_nil) (fun u1 u2 u3 u4 u5 => (pe_op op_mulC (pe_ix (ixT K) (pv 0) pe_int (fun u v => rfl)) (pe_op (op_fdivX hr hT) (pv 1) (pe_ix (ixT K) (pv 0) pe_int (fun u v => rfl)))))))), ?_⟩
  obtain ⟨b, r, xs, qs, B, m, n, rfl, hS, hn, hbB, hbn, hmn, hz, q⟩ := h
  have hl := hn.length
  refine lc_seq (b := b) (a := r) (xs := xs) rfl (fun i zs H' => H' = H ∧ zs = ((qs.take i).map (topOf B)).map V.int) ⟨rfl, rfl⟩ (fun i zs H' hi p => ⟨by rw [p.1]; exact hS, by rw [p.2, List.length_map, List.length_map, List.length_take]; lia⟩) (by rw [hl]; exact Nat.le_of_lt (small1000 hz)) ?_ ?_
  · rintro i x zs H' hx ⟨rfl, rfl⟩
    obtain ⟨c, hc, r', rfl, hr⟩ := (Paired.get hn hx)
    have hcm : c ∈ qs := List.mem_of_getElem? hc
    have hd0 : (c.den : Int) ≠ 0 := by have := c.den_pos; lia
    refine ⟨_, rfl, r', _, _, _, rfl, rfl, hr, rfl, _, rfl, _, rfl, r', _, _, _, rfl, rfl, hr, rfl, _, _, rfl, rfl, hd0, _, _, rfl, rfl, MulC.bd (hbn c hcm) (hbB.fdiv (y := c.den)) (by lia), rfl, ?_⟩
    rw [List.take_add_one, hc, List.map_append, List.map_append]
    rfl
  · rintro zs H' ⟨rfl, rfl⟩ p hp
    rw [hl, List.take_length]
    exact q p hp
theorem sc_whole_division : FnScope ["first", "second", "lead", "often", "rest", "shift", "top", "k"] ["first", "second"] (defScope (top 25)) := ⟨rfl, rfl, rfl, by decide +kernel, rfl, by decide +kernel, by decide +kernel⟩
set_option maxHeartbeats 4000000 in
theorem ok_whole_division {f : Addr} {fd : FuncData} (F : Fun K "whole_division" "whole_division" (top 25) f fd) (b_list : mg "list" = none) (b_range : mg "range" = none) (b_len : mg "len" = none) (hT : P.given.tree = none) :
    FnOk P w K mg base CX0 33 f fd ["first", "second"] (spDiv K) := by
  refine F.ok sc_whole_division (fun vs H Q E h => ?_) (fun cdv A outer s H vs Q E hr h => ?_)
  · obtain ⟨_, _, _, _, _, _, _, rfl, _⟩ := h; rfl
  refine ⟨_, (pss_consC (K := K) (ps_set (i := 2) sc_whole_division.nd rfl (Or.inr rfl) (pe_ix (ixL K) (pv 1) (pe_un un_neg pe_int) (fun u v => rfl)))
    (pss_consC (K := K) (ps_set (i := 3) sc_whole_division.nd rfl (Or.inl rfl) (pe_lst pa_nil))
    (pss_consC (K := K) (ps_set (i := 4) sc_whole_division.nd rfl (Or.inl rfl) (pe_callTy (listK K) rfl b_list bt_list (pa_cons (pv 0) pa_nil)))
    (pss_consC (K := K) (ps_forC (K := K) PassesOwn.never rfl (pi_down rfl b_range (pa_cons (pe_op op_sub (pe_callB (lenK K) rfl b_len bt_len (pa_cons (pv 0) pa_nil)) (pe_callB (lenK K) rfl b_len bt_len (pa_cons (pv 1) pa_nil))) (pa_cons (pe_un un_neg pe_int) (pa_cons (pe_un un_neg pe_int) pa_nil)))) (pg_name (i := 5) sc_whole_division.nd rfl (Or.inl rfl)) (pss_consC (K := K) (ps_set (i := 6) sc_whole_division.nd rfl (Or.inl rfl) (pe_ix (ixL K) (pv 4) (pe_un un_neg pe_int) (fun u v => rfl)))
    (pss_consC (K := K) (ps_set (i := 3) sc_whole_division.nd rfl (Or.inl rfl) (pe_op op_cat (pe_lst (pa_cons (pv 6) pa_nil)) (pe_lc rfl (N := ["number", "lead"]) (nt := 1) (js := [2]) (CompOk.look (NX := ["first", "second", "lead", "often", "rest", "shift", "top", "k"]) (sc := defScope (top 25)) rfl rfl (by decide +kernel)) (piL K (pv 3)) (fun u1 u2 u3 u4 u5 => (pg_name (i := 0) (show List.Nodup (["number", "lead"] : List Str) from by decide +kernel) rfl (Or.inl rfl))) (stays_name (by decide)) (fun u1 u2 u3 u4 u5 => pts_nil) (fun u1 u2 u3 u4 u5 => (pe_op op_mulC (pv 1) (pv 0))))))
    (pss_consC (K := K) (ps_lc (i := 4) rfl sc_whole_division.nd rfl rfl (N := ["number", "lead"]) (nt := 1) (js := [2]) (CompOk.look (NX := ["first", "second", "lead", "often", "rest", "shift", "top", "k"]) (sc := defScope (top 25)) rfl rfl (by decide +kernel)) (piL K (pe_slice (slL K) (pv 4) po_none (po_some (pe_un un_neg pe_int)))) (fun u1 u2 u3 u4 u5 => (pg_name (i := 0) (show List.Nodup (["number", "lead"] : List Str) from by decide +kernel) rfl (Or.inl rfl))) (stays_name (by decide)) (fun u1 u2 u3 u4 u5 => pts_nil) (fun u1 u2 u3 u4 u5 => (pe_op op_mulC (pv 1) (pv 0))) rfl)
    (pss_one (ps_forC (K := K) PassesOwn.never rfl (pi_range1 rfl b_range (pa_cons (pe_op op_sub (pe_callB (lenK K) rfl b_len bt_len (pa_cons (pv 1) pa_nil)) pe_int) pa_nil)) (pg_name (i := 7) sc_whole_division.nd rfl (Or.inl rfl)) (pss_one (ps_asg (pe_op op_sub (pe_ix (ixL K) (pv 4) (pe_op op_add (pv 7) (pv 5)) (fun u v => rfl)) (pe_op op_mulC (pv 6) (pe_ix (ixL K) (pv 1) (pv 7) (fun u v => rfl)))) (pg_sub (pv 4) (pe_op op_add (pv 7) (pv 5)) set_list))) (by rfl))) (by rfl)) (by rfl)) (by rfl)) (by rfl))
    (pss_one (ps_ret (pe_tup (pa_cons (pv 3) (pa_cons (pv 4) pa_nil))))) (by rfl)) (by rfl)) (by rfl)) (by rfl)), ?_⟩
  obtain ⟨f, g, fs, gs, lead, M, L, rfl, hf, hg, hlead, hf1000, hg1000, hbf, hbg, hM, hL, q⟩ := h
  have P0 : 0 ≤ sizeLine := by decide
  have P1 : 1 ≤ sizeLine := by decide
  have P2 : 2 ≤ sizeLine := by decide
  have lf : (fs.map V.int).length = fs.length := List.length_map _
  have lg : (gs.map V.int).length = gs.length := List.length_map _
  have hg1 : 1 ≤ gs.length := by have := (List.getElem?_eq_some_iff.mp hlead).1; lia
  have hlv : (gs.map V.int)[(gs.map V.int).length - 1]? = some (V.int lead) := by rw [lg, List.getElem?_map, hlead]; rfl
  have bl : Bd L lead := hbg _ (List.mem_of_getElem? hlead)
  refine ⟨_, rfl, _, rfl, g, _, _, _, rfl, rfl, hg, atI_back hlv, ?_⟩
  refine ⟨P0, fun oa hoa => ?_⟩
  have s1 : Same H (upd H oa (.lst [])) := Same.new hoa
  refine ⟨_, rfl, f, _, rfl, .inl (Same.seq s1 hf), fun ra hra => ?_⟩
  have s2 := s1.trans (Same.new (o := .lst (fs.map V.int)) hra)
  have hraH : H ra = none := by
    cases z : H ra with
    | none => rfl
    | some u => rw [s1 ra u z] at hra; cases hra
  refine ⟨_, rfl, f, _, rfl, .inl (Same.seq s2 hf), _, rfl, g, _, rfl, .inl (Same.seq s2 hg), _, _, rfl, rfl, _, rfl, _, rfl, _, _, rfl, ⟨by rw [lf, lg]; lia, by rw [lf, lg]; lia, by decide, by decide⟩, ?_⟩
  have eT : (((fs.map V.int).length : Int) - ((gs.map V.int).length : Int) - -1).toNat = fs.length + 1 - gs.length := by rw [lf, lg]; lia
  rw [eT]
  have ra0 : (upd (upd H oa (.lst [])) ra (.lst (fs.map V.int))) ra = some (.lst (fs.map V.int)) := upd_same
  have oa0 : (upd (upd H oa (.lst [])) ra (.lst (fs.map V.int))) oa = some (.lst (([] : List Int).map V.int)) := (Same.new hra) _ _ upd_same
  refine for_down (n := fs.length + 1 - gs.length) (L8 H f g lead fs gs M L fun H f g lead fs gs M L j σ H' => Same H H' ∧ ∃ (oa ra : Addr) (os rs : List Int) (z5 z6 z7 : Option V), σ = [some (.ref f), some (.ref g), some (.int lead), some (.ref oa), some (.ref ra), z5, z6, z7] ∧ H' oa = some (.lst (os.map V.int)) ∧ H' ra = some (.lst (rs.map V.int)) ∧ os.length = j ∧ rs.length = fs.length - j ∧
    (∀ x, Cv.evI fs x * ((lead ^ j : Int) : Rat) = Cv.evI os x * x ^ (fs.length + 1 - gs.length - j) * Cv.evI gs x + Cv.evI rs x) ∧ (∀ t ∈ os, Bd (M + j * (L + 1)) t) ∧ (∀ t ∈ rs, Bd (M + j * (L + 1)) t) ∧ (j = 0 → rs = fs) ∧ (os ≠ [] → ∃ t, fs[fs.length - 1]? = some t ∧ os[os.length - 1]? = some (lead ^ (os.length - 1) * t)))
    ⟨s2, oa, ra, [], fs, none, none, none, rfl, oa0, ra0, rfl, rfl, fun x => ?_, (fun _ h => nomatch h), (fun t ht => (hbf t ht).mono (by lia)), fun _ => rfl, fun h => absurd rfl h⟩ ?_ ?_
  · rw [Int.pow_zero]
    show Cv.evI fs x * ((1 : Int) : Rat) = 0 * _ * _ + _
    rw [Rat.intCast_one]; grind
  · rintro j σ H' hj hR1
    refine anE2 hR1 fun sm hz46 => ?_
    refine exE7 hz46 fun oa ra os rs z5 z6 z7 hz46' => ?_
    clear hz46
    refine anE10 hz46' fun hq45 eo er hol hrl hev hbo hbr hfs htop => ?_
    clear hz46'
    obtain rfl := hq45
    try clear hR1
    have hjL : j * (L + 1) ≤ fs.length * (L + 1) := Nat.mul_le_mul_right _ (by lia)
    have hjL1 : (j + 1) * (L + 1) = j * (L + 1) + L + 1 := by rw [Nat.add_mul]; lia
    have hrp : rs.length - 1 < rs.length := by lia
    have hr0 : rs[rs.length - 1]? = some rs[rs.length - 1] := List.getElem?_eq_getElem hrp
    generalize htp : rs[rs.length - 1] = tp at hr0
    have btp : Bd (M + j * (L + 1)) tp := by rw [← htp]; exact hbr _ (List.getElem_mem hrp)
    have hrv : (rs.map V.int)[(rs.map V.int).length - 1]? = some (V.int tp) := by rw [List.length_map, List.getElem?_map, hr0]; rfl
    refine ⟨_, rfl, _, rfl, ra, _, _, _, rfl, rfl, SqL.of er, atI_back hrv, ?_⟩
    refine ⟨_, rfl, P1, fun t1 ht1 => ?_⟩
    have sa : Same H' (upd H' t1 (.lst [.int tp])) := Same.new ht1
    refine lc_of ⟨_, rfl, oa, rfl, ⟨_, SqL.of (sa _ _ eo)⟩, ?_⟩
    refine lc_lst (xs := os.map V.int) (L5 H' t1 tp os lead fun H' t1 tp os lead i zs H2 => H2 = upd H' t1 (.lst [.int tp]) ∧ zs = ((os.take i).map (lead * ·)).map V.int) ⟨rfl, rfl⟩ (fun i zs H2 hi p => ⟨by rw [p.1]; exact SqL.of (sa _ _ eo), by rw [p.2, List.length_map, List.length_map, List.length_take]; rw [List.length_map] at hi; lia⟩) (by rw [List.length_map]; exact Nat.le_of_lt (small1000 (by lia))) ?_ ?_
    · rintro i v zs H2 hv ⟨rfl, rfl⟩
      rw [List.getElem?_map] at hv
      cases et : os[i]? with
      | none => rw [et] at hv; cases hv
      | some t =>
        rw [et] at hv
        cases hv
        exact ⟨_, rfl, _, rfl, _, _, rfl, rfl, MulC.bd bl (hbo t (List.mem_of_getElem? et)) (by lia), rfl, ints_scale i et⟩
    rintro zs H2 ⟨rfl, rfl⟩ l1 hl1
    rw [show os.take (os.map V.int).length = os by rw [List.length_map, List.take_length]]
    have sb := sa.trans (Same.new (o := .lst ((os.map (lead * ·)).map V.int)) hl1)
    have et1 := (Same.new (o := .lst ((os.map (lead * ·)).map V.int)) hl1) _ _ (upd_same (H := H') (a := t1) (o := .lst [.int tp]))
    refine ⟨t1, l1, _, _, rfl, rfl, et1, upd_same, by rw [List.length_map, List.length_map]; exact Nat.le_of_lt (small1000 (by show 1 + os.length ≤ 1000; lia)), fun o2 ho2 => ?_⟩
    have sc := sb.trans (Same.new (o := .lst ([V.int tp] ++ (os.map (lead * ·)).map V.int)) ho2)
    have eo2 : (upd (upd (upd H' t1 (.lst [.int tp])) l1 (.lst ((os.map (lead * ·)).map V.int))) o2 (.lst ([V.int tp] ++ (os.map (lead * ·)).map V.int))) o2 = some (.lst ((tp :: os.map (lead * ·)).map V.int)) := upd_same
    generalize upd (upd (upd H' t1 (.lst [.int tp])) l1 (.lst ((os.map (lead * ·)).map V.int))) o2 (.lst ([V.int tp] ++ (os.map (lead * ·)).map V.int)) = H3 at sc eo2 ⊢
    have er3 := sc _ _ er
    have smc := sm.trans sc
    have rt : (rs.map V.int).take ((rs.map V.int).length - 1) = (rs.take (rs.length - 1)).map V.int := by rw [List.length_map, List.map_take]
    refine lc_of ⟨_, rfl, _, rfl, _, rfl, ra, _, rfl, SqL.of er3, fun c hc => ?_⟩
    rw [cut_back, rt]
    have sd : Same H3 (upd H3 c (.lst ((rs.take (rs.length - 1)).map V.int))) := Same.new hc
    refine ⟨c, rfl, ⟨_, SqL.of upd_same⟩, ?_⟩
    refine lc_lst (xs := (rs.take (rs.length - 1)).map V.int) (L4 H3 c rs lead fun H3 c rs lead i zs H2 => H2 = upd H3 c (.lst ((rs.take (rs.length - 1)).map V.int)) ∧ zs = (((rs.take (rs.length - 1)).take i).map (lead * ·)).map V.int) ⟨rfl, rfl⟩ (fun i zs H2 hi p => ⟨by rw [p.1]; exact SqL.of upd_same, by rw [p.2, List.length_map, List.length_map, List.length_take]; rw [List.length_map] at hi; lia⟩) (by rw [List.length_map, List.length_take]; exact Nat.le_of_lt (small1000 (by lia))) ?_ ?_
    · rintro i v zs H2 hv ⟨rfl, rfl⟩
      rw [List.getElem?_map] at hv
      cases et : (rs.take (rs.length - 1))[i]? with
      | none => rw [et] at hv; cases hv
      | some t =>
        rw [et] at hv
        cases hv
        exact ⟨_, rfl, _, rfl, _, _, rfl, rfl, MulC.bd bl (hbr t (List.mem_of_mem_take (List.mem_of_getElem? et))) (by lia), rfl, ints_scale i et⟩
    rintro zs H2 ⟨rfl, rfl⟩ r2 hr2
    have ez : (rs.take (rs.length - 1)).take ((rs.take (rs.length - 1)).map V.int).length = rs.take (rs.length - 1) := by rw [List.length_map, List.take_length]
    rw [ez]
    have se := sd.trans (Same.new (o := .lst (((rs.take (rs.length - 1)).map (lead * ·)).map V.int)) hr2)
    have er2 : (upd (upd H3 c (.lst ((rs.take (rs.length - 1)).map V.int))) r2 (.lst (((rs.take (rs.length - 1)).map (lead * ·)).map V.int))) r2 = some (.lst (((rs.take (rs.length - 1)).map (lead * ·)).map V.int)) := upd_same
    have hr2H : H r2 = none := by
      cases z : H r2 with
      | none => rfl
      | some u => rw [sd r2 u (smc r2 u z)] at hr2; cases hr2
    have r2o : r2 ≠ o2 := fun z => by rw [z, sd _ _ eo2] at hr2; cases hr2
    have eo4 := se _ _ eo2
    have sm4 := smc.trans se
    generalize upd (upd H3 c (.lst ((rs.take (rs.length - 1)).map V.int))) r2 (.lst (((rs.take (rs.length - 1)).map (lead * ·)).map V.int)) = H4 at er2 eo4 sm4 ⊢
    have rl4 : ((rs.take (rs.length - 1)).map (lead * ·)).length = fs.length - (j + 1) := by rw [List.length_map, List.length_take]; lia
    have ev4 : ∀ x, Cv.evI ((rs.take (rs.length - 1)).map (lead * ·)) x = (lead : Rat) * (Cv.evI rs x - (tp : Rat) * x ^ (rs.length - 1)) := fun x => by
      rw [Cv.evI_scale, Cv.evI_last x rs tp hr0]; grind
    have br4 : ∀ t ∈ (rs.take (rs.length - 1)).map (lead * ·), Bd (M + j * (L + 1) + L) t := fun t ht => by
      obtain ⟨u, hu, rfl⟩ := (List.mem_map.mp ht)
      exact (bl.mul (hbr u (List.mem_of_mem_take hu))).mono (by lia)
    generalize (rs.take (rs.length - 1)).map (lead * ·) = r4 at er2 rl4 ev4 br4
    refine ⟨_, rfl, g, _, rfl, .inl (Same.seq sm4 hg), _, _, rfl, rfl, _, rfl, by rw [lg]; lia, by rw [lg]; lia, ?_⟩
    have eN : (((gs.map V.int).length : Int) - 1).toNat = gs.length - 1 := by rw [lg]; lia
    rw [eN]
    have hsh : ((fs.map V.int).length : Int) - ((gs.map V.int).length : Int) - (j : Int) = ((fs.length - gs.length - j : Nat) : Int) := by rw [lf, lg]; lia
    rw [hsh]
    generalize hS : fs.length - gs.length - j = S at hsh ⊢
    refine for_range (n := gs.length - 1) (L15 H o2 tp os lead f g r2 S fs j rs gs M L fun H o2 tp os lead f g r2 S fs j rs gs M L i σ H5 => Same H H5 ∧ H5 o2 = some (.lst ((tp :: os.map (lead * ·)).map V.int)) ∧ ∃ (ps : List Int) (z7 : Option V), σ = [some (.ref f), some (.ref g), some (.int lead), some (.ref o2), some (.ref r2), some (.int (S : Int)), some (.int tp), z7] ∧ H5 r2 = some (.lst (ps.map V.int)) ∧ ps.length = fs.length - (j + 1) ∧
      (∀ x, Cv.evI ps x = (lead : Rat) * (Cv.evI rs x - (tp : Rat) * x ^ (rs.length - 1)) - (tp : Rat) * x ^ S * Cv.evI (gs.take i) x) ∧ (∀ k t, ps[k]? = some t → Bd (if k < S + i then M + j * (L + 1) + L + 1 else M + j * (L + 1) + L) t))
      ⟨sm4, eo4, r4, _, rfl, er2, rl4, fun x => ?_, fun k t ht => ?_⟩ ?_ ?_
    · rw [ev4 x, List.take_zero]
      show _ = _ - _ * (0 : Rat)
      grind
    · split
      · exact (br4 t (List.mem_of_getElem? ht)).mono (by lia)
      · exact br4 t (List.mem_of_getElem? ht)
    · rintro i σ H5 hi hR2
      refine anE3 hR2 fun sm5 eo5 hz48 => ?_
      refine exE2 hz48 fun ps z7' hz48' => ?_
      clear hz48
      refine anE5 hz48' fun hq47 ep hpl hev5 hbp => ?_
      clear hz48'
      obtain rfl := hq47
      try clear hR2
      have hgi : gs[i]? = some gs[i] := List.getElem?_eq_getElem (by lia)
      have hik : i + S < ps.length := by lia
      have hpk : ps[i + S]? = some ps[i + S] := List.getElem?_eq_getElem hik
      have bm : MulC tp gs[i] := MulC.bd btp (hbg _ (List.getElem_mem (by lia))) (by lia)
      refine ⟨_, rfl, _, rfl, _, rfl, _, _, rfl, rfl, r2, _, _, _, rfl, rfl, SqL.of ep, at_plus hpk (by lia), _, rfl, _, rfl, _, rfl, g, _, _, _, rfl, rfl, Same.seq sm5 hg, at_plus hgi (by lia), _, _, rfl, rfl, bm, _, _, rfl, rfl, ?_⟩
      refine ⟨_, rfl, _, rfl, _, rfl, _, _, rfl, rfl, r2, _, _, i + S, rfl, rfl, ep, ixN_plus (by rw [List.length_map]; exact hik) (by lia), ?_⟩
      refine ⟨sm5.put hr2H, by rw [upd_ne (Ne.symm r2o)]; exact eo5, ps.set (i + S) (ps[i + S] + -(tp * gs[i])), _, rfl, ?_, by rw [List.length_set]; exact hpl, fun x => ?_, fun k t ht => ?_⟩
      · rw [upd_same, List.map_set, ← Int.sub_eq_add_neg]
      · rw [Cv.evI_set x ps (i + S) _ _ hpk, hev5 x, Cv.evI_take_succ x gs i _ hgi, Rat.intCast_neg, Rat.intCast_mul, Nm.pow_add]
        grind
      · by_cases hk : k = i + S
        · subst hk
          rw [List.getElem?_set_self hik] at ht
          cases ht
          rw [if_pos (by lia), ← Int.sub_eq_add_neg]
          have b1 := hbp _ _ hpk
          rw [if_neg (by lia)] at b1
          exact Bd.sub b1 ((btp.mul (hbg _ (List.getElem_mem (by lia)))).mono (by lia))
        · rw [List.getElem?_set_ne (fun z => hk z.symm)] at ht
          have b1 := hbp k t ht
          split
          · split at b1
            · exact b1
            · exact b1.mono (by lia)
          · rw [if_neg (by lia)] at b1; exact b1
    · rintro σ H5 hR3
      refine anE3 hR3 fun sm5 eo5 hz50 => ?_
      refine exE2 hz50 fun ps z7' hz50' => ?_
      clear hz50
      refine anE5 hz50' fun hq49 ep hpl hev5 hbp => ?_
      clear hz50'
      obtain rfl := hq49
      try clear hR3
      have hgl : gs.take (gs.length - 1) = gs.take (gs.length - 1) := rfl
      refine ⟨sm5, o2, r2, tp :: os.map (lead * ·), ps, _, _, _, rfl, eo5, ep, by rw [List.length_cons, List.length_map]; lia, hpl, fun x => ?_, fun t ht => ?_, fun t ht => ?_, fun z => absurd z (by lia), fun _ => ?_⟩
      · have h1 := hev x
        have h2 := hev5 x
        have h3 := Cv.evI_last x gs lead hlead
        have e1 : fs.length + 1 - gs.length - j = S + 1 := by lia
        have e2 : fs.length + 1 - gs.length - (j + 1) = S := by lia
        have e3 : rs.length - 1 = S + (gs.length - 1) := by lia
        rw [e1] at h1
        rw [e2, h2, Cv.evI_cons, Cv.evI_scale, Int.pow_succ, Rat.intCast_mul, ← Rat.mul_assoc, h1, h3, e3, Nm.pow_add, Rat.pow_succ]
        grind
      · rcases List.mem_cons.mp ht with z | z
        · rw [z]; exact btp.mono (by lia)
        · obtain ⟨u, hu, rfl⟩ := (List.mem_map.mp z)
          exact (bl.mul (hbo u hu)).mono (by lia)
      · obtain ⟨k, hk⟩ := (List.getElem?_of_mem ht)
        have := hbp k t hk
        split at this <;> exact this.mono (by lia)
      · by_cases hj0 : j = 0
        · have ho : os = [] := List.eq_nil_of_length_eq_zero (by lia)
          rw [hfs hj0] at hr0
          refine ⟨tp, hr0, ?_⟩
          rw [ho]
          show some tp = some (lead ^ 0 * tp)
          rw [Int.pow_zero, Int.one_mul]
        · obtain ⟨t, ht, ho⟩ := htop (fun z => by rw [z] at hol; exact hj0 hol.symm)
          refine ⟨t, ht, ?_⟩
          rw [List.length_cons, List.length_map, Nat.add_sub_cancel]
          have e : os.length = (os.length - 1) + 1 := by lia
          rw [e, List.getElem?_cons_succ, List.getElem?_map, ho]
          show some (lead * (lead ^ (os.length - 1) * t)) = some (lead ^ (os.length - 1 + 1) * t)
          rw [Int.pow_succ]
          congr 1
          grind
  · rintro σ H' hR4
    refine anE2 hR4 fun sm hz52 => ?_
    refine exE7 hz52 fun oa ra os rs z5 z6 z7 hz52' => ?_
    clear hz52
    refine anE10 hz52' fun hq51 eo er hol hrl hev hbo hbr hfs htop => ?_
    clear hz52'
    obtain rfl := hq51
    try clear hR4
    refine ⟨_, rfl, _, rfl, P2, fun p hp => ?_⟩
    have s9 : Same H' (upd H' p (.tup [.ref oa, .ref ra])) := Same.new hp
    refine q p oa ra _ os rs (sm.trans s9) upd_same (s9 _ _ eo) (s9 _ _ er) ⟨hol, ?_, fun x => ?_, (fun t ht => by rw [hol]; exact hbo t ht), (fun t ht => by rw [hol]; exact hbr t ht), htop⟩
    · rw [hrl]; lia
    · have := hev x
      rw [Nat.sub_self, Rat.pow_zero, Rat.mul_one] at this
      rw [hol]
      exact this
theorem sc_curve_of : FnScope ["numbers", "width"] ["numbers"] (defScope (top 18)) := ⟨rfl, rfl, rfl, by decide +kernel, rfl, by decide +kernel, by decide +kernel⟩
set_option maxHeartbeats 4000000 in
theorem ok_curve_of {f : Addr} {fd : FuncData} (F : Fun K "curve_of" "curve_of" (top 18) f fd) (b_len : mg "len" = none) (b_tuple : mg "tuple" = none) {a_NOUGHT : Addr} (c_NOUGHT : mg "NOUGHT" = some (.ref a_NOUGHT)) (n_NOUGHT : ∀ H : Hp, NumV K H (.ref a_NOUGHT) (0)) (hT : P.given.tree = none) :
    FnOk P w K mg base CX0 33 f fd ["numbers"] (spCurveOf K) := by
  refine F.ok sc_curve_of (fun vs H Q E h => ?_) (fun cdv A outer s H vs Q E hr h => ?_)
  · obtain ⟨_, _, _, rfl, _⟩ := h; rfl
  refine ⟨_, (pss_consC (K := K) (ps_set (i := 1) sc_curve_of.nd rfl (Or.inl rfl) (pe_callB (lenK K) rfl b_len bt_len (pa_cons (pv 0) pa_nil)))
    (pss_consC (K := K) (ps_while PassesOwn.never (PW.pt (pw_and (pt_cmpR op_gt (pv 1) pe_int (nomark _)) (pw_and1 (pt_cmpR (eqD K hr.units) (pe_ix (ixL K) (pv 0) (pe_op op_sub (pv 1) pe_int) (fun u v => rfl)) (pe_glob (v := .ref a_NOUGHT) rfl c_NOUGHT rfl) (nomark _))))) (pss_one (ps_set (i := 1) sc_curve_of.nd rfl (Or.inl rfl) (pe_op op_sub (pv 1) pe_int))))
    (pss_one (ps_ret (pe_callTy (tupleK K) rfl b_tuple bt_tuple (pa_cons (pe_slice (slL K) (pv 0) po_none (po_some (pv 1))) pa_nil)))) (by rfl)) (by rfl)), ?_⟩
  obtain ⟨r, xs, qs, rfl, hS, hn, hz, q⟩ := h
  have hl := hn.length
  refine ⟨_, rfl, r, xs, rfl, .inl hS, ?_⟩
  refine wh_by (L3 H r qs fun H r qs σ H' => H' = H ∧ ∃ (v : Nat), σ = [some (.ref r), some (.int (v : Int))] ∧ v ≤ qs.length ∧ ∀ j q, v ≤ j → qs[j]? = some q → q = 0) (fun σ _ => mu 1 σ) ⟨rfl, qs.length, by rw [← hl]; rfl, Nat.le_refl _, fun j q hj e => absurd (List.getElem?_eq_some_iff.mp e).1 (by lia)⟩ ?_
  rintro σ H' hR1
  refine anE2 hR1 fun hq53 hz55 => ?_
  refine exE1 hz55 fun v hz55' => ?_
  clear hz55
  refine anE3 hz55' fun hq54 hv hall => ?_
  clear hz55'
  obtain rfl := hq53
  obtain rfl := hq54
  try clear hR1
  have fin : (v = 0 ∨ ∃ q, qs[v - 1]? = some q ∧ q ≠ 0) → ∀ p, H' p = none → ∀ p', upd H' p (.lst (cutV xs none (some (v : Int)))) p' = none → Q (.ref p') (upd (upd H' p (.lst (cutV xs none (some (v : Int))))) p' (.tup (cutV xs none (some (v : Int))))) := fun hc p hp p' hp' => by
    have e : cutV xs none (some (v : Int)) = xs.take v := by
      unfold cutV
      have e1 : HT.sIx xs.length 0 none = 0 := rfl
      have e2 : HT.sIx xs.length xs.length (some (v : Int)) = min v xs.length := HT.sIx_nat _ _ v
      rw [e1, e2, List.drop_zero, Nat.sub_zero]
      apply List.ext_getElem?
      intro i
      rw [List.getElem?_take, List.getElem?_take]
      split <;> split <;> first | rfl | lia | (rename_i h1 h2; exact (List.getElem?_eq_none (by lia)).symm) | (rename_i h1 h2; exact List.getElem?_eq_none (by lia))
    have sm : Same H' (upd (upd H' p (.lst (cutV xs none (some (v : Int))))) p' (.tup (cutV xs none (some (v : Int))))) := (Same.new hp).trans (Same.new hp')
    refine q p' _ sm ⟨xs.take v, SqT.of (by rw [e]; exact upd_same), ?_⟩
    rw [← Cv.take_strip qs v hall hc]
    exact Paired.take v (Nums.same hn sm)
  refine ⟨_, rfl, _, _, rfl, rfl, _, rfl, ?_⟩
  by_cases hv0 : v = 0
  · subst hv0
    refine iteF (iteF ?_)
    exact ⟨_, rfl, _, rfl, _, rfl, r, xs, rfl, hS, fun p hp => ⟨p, _, rfl, .inl ⟨SqL.of upd_same, fun p' hp' => fin (.inl rfl) p hp p' hp'⟩⟩⟩
  · refine iteTc (by rw [decide_eq_true (show (0 : Int) < (v : Int) by lia)] <;> rfl) ?_
    have hvi : v - 1 < qs.length := by lia
    have hq : qs[v - 1]? = some qs[v - 1] := List.getElem?_eq_getElem hvi
    obtain ⟨x, hx, hxn⟩ := (Paired.get' hn hq)
    have hat : atI xs ((v : Int) - 1) = some x := by
      rw [show (v : Int) - 1 = ((v - 1 : Nat) : Int) by lia]
      exact atI_nat hx
    refine ⟨_, rfl, _, rfl, _, _, rfl, rfl, r, xs, _, x, rfl, rfl, hS, hat, ?_⟩
    refine eqN hxn (n_NOUGHT _) ?_
    refine ⟨_, rfl, ?_⟩
    by_cases hq0 : qs[v - 1] = 0
    · refine iteTc (by rw [decide_eq_true hq0] <;> rfl) (wh_go ?_)
      refine ⟨_, rfl, _, _, rfl, rfl, ⟨rfl, v - 1, ?_, by lia, fun j q' hj e => ?_⟩, ?_⟩
      · show [some (V.ref r), some (V.int ((v : Int) - 1))] = [some (V.ref r), some (V.int ((v - 1 : Nat) : Int))]
        rw [show (v : Int) - 1 = ((v - 1 : Nat) : Int) by lia]
      · by_cases hjv : v ≤ j
        · exact hall j q' hjv e
        · have : j = v - 1 := by lia
          subst this
          rw [hq] at e
          cases e
          exact hq0
      · show ((v : Int) - 1).toNat < (v : Int).toNat
        lia
    · refine iteFc (by rw [decide_eq_false hq0] <;> rfl) ?_
      exact ⟨_, rfl, _, rfl, _, rfl, r, xs, rfl, hS, fun p hp => ⟨p, _, rfl, .inl ⟨SqL.of upd_same, fun p' hp' => fin (.inr ⟨_, hq, hq0⟩) p hp p' hp'⟩⟩⟩
theorem sc_number_of : FnScope ["top", "bottom", "measure"] ["top", "bottom"] (defScope (top 14)) := ⟨rfl, rfl, rfl, by decide +kernel, rfl, by decide +kernel, by decide +kernel⟩
set_option maxHeartbeats 4000000 in
theorem ok_number_of {f : Addr} {fd : FuncData} (F : Fun K "number_of" "number_of" (top 14) f fd) (F_common_measure : Fd P w K mg base 33 "common_measure" ["one", "other"] (spGcd)) (hT : P.given.tree = none) :
    FnOk P w K mg base CX0 34 f fd ["top", "bottom"] (spLow) := by
  refine F.ok sc_number_of (fun vs H Q E h => ?_) (fun cdv A outer s H vs Q E hr h => ?_)
  · obtain ⟨_, _, rfl, _⟩ := h; rfl
  refine ⟨_, (pss_consC (K := K) (ps_ifC (K := K) (pt_cmpR op_eq (pv 1) pe_int (nomark _)) (pss_one ps_never) pss_nil (by rfl) (by rfl))
    (pss_consC (K := K) (ps_set (i := 2) sc_number_of.nd rfl (Or.inl rfl) (pe_fn F_common_measure hr rfl (pa_cons (pv 0) (pa_cons (pv 1) pa_nil))))
    (pss_consC (K := K) (ps_ifC (K := K) (pt_cmpR op_lt (pv 1) pe_int (nomark _)) (pss_one (ps_set (i := 2) sc_number_of.nd rfl (Or.inl rfl) (pe_un un_neg (pv 2)))) pss_nil (by rfl) (by rfl))
    (pss_one (ps_ret (pe_tup (pa_cons (pe_op (op_fdivX hr hT) (pv 0) (pv 2)) (pa_cons (pe_op (op_fdivX hr hT) (pv 1) (pv 2)) pa_nil))))) (by rfl)) (by rfl)) (by rfl)), ?_⟩
  obtain ⟨a, b, rfl, hb, q⟩ := h
  refine ⟨_, rfl, rfl, _, rfl, ?_⟩
  refine iteFc (by rw [decide_eq_false (fun z => hb (V.int.inj z))] <;> rfl) ?_
  refine ⟨_, rfl, _, rfl, a, b, rfl, ?_⟩
  refine ⟨_, rfl, _, _, rfl, rfl, _, rfl, ?_⟩
  have hd : Nm.msr a b ≠ 0 := Nm.msr_ne hb
  have fin : ∀ p, H p = none → Q (.ref p) (upd H p (.tup [.int (a.fdiv (Nm.msr a b)), .int (b.fdiv (Nm.msr a b))])) := fun p hp => by
    rw [Nm.top_msr hb, Nm.bottom_msr hb]; exact q p hp
  by_cases hb0 : b < 0
  · have hd' : Nm.msr a b = -(Int.gcd a b : Int) := by unfold Nm.msr; rw [if_pos hb0]
    rw [hd'] at hd fin
    refine iteTc (by rw [decide_eq_true hb0] <;> rfl) ⟨_, rfl, _, rfl, ?_⟩
    exact ⟨_, rfl, _, rfl, _, _, rfl, rfl, hd, _, rfl, _, rfl, _, _, rfl, rfl, hd, (by decide : 2 ≤ sizeLine), fin⟩
  · have hd' : Nm.msr a b = (Int.gcd a b : Int) := by unfold Nm.msr; rw [if_neg hb0]
    rw [hd'] at hd fin
    refine iteFc (by rw [decide_eq_false hb0] <;> rfl) ?_
    exact ⟨_, rfl, _, rfl, _, _, rfl, rfl, hd, _, rfl, _, rfl, _, _, rfl, rfl, hd, (by decide : 2 ≤ sizeLine), fin⟩
theorem sc_curve_over : FnScope ["tops", "bottom"] ["tops", "bottom"] (defScope (top 21)) := ⟨rfl, rfl, rfl, by decide +kernel, rfl, by decide +kernel, by decide +kernel⟩
set_option maxHeartbeats 4000000 in
theorem ok_curve_over {f : Addr} {fd : FuncData} (F : Fun K "curve_over" "curve_over" (top 21) f fd) (F_curve_of : Fd P w K mg base 33 "curve_of" ["numbers"] (spCurveOf K)) (F_number_of : Fd P w K mg base 34 "number_of" ["top", "bottom"] (spLow)) (hT : P.given.tree = none) :
    FnOk P w K mg base CX0 35 f fd ["tops", "bottom"] (spCurveOver K) := by
  refine F.ok sc_curve_over (fun vs H Q E h => ?_) (fun cdv A outer s H vs Q E hr h => ?_)
  · obtain ⟨_, _, _, rfl, _⟩ := h; rfl
  refine ⟨_, (pss_one (ps_ret (pe_fn F_curve_of hr rfl (pa_cons (pe_lc rfl (N := ["top", "bottom"]) (nt := 1) (js := [1]) (CompOk.look (NX := ["tops", "bottom"]) (sc := defScope (top 21)) rfl rfl (by decide +kernel)) (piS K (pv 0)) (fun u1 u2 u3 u4 u5 => (pg_name (i := 0) (show List.Nodup (["top", "bottom"] : List Str) from by decide +kernel) rfl (Or.inl rfl))) (stays_name (by decide)) (fun u1 u2 u3 u4 u5 => pts_nil) (fun u1 u2 u3 u4 u5 => (pe_fn F_number_of hr rfl (pa_cons (pv 0) (pa_cons (pv 1) pa_nil))))) pa_nil)))), ?_⟩
  obtain ⟨l, ts, b, rfl, hS, hb, hz, q⟩ := h
  have ll : (ts.map V.int).length = ts.length := List.length_map _
  refine lc_seq (b := true) (a := l) (xs := ts.map V.int) rfl (L4 H K ts b fun H K ts b i zs H' => Same H H' ∧ zs.length = i ∧ Nums K H' zs ((ts.take i).map fun t => Rat.divInt t b)) ⟨Same.refl _, rfl, .nil⟩ (fun i zs H' _ p => ⟨Same.seq p.1 hS, p.2.1⟩) (by rw [ll]; exact Nat.le_of_lt (small1000 hz)) ?_ ?_
  · rintro i x zs H' hx ⟨sm, hl, hn⟩
    rw [List.getElem?_map] at hx
    cases et : ts[i]? with
    | none => rw [et] at hx; cases hx
    | some t =>
      rw [et] at hx
      cases hx
      refine ⟨_, rfl, _, rfl, t, b, rfl, hb, fun p hp => ⟨sm.trans (Same.new hp), by simp [hl], ?_⟩⟩
      rw [List.take_add_one, et, List.map_append]
      exact Paired.snoc (Nums.same hn (Same.new hp)) (NumV.of upd_same)
  · rintro zs H' ⟨sm, hl, hn⟩ p hp
    rw [ll, List.take_length] at hn
    refine ⟨p, zs, _, rfl, SqL.of upd_same, Nums.same hn (Same.new hp), by rw [List.length_map]; exact hz, fun r H2 s2 c => q r H2 ((sm.trans (Same.new hp)).trans s2) c⟩
theorem sc_raised : FnScope ["base", "many", "power", "turn"] ["base", "many"] (defScope (top 24)) := ⟨rfl, rfl, rfl, by decide +kernel, rfl, by decide +kernel, by decide +kernel⟩
set_option maxHeartbeats 4000000 in
theorem ok_raised {f : Addr} {fd : FuncData} (F : Fun K "raised" "raised" (top 24) f fd) (b_range : mg "range" = none) (hT : P.given.tree = none) :
    FnOk P w K mg base CX0 33 f fd ["base", "many"] (spRaised) := by
  refine F.ok sc_raised (fun vs H Q E h => ?_) (fun cdv A outer s H vs Q E hr h => ?_)
  · obtain ⟨_, _, _, rfl, _⟩ := h; rfl
  refine ⟨_, (pss_consC (K := K) (ps_set (i := 2) sc_raised.nd rfl (Or.inl rfl) pe_int)
    (pss_consC (K := K) (ps_forC (K := K) PassesOwn.never rfl (pi_range1 rfl b_range (pa_cons (pv 1) pa_nil)) (pg_name (i := 3) sc_raised.nd rfl (Or.inl rfl)) (pss_one (ps_set (i := 2) sc_raised.nd rfl (Or.inl rfl) (pe_op op_mulC (pv 2) (pv 0)))) (by rfl))
    (pss_one (ps_ret (pv 2))) (by rfl)) (by rfl)), ?_⟩
  obtain ⟨b, n, L, rfl, hn, hb, hL, q⟩ := h
  refine ⟨_, rfl, _, rfl, by lia, by lia, ?_⟩
  rw [Int.toNat_natCast]
  refine for_range (n := n) (L3 H b n fun H b n i σ H' => H' = H ∧ ∃ z, σ = [some (.int b), some (.int n), some (.int (b ^ i)), z]) ⟨rfl, none, by rw [Int.pow_zero]; rfl⟩ ?_ ?_
  · rintro i σ H' hi ⟨rfl, z, rfl⟩
    have hLi : L * i ≤ L * n := Nat.mul_le_mul_left _ (by lia)
    exact ⟨_, rfl, _, rfl, _, _, rfl, rfl, MulC.bd (Bd.pow hb i) hb (by lia), rfl, some (.int (0 + (i : Int))), by rw [Int.pow_succ]; rfl⟩
  · rintro σ H' ⟨rfl, z, rfl⟩
    exact ⟨_, rfl, q⟩
theorem sc_divided : FnScope ["one", "other", "bottom", "under", "second", "parts", "scale", "often"] ["one", "other"] (defScope (top 26)) := ⟨rfl, rfl, rfl, by decide +kernel, rfl, by decide +kernel, by decide +kernel⟩
set_option maxHeartbeats 4000000 in
theorem ok_divided {f : Addr} {fd : FuncData} (F : Fun K "divided" "divided" (top 26) f fd) (F_bottom_of : Fd P w K mg base 34 "bottom_of" ["numbers"] (spBot K)) (F_tops_over : Fd P w K mg base 33 "tops_over" ["numbers", "bottom"] (spTops K)) (F_whole_division : Fd P w K mg base 33 "whole_division" ["first", "second"] (spDiv K)) (F_curve_over : Fd P w K mg base 35 "curve_over" ["tops", "bottom"] (spCurveOver K)) (F_raised : Fd P w K mg base 33 "raised" ["base", "many"] (spRaised)) (b_len : mg "len" = none) (hT : P.given.tree = none) :
    FnOk P w K mg base CX0 36 f fd ["one", "other"] (spDivd9 K) := by
  refine F.ok sc_divided (fun vs H Q E h => ?_) (fun cdv A outer s H vs Q E hr h => ?_)
  · obtain ⟨_, _, _, _, _, _, _, rfl, _⟩ := h; rfl
  refine ⟨_, (pss_consC (K := K) (ps_ifC (K := K) (pt_cmpR op_eq (pe_callB (lenK K) rfl b_len bt_len (pa_cons (pv 1) pa_nil)) pe_int (nomark _)) (pss_one ps_never) pss_nil (by rfl) (by rfl))
    (pss_consC (K := K) (ps_set (i := 2) sc_divided.nd rfl (Or.inl rfl) (pe_fn F_bottom_of hr rfl (pa_cons (pv 0) pa_nil)))
    (pss_consC (K := K) (ps_set (i := 3) sc_divided.nd rfl (Or.inr rfl) (pe_fn F_bottom_of hr rfl (pa_cons (pv 1) pa_nil)))
    (pss_consC (K := K) (ps_set (i := 4) sc_divided.nd rfl (Or.inl rfl) (pe_fn F_tops_over hr rfl (pa_cons (pv 1) (pa_cons (pv 3) pa_nil))))
    (pss_consC (K := K) (ps_set (i := 5) sc_divided.nd rfl (Or.inl rfl) (pe_fn F_whole_division hr rfl (pa_cons (pe_fn F_tops_over hr rfl (pa_cons (pv 0) (pa_cons (pv 2) pa_nil))) (pa_cons (pv 4) pa_nil))))
    (pss_consC (K := K) (ps_set (i := 6) sc_divided.nd rfl (Or.inl rfl) (pe_op op_mulC (pv 2) (pe_fn F_raised hr rfl (pa_cons (pe_ix (ixL K) (pv 4) (pe_un un_neg pe_int) (fun u v => rfl)) (pa_cons (pe_callB (lenK K) rfl b_len bt_len (pa_cons (pe_ix (ixT K) (pv 5) pe_int (fun u v => rfl)) pa_nil)) pa_nil)))))
    (pss_consC (K := K) (ps_set (i := 7) sc_divided.nd rfl (Or.inl rfl) (pe_fn F_curve_over hr rfl (pa_cons (pe_lc rfl (N := ["top", "under"]) (nt := 1) (js := [3]) (CompOk.look (NX := ["one", "other", "bottom", "under", "second", "parts", "scale", "often"]) (sc := defScope (top 26)) rfl rfl (by decide +kernel)) (piL K (pe_ix (ixT K) (pv 5) pe_int (fun u v => rfl))) (fun u1 u2 u3 u4 u5 => (pg_name (i := 0) (show List.Nodup (["top", "under"] : List Str) from by decide +kernel) rfl (Or.inl rfl))) (stays_name (by decide)) (fun u1 u2 u3 u4 u5 => pts_nil) (fun u1 u2 u3 u4 u5 => (pe_op op_mulC (pv 0) (pv 1)))) (pa_cons (pv 6) pa_nil))))
    (pss_one (ps_ret (pe_tup (pa_cons (pv 7) (pa_cons (pe_fn F_curve_over hr rfl (pa_cons (pe_ix (ixT K) (pv 5) pe_int (fun u v => rfl)) (pa_cons (pv 6) pa_nil))) pa_nil))))) (by rfl)) (by rfl)) (by rfl)) (by rfl)) (by rfl)) (by rfl)) (by rfl)), ?_⟩
  obtain ⟨r, u, qs, ps, m, L, C, rfl, ⟨xs, hS, hn⟩, ⟨ys, hT', hm⟩, gq, hne, gp, hB, hC, hm1, hL1, hCC, hq8, hp8, q⟩ := h
  have P2 : 2 ≤ sizeLine := by decide
  have hl := hn.length
  have hly := hm.length
  have hp1 : 1 ≤ ps.length := List.length_pos_iff.mpr hne
  have nq : m * qs.length ≤ 100000 * 8 := Nat.mul_le_mul hm1 hq8
  have np : L * ps.length ≤ 1000000 * 8 := Nat.mul_le_mul hL1 hp8
  refine ⟨_, rfl, u, ys, rfl, .inr hT', rfl, _, rfl, ?_⟩
  refine iteFc (by rw [decide_eq_false (fun z => by have := V.int.inj z; lia)] <;> rfl) ?_
  refine ⟨_, rfl, false, r, xs, qs, m, rfl, hS, hn, (fun c hc => (hB c hc).2), by rw [Nat.mul_add]; lia, fun B hB0 hdB hbB => ?_⟩
  refine ⟨_, rfl, false, u, ys, ps, L, rfl, hT', hm, (fun c hc => (hC c hc).2), by rw [Nat.mul_add]; lia, fun U hU0 hdU hbU => ?_⟩
  refine ⟨_, rfl, _, rfl, false, u, ys, ps, U, L * ps.length + 1, L, rfl, hT', hm, hbU, (fun c hc => (hC c hc).1), by lia, by lia, fun se hse => ?_⟩
  have s1 : Same H (upd H se (.lst ((ps.map (topOf U)).map V.int))) := Same.new hse
  refine ⟨_, rfl, _, rfl, false, r, xs, qs, B, m * qs.length + 1, m, rfl, SqT.same hS s1, Nums.same hn s1, hbB, (fun c hc => (hB c hc).1), by lia, by lia, fun fa hfa => ?_⟩
  have s2 := s1.trans (Same.new (o := .lst ((qs.map (topOf B)).map V.int)) hfa)
  have ese := (Same.new (o := .lst ((qs.map (topOf B)).map V.int)) hfa) _ _ (upd_same (H := H) (a := se) (o := .lst ((ps.map (topOf U)).map V.int)))
  have efa : (upd (upd H se (.lst ((ps.map (topOf U)).map V.int))) fa (.lst ((qs.map (topOf B)).map V.int))) fa = some (.lst ((qs.map (topOf B)).map V.int)) := upd_same
  generalize upd (upd H se (.lst ((ps.map (topOf U)).map V.int))) fa (.lst ((qs.map (topOf B)).map V.int)) = H2 at s2 ese efa ⊢
  obtain ⟨lead, hlead, hl0⟩ := (tops_last gp hne hU0 hdU)
  have bF : ∀ t ∈ qs.map (topOf B), Bd (m * qs.length + m + 1) t := fun t ht => by
    obtain ⟨c, hc, rfl⟩ := (List.mem_map.mp ht)
    exact ((hB c hc).1.mul (hbB.fdiv (y := c.den))).mono (by lia)
  have bG : ∀ t ∈ ps.map (topOf U), Bd (L * ps.length + L + 1) t := fun t ht => by
    obtain ⟨c, hc, rfl⟩ := (List.mem_map.mp ht)
    exact ((hC c hc).1.mul (hbU.fdiv (y := c.den))).mono (by lia)
  refine ⟨_, rfl, fa, se, qs.map (topOf B), ps.map (topOf U), lead, m * qs.length + m + 1, L * ps.length + L + 1, rfl, SqL.of efa, SqL.of ese, hlead, by rw [List.length_map]; lia, by rw [List.length_map]; lia, bF, bG, by rw [List.length_map]; have := Nat.mul_le_mul_right (L * ps.length + L + 1 + 1) hq8; lia, by lia, fun pt pa pb H3 os rs s3 ept epa epb dv => ?_⟩
  have ese3 := s3 _ _ ese
  have hol : os.length = qs.length + 1 - ps.length := by have := dv.ol; rw [List.length_map, List.length_map] at this; exact this
  have hk8 : os.length ≤ 8 := by lia
  rw [← hol] at hCC
  have hkb : os.length * (L * ps.length + L + 1 + 1) ≤ 8 * (L * ps.length + L + 1 + 1) := Nat.mul_le_mul_right _ hk8
  have hkc : (L * ps.length + L + 1) * os.length ≤ os.length * (L * ps.length + L + 1 + 1) := by rw [Nat.mul_comm]; exact Nat.mul_le_mul_left _ (Nat.le_succ _)
  have hlv : ((ps.map (topOf U)).map V.int)[((ps.map (topOf U)).map V.int).length - 1]? = some (V.int lead) := by rw [List.length_map, List.getElem?_map, hlead]; rfl
  have blead : Bd (L * ps.length + L + 1) lead := bG _ (List.mem_of_getElem? hlead)
  have lo : (os.map V.int).length = os.length := List.length_map _
  have bpow : Bd ((L * ps.length + L + 1) * os.length + 1) (lead ^ os.length) := Bd.pow blead _
  refine ⟨_, rfl, _, rfl, _, rfl, se, _, _, _, rfl, rfl, SqL.of ese3, atI_back hlv, _, rfl, pt, _, _, _, rfl, rfl, SqT.of ept, rfl, pa, _, rfl, .inl (SqL.of epa), lead, os.length, L * ps.length + L + 1, by rw [lo]; rfl, by lia, blead, by lia, _, _, rfl, rfl, MulC.bd hbB bpow (by lia), ?_⟩
  have hsc : B * lead ^ os.length ≠ 0 := Int.mul_ne_zero (by lia) (Int.pow_ne_zero hl0)
  refine lc_of ⟨_, rfl, pt, _, _, _, rfl, rfl, SqT.of ept, rfl, pa, rfl, ⟨_, SqL.of epa⟩, ?_⟩
  refine lc_lst (xs := os.map V.int) (fun i zs H4 => H4 = H3 ∧ zs = ((os.take i).map (· * U)).map V.int) ⟨rfl, rfl⟩ (fun i zs H4 hi p => ⟨by rw [p.1]; exact SqL.of epa, by rw [p.2, List.length_map, List.length_map, List.length_take]; rw [List.length_map] at hi; lia⟩) (by rw [lo]; exact Nat.le_of_lt (small1000 (by lia))) ?_ ?_
  · rintro i v zs H4 hv ⟨rfl, rfl⟩
    rw [List.getElem?_map] at hv
    cases et : os[i]? with
    | none => rw [et] at hv; cases hv
    | some t =>
      rw [et] at hv
      cases hv
      refine ⟨_, rfl, _, rfl, _, _, rfl, rfl, MulC.bd (dv.ob t (List.mem_of_getElem? et)) hbU (by lia), rfl, ?_⟩
      rw [List.take_add_one, et, List.map_append, List.map_append]
      rfl
  rintro zs H4 ⟨rfl, rfl⟩ l1 hl1
  rw [show os.take (os.map V.int).length = os by rw [lo, List.take_length]]
  have s4 : Same H4 (upd H4 l1 (.lst ((os.map (· * U)).map V.int))) := Same.new hl1
  refine ⟨_, rfl, l1, os.map (· * U), _, rfl, SqL.of upd_same, hsc, by rw [List.length_map]; lia, fun a H5 s5 ca => ?_⟩
  have s45 := s4.trans s5
  refine ⟨_, rfl, _, rfl, pt, _, _, _, rfl, rfl, SqT.of (s45 _ _ ept), rfl, _, rfl, pb, rs, _, rfl, SqL.of (s45 _ _ epb), hsc, by rw [dv.rl, List.length_map, List.length_map]; lia, fun b H6 s6 cb => ?_⟩
  refine ⟨P2, fun p hp => ?_⟩
  have s7 : Same H6 (upd H6 p (.tup [.ref a, .ref b])) := Same.new hp
  have go : Good ((os.map (· * U)).map fun t => Rat.divInt t (B * lead ^ os.length)) := by
    by_cases h0 : os = []
    · left; rw [h0]; rfl
    · obtain ⟨t, ht, ho⟩ := (dv.top h0)
      have hqn : qs ≠ [] := fun z => by rw [z] at ht; cases ht
      obtain ⟨t', ht', h0'⟩ := (tops_last gq hqn hB0 hdB)
      rw [ht] at ht'
      cases ht'
      right
      refine ⟨_, by rw [List.length_map, List.length_map, List.getElem?_map, List.getElem?_map, ho]; rfl, fun z => ?_⟩
      have z2 : (lead ^ (os.length - 1) * t * U) ≠ 0 := Int.mul_ne_zero (Int.mul_ne_zero (Int.pow_ne_zero hl0) h0') (by lia)
      exact div_ne z2 hsc z
  rw [strip_good go] at ca
  have hsl := Cv.strip_length (rs.map fun t => Rat.divInt t (B * lead ^ os.length))
  refine q p a b _ _ _ (((((s2.trans s3).trans s45).trans s6).trans s7)) upd_same (ca.same (s6.trans s7)) (cb.same s7) go (good_strip _) (by rw [List.length_map, List.length_map]; exact hol) ?_ (fun x => ?_) fun c hc => ?_
  · rw [List.length_map, dv.rl, List.length_map, List.length_map] at hsl
    lia
  · rw [Cv.ev_strip]
    have h1 := dv.ev x
    have h2 := ev_divs (os.map (· * U)) _ hsc x
    have h3 := ev_divs rs _ hsc x
    have h4 : Cv.evI (os.map (· * U)) x = Cv.evI os x * (U : Rat) := by
      have := Cv.evI_scale x U os
      rw [show os.map (· * U) = os.map (U * ·) from List.map_congr_left fun t _ => Int.mul_comm t U, this, Rat.mul_comm]
    have h5 : Cv.evI (qs.map (topOf B)) x = Cv.ev qs x * (B : Rat) := tops_ev hdB x
    have h6 : Cv.evI (ps.map (topOf U)) x = Cv.ev ps x * (U : Rat) := tops_ev hdU x
    have hc : ((B * lead ^ os.length : Int) : Rat) ≠ 0 := Nm.cast_ne hsc
    have h7 : ((B * lead ^ os.length : Int) : Rat) = (B : Rat) * ((lead ^ os.length : Int) : Rat) := Rat.intCast_mul ..
    generalize Cv.ev ((os.map (· * U)).map fun t => Rat.divInt t (B * lead ^ os.length)) x = X at h2 ⊢
    generalize Cv.ev (rs.map fun t => Rat.divInt t (B * lead ^ os.length)) x = Y at h3 ⊢
    generalize ((B * lead ^ os.length : Int) : Rat) = C at *
    have h8 : (Cv.ev qs x - (X * Cv.ev ps x + Y)) * C = 0 := by
      rw [h5, h6] at h1
      rw [h4] at h2
      have : Cv.ev qs x * C = (X * C) * Cv.ev ps x + Y * C := by rw [h2, h3, h7]; grind
      grind
    rcases Rat.mul_eq_zero.mp h8 with z | z
    · grind
    · exact absurd z hc
  · obtain ⟨t', ht', rfl⟩ := (List.mem_map.mp hc)
    obtain ⟨t, ht, rfl⟩ := (List.mem_map.mp ht')
    exact RB.div (m := 0) (((dv.ob t ht).mul hbU).mono (by lia)) ((hbB.mul bpow).mono (by lia)) hsc
theorem sc_without_last_noughts : FnScope ["tops", "width"] ["tops"] (defScope (top 27)) := ⟨rfl, rfl, rfl, by decide +kernel, rfl, by decide +kernel, by decide +kernel⟩
set_option maxHeartbeats 4000000 in
theorem ok_without_last_noughts {f : Addr} {fd : FuncData} (F : Fun K "without_last_noughts" "without_last_noughts" (top 27) f fd) (b_len : mg "len" = none) (hT : P.given.tree = none) :
    FnOk P w K mg base CX0 33 f fd ["tops"] (spWLN K) := by
  refine F.ok sc_without_last_noughts (fun vs H Q E h => ?_) (fun cdv A outer s H vs Q E hr h => ?_)
  · obtain ⟨_, _, rfl, _⟩ := h; rfl
  refine ⟨_, (pss_consC (K := K) (ps_set (i := 1) sc_without_last_noughts.nd rfl (Or.inl rfl) (pe_callB (lenK K) rfl b_len bt_len (pa_cons (pv 0) pa_nil)))
    (pss_consC (K := K) (ps_while PassesOwn.never (PW.pt (pw_and (pt_cmpR op_gt (pv 1) pe_int (nomark _)) (pw_and1 (pt_cmpR op_eq (pe_ix (ixL K) (pv 0) (pe_op op_sub (pv 1) pe_int) (fun u v => rfl)) pe_int (nomark _))))) (pss_one (ps_set (i := 1) sc_without_last_noughts.nd rfl (Or.inl rfl) (pe_op op_sub (pv 1) pe_int))))
    (pss_one (ps_ret (pe_slice (slL K) (pv 0) po_none (po_some (pv 1))))) (by rfl)) (by rfl)), ?_⟩
  obtain ⟨r, ts, rfl, hS, q⟩ := h
  have hl : (ts.map V.int).length = ts.length := List.length_map _
  refine ⟨_, rfl, r, _, rfl, .inl hS, ?_⟩
  refine wh_by (L3 H r ts fun H r ts σ H' => H' = H ∧ ∃ (v : Nat), σ = [some (.ref r), some (.int (v : Int))] ∧ v ≤ ts.length ∧ ∀ j, v ≤ j → ts.getD j 0 = 0) (fun σ _ => mu 1 σ) ⟨rfl, ts.length, by rw [← hl]; rfl, Nat.le_refl _, fun j hj => by rw [List.getD_eq_getElem?_getD, List.getElem?_eq_none hj]; rfl⟩ ?_
  rintro σ H' hR1
  refine anE2 hR1 fun hq56 hz58 => ?_
  refine exE1 hz58 fun v hz58' => ?_
  clear hz58
  refine anE3 hz58' fun hq57 hv hall => ?_
  clear hz58'
  obtain rfl := hq56
  obtain rfl := hq57
  try clear hR1
  have fin : (1 ≤ v → ts.getD (v - 1) 0 ≠ 0) → ∀ p, H' p = none → Q (.ref p) (upd H' p (.lst (cutV (ts.map V.int) none (some (v : Int))))) := fun hc p hp => by
    rw [cut_to, ← List.map_take]
    exact q p _ v hv hall hc (Same.new hp) upd_same
  refine ⟨_, rfl, _, _, rfl, rfl, _, rfl, ?_⟩
  by_cases hv0 : v = 0
  · subst hv0
    refine iteF (iteF ?_)
    exact ⟨_, rfl, _, rfl, _, rfl, r, _, rfl, hS, fun p hp => fin (fun h => absurd h (by lia)) p hp⟩
  · refine iteTc (by rw [decide_eq_true (show (0 : Int) < (v : Int) by lia)] <;> rfl) ?_
    have hat : atI (ts.map V.int) ((v : Int) - 1) = some (.int (ts.getD (v - 1) 0)) := at_plus (i := v - 1) (by rw [List.getD_eq_getElem?_getD, List.getElem?_eq_getElem (show v - 1 < ts.length by lia)]; rfl) (by lia)
    refine ⟨_, rfl, _, rfl, _, _, rfl, rfl, r, _, _, _, rfl, rfl, hS, hat, rfl, _, rfl, ?_⟩
    by_cases hq0 : ts.getD (v - 1) 0 = 0
    · refine iteTc (by rw [decide_eq_true (show V.int (ts.getD (v - 1) 0) = V.int 0 by rw [hq0])] <;> rfl) (wh_go ?_)
      refine ⟨_, rfl, _, _, rfl, rfl, ⟨rfl, v - 1, ?_, by lia, fun j hj => ?_⟩, ?_⟩
      · show [some (V.ref r), some (V.int ((v : Int) - 1))] = [some (V.ref r), some (V.int ((v - 1 : Nat) : Int))]
        rw [show (v : Int) - 1 = ((v - 1 : Nat) : Int) by lia]
      · by_cases hjv : v ≤ j
        · exact hall j hjv
        · rw [show j = v - 1 by lia]; exact hq0
      · show ((v : Int) - 1).toNat < (v : Int).toNat
        lia
    · refine iteFc (by rw [decide_eq_false (show ¬ V.int (ts.getD (v - 1) 0) = V.int 0 from fun z => hq0 (V.int.inj z))] <;> rfl) ?_
      exact ⟨_, rfl, _, rfl, _, rfl, r, _, rfl, hS, fun p hp => fin (fun _ => hq0) p hp⟩
theorem sc_last_rest : FnScope ["great", "small", "lead", "held", "drop", "factor", "rest"] ["great", "small"] (defScope (top 28)) := ⟨rfl, rfl, rfl, by decide +kernel, rfl, by decide +kernel, by decide +kernel⟩
set_option maxHeartbeats 4000000 in
theorem ok_last_rest {f : Addr} {fd : FuncData} (F : Fun K "last_rest" "last_rest" (top 28) f fd) (F_without_last_noughts : Fd P w K mg base 33 "without_last_noughts" ["tops"] (spWLN K)) (F_raised : Fd P w K mg base 33 "raised" ["base", "many"] (spRaised)) (F_whole_division : Fd P w K mg base 33 "whole_division" ["first", "second"] (spDiv K)) (b_len : mg "len" = none) (hT : P.given.tree = none) :
    FnOk P w K mg base CX0 34 f fd ["great", "small"] (spLRest K) := by
  refine F.ok sc_last_rest (fun vs H Q E h => ?_) (fun cdv A outer s H vs Q E hr h => ?_)
  · obtain ⟨_, _, _, _, _, _, rfl, _⟩ := h; rfl
  refine ⟨_, (pss_consC (K := K) (ps_set (i := 2) sc_last_rest.nd rfl (Or.inl rfl) pe_int)
    (pss_consC (K := K) (ps_set (i := 3) sc_last_rest.nd rfl (Or.inl rfl) pe_int)
    (pss_consC (K := K) (ps_while PassesOwn.never (pt_cmpR op_gt (pe_callB (lenK K) rfl b_len bt_len (pa_cons (pv 1) pa_nil)) pe_int (nomark _)) (pss_consC (K := K) (ps_set (i := 4) sc_last_rest.nd rfl (Or.inl rfl) (pe_op op_sub (pe_callB (lenK K) rfl b_len bt_len (pa_cons (pv 0) pa_nil)) (pe_callB (lenK K) rfl b_len bt_len (pa_cons (pv 1) pa_nil))))
    (pss_consC (K := K) (ps_set (i := 5) sc_last_rest.nd rfl (Or.inr rfl) (pe_op op_mulC (pv 2) (pe_fn F_raised hr rfl (pa_cons (pv 3) (pa_cons (pv 4) pa_nil)))))
    (pss_consC (K := K) (ps_set (i := 6) sc_last_rest.nd rfl (Or.inl rfl) (pe_fn F_without_last_noughts hr rfl (pa_cons (pe_ix (ixT K) (pe_fn F_whole_division hr rfl (pa_cons (pv 0) (pa_cons (pv 1) pa_nil))) pe_int (fun u v => rfl)) pa_nil)))
    (pss_consC (K := K) (ps_set (i := 0) sc_last_rest.nd rfl (Or.inl rfl) (pv 1))
    (pss_consC (K := K) (ps_lc (i := 1) rfl sc_last_rest.nd rfl rfl (N := ["top", "factor"]) (nt := 1) (js := [5]) (CompOk.look (NX := ["great", "small", "lead", "held", "drop", "factor", "rest"]) (sc := defScope (top 28)) rfl rfl (by decide +kernel)) (piL K (pv 6)) (fun u1 u2 u3 u4 u5 => (pg_name (i := 0) (show List.Nodup (["top", "factor"] : List Str) from by decide +kernel) rfl (Or.inl rfl))) (stays_name (by decide)) (fun u1 u2 u3 u4 u5 => pts_nil) (fun u1 u2 u3 u4 u5 => (pe_op (op_fdivX hr hT) (pv 0) (pv 1))) rfl)
    (pss_consC (K := K) (ps_set (i := 2) sc_last_rest.nd rfl (Or.inl rfl) (pe_ix (ixL K) (pv 0) (pe_un un_neg pe_int) (fun u v => rfl)))
    (pss_one (ps_ifC (K := K) (pt_cmpR op_gt (pv 4) pe_int (nomark _)) (pss_one (ps_set (i := 3) sc_last_rest.nd rfl (Or.inl rfl) (pe_op (op_fdivX hr hT) (pe_fn F_raised hr rfl (pa_cons (pv 2) (pa_cons (pv 4) pa_nil))) (pe_fn F_raised hr rfl (pa_cons (pv 3) (pa_cons (pe_op op_sub (pv 4) pe_int) pa_nil)))))) pss_nil (by rfl) (by rfl))) (by rfl)) (by rfl)) (by rfl)) (by rfl)) (by rfl)) (by rfl)))
    (pss_one (ps_ret (pv 0))) (by rfl)) (by rfl)) (by rfl)), ?_⟩
  obtain ⟨f, g, fs, gs, W, X, rfl, hf, hg, h1, hle, h8, t1, t2, hbf, hbg, hX, hX8, q⟩ := h
  have I0 := LRJ.first h1 hle h8 t1 t2 hbf hbg hX
  have hSb : ∀ k j, Bd X ((fun k j => Dt.sub (fs.length - 1) (gs.length - 1) k (tf fs) (tf gs) j) k j) := fun k j => sub_bd h8 hle hbf hbg hX k j
  generalize (fun k j => Dt.sub (fs.length - 1) (gs.length - 1) k (tf fs) (tf gs) j) = S at I0 hSb
  refine wh_by (L6 H K S fs gs X fun H K S fs gs X σ H' => Same H H' ∧ ∃ (f' g' : Addr) (fs' gs' : List Int) (lead held : Int) (z4 z5 z6 : Option V), σ = [some (.ref f'), some (.ref g'), some (.int lead), some (.int held), z4, z5, z6] ∧ SqL K H' f' (fs'.map V.int) ∧ H' g' = some (.lst (gs'.map V.int)) ∧ LRJ S fs gs fs' gs' lead held X ∧ fs'.length ≤ fs.length) (ml 1)
    ⟨Same.refl _, f, g, fs, gs, 1, 1, none, none, none, rfl, hf, hg, I0, Nat.le_refl _⟩ ?_
  rintro σ H' hR1
  refine anE2 hR1 fun sm hz60 => ?_
  refine exE9 hz60 fun f' g' fs' gs' lead held z4 z5 z6 hz60' => ?_
  clear hz60
  refine anE5 hz60' fun hq59 hf' hg' I hl' => ?_
  clear hz60'
  obtain rfl := hq59
  try clear hR1
  have lf : (fs'.map V.int).length = fs'.length := List.length_map _
  have lg : (gs'.map V.int).length = gs'.length := List.length_map _
  refine ⟨_, rfl, g', _, rfl, .inl (SqL.of hg'), _, _, rfl, rfl, _, rfl, ?_⟩
  by_cases h0 : gs' = []
  · refine iteFc (by rw [decide_eq_false (show ¬ ((0 : Int) < ((gs'.map V.int).length : Int)) by rw [h0]; decide)] <;> rfl) ?_
    have c := I.com
    rw [h0] at c
    exact ⟨_, rfl, q f' H' fs' sm hf' I.lr.fp hl' I.t1 c I.bf⟩
  have hg1 : 1 ≤ gs'.length := List.length_pos_iff.mpr h0
  refine iteTc (by rw [decide_eq_true (show (0 : Int) < ((gs'.map V.int).length : Int) by rw [lg]; lia)] <;> rfl) (wh_go ?_)
  have hle' := I.le
  have l8 := I.l10
  have hfp := I.lr.fp
  have ed : ((fs'.map V.int).length : Int) - ((gs'.map V.int).length : Int) = ((fs'.length - gs'.length : Nat) : Int) := by rw [lf, lg]; lia
  refine ⟨_, rfl, f', _, rfl, .inl hf', _, rfl, g', _, rfl, .inl (SqL.of hg'), _, _, rfl, rfl, ?_⟩
  rw [ed]
  have c4 : X + fs'.length * (X + 1) + X ≤ 100000000 := by
    have := Nat.mul_le_mul_right (X + 1) l8
    lia
  have c2 : X * (fs'.length - gs'.length) + X ≤ 100000000 := by
    have := Nat.mul_le_mul_left X (show fs'.length - gs'.length ≤ 10 by lia)
    lia
  have bh := I.bh
  have bp := Bd.pow bh (fs'.length - gs'.length)
  have hgl : gs'[gs'.length - 1]? = some (gs'[gs'.length - 1]'(by lia)) := List.getElem?_eq_getElem _
  generalize gs'[gs'.length - 1]'(by lia) = gl at hgl
  have hlv : (gs'.map V.int)[(gs'.map V.int).length - 1]? = some (V.int gl) := by rw [lg, List.getElem?_map, hgl]; rfl
  have bgl : Bd X gl := I.bg _ (List.mem_of_getElem? hgl)
  refine ⟨_, rfl, _, rfl, _, rfl, held, fs'.length - gs'.length, X, rfl, by lia, bh, c2, _, _, rfl, rfl, MulC.bd I.bl bp (by lia), ?_⟩
  refine ⟨_, rfl, _, rfl, f', g', fs', gs', gl, X, X, rfl, hf', SqL.of hg', hgl, by lia, by lia, I.bf, I.bg, c4, by lia, fun pt pa pb H3 os rs s3 ept epa epb dv => ?_⟩
  refine ⟨pt, _, _, _, rfl, rfl, SqT.of ept, rfl, pb, rs, rfl, SqL.of epb, fun rp H4 w hw hz hlast s4 e4 => ?_⟩
  have sm4 := s3.trans s4
  have ho := dv.ol
  have hr : rs.length = gs'.length - 1 := by have := dv.rl; lia
  have key := fun held' => LRJ.next (held' := held') I hSb hgl ho hr dv.ev hw hz hlast
  generalize hF : lead * held ^ (fs'.length - gs'.length) = φ at key ⊢
  have hφ : φ ≠ 0 := by
    rcases Nat.eq_or_lt_of_le hle' with z | z
    · exact (key held (.inr ⟨z.symm, rfl⟩)).1
    · exact (key _ (.inl ⟨z, rfl⟩)).1
  refine ⟨_, rfl, ?_⟩
  refine lc_of ⟨_, rfl, rp, rfl, ⟨_, SqL.of e4⟩, ?_⟩
  have lt : ((rs.take w).map V.int).length = w := by rw [List.length_map, List.length_take]; lia
  refine lc_lst (xs := (rs.take w).map V.int) (L3 H4 rs w fun H4 rs w i zs H5 => H5 = H4 ∧ zs = (((rs.take w).take i).map fun t => Int.fdiv t φ).map V.int) ⟨rfl, rfl⟩ (fun i zs H5 hi p => ⟨by rw [p.1]; exact SqL.of e4, by rw [p.2, List.length_map, List.length_map, List.length_take, List.length_take]; lia⟩) (by rw [lt]; exact Nat.le_of_lt (small1000 (by lia))) ?_ ?_
  · rintro i v zs H5 hv ⟨rfl, rfl⟩
    rw [List.getElem?_map] at hv
    cases et : (rs.take w)[i]? with
    | none => rw [et] at hv; cases hv
    | some t =>
      rw [et] at hv
      cases hv
      refine ⟨_, rfl, _, rfl, _, _, rfl, rfl, hφ, rfl, ?_⟩
      rw [List.take_add_one, et, List.map_append, List.map_append]
      rfl
  rintro zs H5 ⟨rfl, rfl⟩ nl hnl
  rw [show (rs.take w).take ((rs.take w).map V.int).length = rs.take w by rw [lt, List.take_of_length_le (by rw [List.length_take]; lia)]]
  generalize hh : ((rs.take w).map fun t => Int.fdiv t φ) = hs at key ⊢
  have hhl : hs.length = w := by rw [← hh, List.length_map, List.length_take]; lia
  have s5 : Same H5 (upd H5 nl (.lst (hs.map V.int))) := Same.new hnl
  have e5 : (upd H5 nl (.lst (hs.map V.int))) nl = some (.lst (hs.map V.int)) := upd_same
  have sm5 := sm4.trans s5
  generalize upd H5 nl (.lst (hs.map V.int)) = H6 at s5 e5 sm5 ⊢
  have hg6 := sm5 _ _ hg'
  have less : hs.length < gs'.length := by lia
  refine ⟨_, rfl, _, rfl, g', _, _, _, rfl, rfl, SqL.of hg6, atI_back hlv, ?_⟩
  refine ⟨_, rfl, _, _, rfl, rfl, _, rfl, ?_⟩
  have c6 : X * (fs'.length - gs'.length - 1) + X ≤ 100000000 := by
    have := Nat.mul_le_mul_left X (show fs'.length - gs'.length - 1 ≤ 10 by lia)
    lia
  by_cases hd : gs'.length < fs'.length
  · refine iteTc (by rw [decide_eq_true (show (0 : Int) < ((fs'.length - gs'.length : Nat) : Int) by lia)] <;> rfl) ?_
    have h00 := (I.lr.srs hg1).h0
    refine ⟨_, rfl, _, rfl, gl, fs'.length - gs'.length, X, rfl, by lia, bgl, c2, _, rfl, _, rfl, _, _, rfl, rfl, held, fs'.length - gs'.length - 1, X, by rw [show ((fs'.length - gs'.length : Nat) : Int) - 1 = ((fs'.length - gs'.length - 1 : Nat) : Int) by lia]; rfl, by lia, bh, c6, _, _, rfl, rfl, Int.pow_ne_zero h00, ?_⟩
    obtain ⟨_, J, _⟩ := (key _ (.inl ⟨hd, rfl⟩))
    refine ⟨⟨sm.trans sm5, g', nl, gs', hs, gl, _, _, _, _, rfl, SqL.of hg6, e5, J, by lia⟩, ?_⟩
    show (match H6 nl with | some (.lst xs) => xs.length | _ => 0) < (match H' g' with | some (.lst xs) => xs.length | _ => 0)
    rw [e5, hg']
    show (hs.map V.int).length < (gs'.map V.int).length
    rw [List.length_map, List.length_map]; exact less
  · refine iteFc (by rw [decide_eq_false (show ¬ (0 : Int) < ((fs'.length - gs'.length : Nat) : Int) by lia)] <;> rfl) ?_
    obtain ⟨_, J, _⟩ := (key held (.inr ⟨by lia, rfl⟩))
    refine ⟨⟨sm.trans sm5, g', nl, gs', hs, gl, _, _, _, _, rfl, SqL.of hg6, e5, J, by lia⟩, ?_⟩
    show (match H6 nl with | some (.lst xs) => xs.length | _ => 0) < (match H' g' with | some (.lst xs) => xs.length | _ => 0)
    rw [e5, hg']
    show (hs.map V.int).length < (gs'.map V.int).length
    rw [List.length_map, List.length_map]; exact less
theorem sc_common_part : FnScope ["one", "other", "first", "second", "tops"] ["one", "other"] (defScope (top 29)) := ⟨rfl, rfl, rfl, by decide +kernel, rfl, by decide +kernel, by decide +kernel⟩
set_option maxHeartbeats 4000000 in
theorem ok_common_part {f : Addr} {fd : FuncData} (F : Fun K "common_part" "common_part" (top 29) f fd) (F_tops_over : Fd P w K mg base 33 "tops_over" ["numbers", "bottom"] (spTops K)) (F_curve_over : Fd P w K mg base 35 "curve_over" ["tops", "bottom"] (spCurveOver K)) (F_bottom_of : Fd P w K mg base 34 "bottom_of" ["numbers"] (spBot K)) (F_last_rest : Fd P w K mg base 34 "last_rest" ["great", "small"] (spLRest K)) (b_len : mg "len" = none) (hT : P.given.tree = none) :
    FnOk P w K mg base CX0 36 f fd ["one", "other"] (spCom9 K) := by
  refine F.ok sc_common_part (fun vs H Q E h => ?_) (fun cdv A outer s H vs Q E hr h => ?_)
  · obtain ⟨_, _, _, _, _, _, rfl, _⟩ := h; rfl
  refine ⟨_, (pss_consC (K := K) (ps_ifC (K := K) (PW.pt (pw_and (pt_cmpR op_eq (pe_callB (lenK K) rfl b_len bt_len (pa_cons (pv 0) pa_nil)) pe_int (nomark _)) (pw_and1 (pt_cmpR op_eq (pe_callB (lenK K) rfl b_len bt_len (pa_cons (pv 1) pa_nil)) pe_int (nomark _))))) (pss_one ps_never) pss_nil (by rfl) (by rfl))
    (pss_consC (K := K) (ps_set (i := 2) sc_common_part.nd rfl (Or.inl rfl) (pe_fn F_tops_over hr rfl (pa_cons (pv 0) (pa_cons (pe_fn F_bottom_of hr rfl (pa_cons (pv 0) pa_nil)) pa_nil))))
    (pss_consC (K := K) (ps_set (i := 3) sc_common_part.nd rfl (Or.inl rfl) (pe_fn F_tops_over hr rfl (pa_cons (pv 1) (pa_cons (pe_fn F_bottom_of hr rfl (pa_cons (pv 1) pa_nil)) pa_nil))))
    (pss_consC (K := K) (ps_ifC (K := K) (pt_cmpR op_lt (pe_callB (lenK K) rfl b_len bt_len (pa_cons (pv 2) pa_nil)) (pe_callB (lenK K) rfl b_len bt_len (pa_cons (pv 3) pa_nil)) (nomark _)) (pss_one (ps_set (i := 4) sc_common_part.nd rfl (Or.inl rfl) (pe_fn F_last_rest hr rfl (pa_cons (pv 3) (pa_cons (pv 2) pa_nil))))) (pss_one (ps_set (i := 4) sc_common_part.nd rfl (Or.inl rfl) (pe_fn F_last_rest hr rfl (pa_cons (pv 2) (pa_cons (pv 3) pa_nil))))) (by rfl) (by rfl))
    (pss_one (ps_ret (pe_fn F_curve_over hr rfl (pa_cons (pv 4) (pa_cons (pe_ix (ixL K) (pv 4) (pe_un un_neg pe_int) (fun u v => rfl)) pa_nil))))) (by rfl)) (by rfl)) (by rfl)) (by rfl)), ?_⟩
  obtain ⟨r, u, qs, ps, n, N, rfl, ⟨xs, hS, hn⟩, ⟨ys, hT', hm⟩, gq, gp, hne, hB, hC, hn1, hN, hq8, hp8, q⟩ := h
  have nN : n * N ≤ 40000 * 10 := Nat.mul_le_mul hn1 hN
  have hl := hn.length
  have hly := hm.length
  have nq : n * qs.length ≤ n * N := Nat.mul_le_mul_left _ hq8
  have np : n * ps.length ≤ n * N := Nat.mul_le_mul_left _ hp8
  refine seq_join (s := tIfS _ _ _) (L3 H r u fun H r u σ' H' => H' = H ∧ σ' = [some (.ref r), some (.ref u), none, none, none]) (fun nx hnx => ?_) ?_
  · refine ⟨_, rfl, r, xs, rfl, .inr hS, rfl, _, rfl, ?_⟩
    by_cases hq0 : qs = []
    · refine iteTc (by rw [decide_eq_true (show V.int (xs.length : Int) = V.int 0 by rw [hl, hq0]; rfl)] <;> rfl) ?_
      refine ⟨_, rfl, u, ys, rfl, .inr hT', rfl, _, rfl, ?_⟩
      have hp0 : ps ≠ [] := by
        rcases hne with z | z
        · exact absurd hq0 z
        · exact z
      have hp1 := List.length_pos_iff.mpr hp0
      exact iteFc (by rw [decide_eq_false (show ¬ V.int (ys.length : Int) = V.int 0 from fun z => by have := V.int.inj z; lia)] <;> rfl) (hnx _ _ ⟨rfl, rfl⟩)
    · have hq1 := List.length_pos_iff.mpr hq0
      exact iteFc (by rw [decide_eq_false (show ¬ V.int (xs.length : Int) = V.int 0 from fun z => by have := V.int.inj z; lia)] <;> rfl) (iteF (hnx _ _ ⟨rfl, rfl⟩))
  rintro σ' H' ⟨rfl, rfl⟩
  refine ⟨_, rfl, _, rfl, false, r, xs, qs, n, rfl, hS, hn, (fun c hc => (hB c hc).2), by rw [Nat.mul_add]; lia, fun B hB0 hdB hbB => ?_⟩
  refine ⟨false, r, xs, qs, B, n * qs.length + 1, n, rfl, hS, hn, hbB, (fun c hc => (hB c hc).1), by lia, by lia, fun fa hfa => ?_⟩
  have s1 : Same H' (upd H' fa (.lst ((qs.map (topOf B)).map V.int))) := Same.new hfa
  have efa : (upd H' fa (.lst ((qs.map (topOf B)).map V.int))) fa = some (.lst ((qs.map (topOf B)).map V.int)) := upd_same
  generalize upd H' fa (.lst ((qs.map (topOf B)).map V.int)) = H1 at s1 efa ⊢
  refine ⟨_, rfl, _, rfl, false, u, ys, ps, n, rfl, hT'.same s1, Nums.same hm s1, (fun c hc => (hC c hc).2), by rw [Nat.mul_add]; lia, fun U hU0 hdU hbU => ?_⟩
  refine ⟨false, u, ys, ps, U, n * ps.length + 1, n, rfl, hT'.same s1, Nums.same hm s1, hbU, (fun c hc => (hC c hc).1), by lia, by lia, fun fb hfb => ?_⟩
  have s2 := s1.trans (Same.new (o := .lst ((ps.map (topOf U)).map V.int)) hfb)
  have efa2 := (Same.new (o := .lst ((ps.map (topOf U)).map V.int)) hfb) _ _ efa
  have efb : (upd H1 fb (.lst ((ps.map (topOf U)).map V.int))) fb = some (.lst ((ps.map (topOf U)).map V.int)) := upd_same
  generalize upd H1 fb (.lst ((ps.map (topOf U)).map V.int)) = H2 at s2 efa2 efb ⊢
  have T1 : Top0 (qs.map (topOf B)) := fun t ht => by
    by_cases z : qs = []
    · rw [z] at ht; cases ht
    · obtain ⟨t', e, h⟩ := (tops_last gq z hB0 hdB)
      rw [ht] at e; cases e; exact h
  have T2 : Top0 (ps.map (topOf U)) := fun t ht => by
    by_cases z : ps = []
    · rw [z] at ht; cases ht
    · obtain ⟨t', e, h⟩ := (tops_last gp z hU0 hdU)
      rw [ht] at e; cases e; exact h
  have bF : ∀ t ∈ qs.map (topOf B), Bd (n * N + n + 1) t := fun t ht => by
    obtain ⟨c, hc, rfl⟩ := (List.mem_map.mp ht)
    exact ((hB c hc).1.mul (hbB.fdiv (y := c.den))).mono (by lia)
  have bG : ∀ t ∈ ps.map (topOf U), Bd (n * N + n + 1) t := fun t ht => by
    obtain ⟨c, hc, rfl⟩ := (List.mem_map.mp ht)
    exact ((hC c hc).1.mul (hbU.fdiv (y := c.den))).mono (by lia)
  have c0 : Com qs ps (cst (qs.map (topOf B))) (cst (ps.map (topOf U))) := Com.scale (Nm.cast_ne (show B ≠ 0 by lia)) (Nm.cast_ne (show U ≠ 0 by lia)) (fun x => tops_ev hdB x) (fun x => tops_ev hdU x)
  have lF : (qs.map (topOf B)).length = qs.length := List.length_map _
  have lG : (ps.map (topOf U)).length = ps.length := List.length_map _
  generalize qs.map (topOf B) = F at *
  generalize ps.map (topOf U) = G at *
  have lFv : (F.map V.int).length = F.length := List.length_map _
  have lGv : (G.map V.int).length = G.length := List.length_map _
  try dsimp only
  refine seq_joinN (L10 H2 r u fa fb K N qs ps n fun H2 r u fa fb K N qs ps n σ' H3 => Same H2 H3 ∧ ∃ (tp : Addr) (hs : List Int), σ' = [some (.ref r), some (.ref u), some (.ref fa), some (.ref fb), some (.ref tp)] ∧ SqL K H3 tp (hs.map V.int) ∧ 1 ≤ hs.length ∧ hs.length ≤ N ∧ Top0 hs ∧ Com qs ps (cst hs) [] ∧ ∀ t ∈ hs, Bd (18 * (n * N + n + 6) + 1) t) (fun nx hnx => ?_) ?_
  · refine ⟨_, rfl, fa, _, rfl, .inl (SqL.of efa2), _, rfl, fb, _, rfl, .inl (SqL.of efb), _, _, rfl, rfl, _, rfl, ?_⟩
    by_cases hlt : F.length < G.length
    · refine iteTc (by rw [decide_eq_true (show ((F.map V.int).length : Int) < ((G.map V.int).length : Int) by lia)] <;> rfl) ?_
      refine ⟨_, rfl, _, rfl, fb, fa, G, F, n * N + n + 1, 18 * (n * N + n + 6) + 1, rfl, SqL.of efb, efa2, by lia, by lia, by lia, T2, T1, bG, bF, by lia, by lia, fun p H3 hs s3 hp h1 h8 ht hc hd => ?_⟩
      exact hnx _ _ ⟨s3, p, hs, rfl, hp, h1, by lia, ht, (c0.trans (Com.turn _ _)).trans hc, hd⟩
    · refine iteFc (by rw [decide_eq_false (show ¬ ((F.map V.int).length : Int) < ((G.map V.int).length : Int) by lia)] <;> rfl) ?_
      have hF1 : 1 ≤ F.length := by
        rcases hne with z | z
        · have := List.length_pos_iff.mpr z; lia
        · have := List.length_pos_iff.mpr z; lia
      refine ⟨_, rfl, _, rfl, fa, fb, F, G, n * N + n + 1, 18 * (n * N + n + 6) + 1, rfl, SqL.of efa2, efb, hF1, by lia, by lia, T1, T2, bF, bG, by lia, by lia, fun p H3 hs s3 hp h1 h8 ht hc hd => ?_⟩
      exact hnx _ _ ⟨s3, p, hs, rfl, hp, h1, by lia, ht, c0.trans hc, hd⟩
  rintro σ' H3 hR1
  refine anE2 hR1 fun s3 hz62 => ?_
  refine exE2 hz62 fun tp hs hz62' => ?_
  clear hz62
  refine anE7 hz62' fun hq61 hp h1 h8 ht hc hD => ?_
  clear hz62'
  obtain rfl := hq61
  try clear hR1
  have hla : hs[hs.length - 1]? = some (hs[hs.length - 1]'(by lia)) := List.getElem?_eq_getElem _
  generalize hs[hs.length - 1]'(by lia) = la at hla
  have la0 := ht la hla
  have hlv : (hs.map V.int)[(hs.map V.int).length - 1]? = some (V.int la) := by rw [List.length_map, List.getElem?_map, hla]; rfl
  refine ⟨_, rfl, _, rfl, _, rfl, tp, _, _, _, rfl, rfl, hp, atI_back hlv, tp, hs, la, rfl, hp, la0, by lia, fun p H4 s4 cv => ?_⟩
  have e1 : Rat.divInt la la = 1 := by
    rw [Rat.divInt_eq_div, Rat.div_def]
    exact Rat.mul_inv_cancel _ (Nm.cast_ne la0)
  have mono : (hs.map fun t => Rat.divInt t la)[(hs.map fun t => Rat.divInt t la).length - 1]? = some 1 := by
    rw [List.length_map, List.getElem?_map, hla]
    show some (Rat.divInt la la) = some 1
    rw [e1]
  have good : Good (hs.map fun t => Rat.divInt t la) := .inr ⟨1, mono, by decide⟩
  rw [strip_good good] at cv
  refine q p H4 _ ((s2.trans s3).trans s4) cv (Part.of (c := (la : Rat)) (F := cst hs) (Nm.cast_ne la0) hc good mono fun x => ev_divs hs la la0 x) (by rw [List.length_map]; exact h8) fun c hcm => ?_
  obtain ⟨t, htm, rfl⟩ := (List.mem_map.mp hcm)
  exact RB.div (m := 0) (hD t htm) (hD la (List.mem_of_getElem? hla)) la0
theorem sc_times : FnScope ["a", "b"] ["a", "b"] (defScope (top 15)) := ⟨rfl, rfl, rfl, by decide +kernel, rfl, by decide +kernel, by decide +kernel⟩
set_option maxHeartbeats 4000000 in
theorem ok_times {f : Addr} {fd : FuncData} (F : Fun K "times" "times" (top 15) f fd) (F_number_of : Fd P w K mg base 34 "number_of" ["top", "bottom"] (spLow)) (hT : P.given.tree = none) :
    FnOk P w K mg base CX0 35 f fd ["a", "b"] (spBin K (· * ·)) := by
  refine F.ok sc_times (fun vs H Q E h => ?_) (fun cdv A outer s H vs Q E hr h => ?_)
  · obtain ⟨_, _, _, _, _, _, rfl, _⟩ := h; rfl
  refine ⟨_, (pss_one (ps_ret (pe_fn F_number_of hr rfl (pa_cons (pe_op op_mulC (pe_ix (ixT K) (pv 0) pe_int (fun u v => rfl)) (pe_ix (ixT K) (pv 1) pe_int (fun u v => rfl))) (pa_cons (pe_op op_mulC (pe_ix (ixT K) (pv 0) pe_int (fun u v => rfl)) (pe_ix (ixT K) (pv 1) pe_int (fun u v => rfl))) pa_nil))))), ?_⟩
  obtain ⟨x, y, p, q, m, n, rfl, ⟨r, rfl, hr⟩, ⟨u, rfl, hu⟩, hp, hq, hmn, k⟩ := h
  refine ⟨_, rfl, r, _, _, _, rfl, rfl, hr, rfl, _, rfl, u, _, _, _, rfl, rfl, hu, rfl, _, _, rfl, rfl, MulC.bd hp.1 hq.1, ?_⟩
  refine ⟨_, rfl, r, _, _, _, rfl, rfl, hr, rfl, _, rfl, u, _, _, _, rfl, rfl, hu, rfl, _, _, rfl, rfl, MulC.bd hp.2 hq.2, ?_⟩
  refine ⟨_, _, rfl, Int.mul_ne_zero (Nm.den_ne p) (Nm.den_ne q), fun z hz => ?_⟩
  have e := k z hz
  try dsimp only at e
  rw [← Nm.times_eq] at e
  exact e
theorem sc_slope_of : FnScope ["curve"] ["curve"] (defScope (top 22)) := ⟨rfl, rfl, rfl, by decide +kernel, rfl, by decide +kernel, by decide +kernel⟩
set_option maxHeartbeats 4000000 in
theorem ok_slope_of {f : Addr} {fd : FuncData} (F : Fun K "slope_of" "slope_of" (top 22) f fd) (F_times : Fd P w K mg base 35 "times" ["a", "b"] (spBin K (· * ·))) (b_tuple : mg "tuple" = none) (b_range : mg "range" = none) (b_len : mg "len" = none) (hT : P.given.tree = none) :
    FnOk P w K mg base CX0 36 f fd ["curve"] (spSlope K) := by
  refine F.ok sc_slope_of (fun vs H Q E h => ?_) (fun cdv A outer s H vs Q E hr h => ?_)
  · obtain ⟨_, _, _, rfl, _⟩ := h; rfl
  refine ⟨_, (pss_one (ps_ret (pe_callTy (tupleK K) rfl b_tuple bt_tuple (pa_cons (pe_lc rfl (N := ["k", "curve"]) (nt := 1) (js := [0]) (CompOk.look (NX := ["curve"]) (sc := defScope (top 22)) rfl rfl (by decide +kernel)) (pi_range2 rfl b_range (pa_cons pe_int (pa_cons (pe_callB (lenK K) rfl b_len bt_len (pa_cons (pv 0) pa_nil)) pa_nil))) (fun u1 u2 u3 u4 u5 => (pg_name (i := 0) (show List.Nodup (["k", "curve"] : List Str) from by decide +kernel) rfl (Or.inl rfl))) (stays_name (by decide)) (fun u1 u2 u3 u4 u5 => pts_nil) (fun u1 u2 u3 u4 u5 => (pe_fn F_times hr rfl (pa_cons (pe_ix (ixT K) (pv 1) (pv 0) (fun u v => rfl)) (pa_cons (pe_tup (pa_cons (pv 0) (pa_cons pe_int pa_nil))) pa_nil))))) pa_nil)))), ?_⟩
  obtain ⟨r, qs, n, rfl, ⟨xs, hS, hn⟩, hz, hB, hn7, q⟩ := h
  have hl := hn.length
  have bk : ∀ k : Nat, k ≤ 1000 → RB 11 ((k : Nat) : Rat) := fun k hk => ⟨by show Bd 11 (((k : Nat) : Rat)).num; rw [Rat.num_natCast]; unfold Bd; lia, by rw [Rat.den_natCast]; unfold Bd; decide⟩
  refine lc_of ⟨_, rfl, r, xs, rfl, .inr hS, 1, (xs.length : Int), rfl, ⟨by decide, by decide, by lia, by lia⟩, ?_⟩
  have en : ((xs.length : Int) - 1).toNat = qs.length - 1 := by rw [hl]; lia
  rw [en]
  refine lc_itr (L3 H K qs fun H K qs i zs H' => Same H H' ∧ zs.length = i ∧ Nums K H' zs ((List.range i).map fun j => qs.getD (j + 1) 0 * ((j + 1 : Nat) : Rat))) ⟨Same.refl _, rfl, .nil⟩ (fun i zs H' _ p => p.2.1) (Nat.le_trans (Nat.sub_le _ _) (Nat.le_of_lt (small1000 hz))) ?_ ?_
  · rintro i zs H' hi ⟨sm, hzl, hnn⟩
    have hi1 : i + 1 < qs.length := by lia
    have hq : qs[i + 1]? = some qs[i + 1] := List.getElem?_eq_getElem hi1
    obtain ⟨x, hx, hxn⟩ := (Paired.get' hn hq)
    have hat : atI xs (1 + (i : Int)) = some x := by
      rw [show 1 + (i : Int) = ((i + 1 : Nat) : Int) by lia]
      exact atI_nat hx
    refine ⟨_, rfl, _, rfl, r, xs, _, x, rfl, rfl, SqT.same hS sm, hat, _, rfl, (by decide : 2 ≤ sizeLine), fun t ht => ?_⟩
    have ht1 : NumV K (upd H' t (.tup [.int (1 + (i : Int)), .int 1])) (.ref t) (((i + 1 : Nat)) : Rat) := NumV.of (by
      rw [upd_same]
      unfold nT
      rw [Rat.num_natCast, Rat.den_natCast, show 1 + (i : Int) = ((i + 1 : Nat) : Int) by lia]
      rfl)
    refine ⟨_, _, _, _, n, 11, rfl, (hxn.same sm).same (Same.new ht), ht1, hB _ (List.getElem_mem hi1), bk (i + 1) (by lia), by lia, fun p hp => ⟨(sm.trans (Same.new ht)).trans (Same.new hp), by simp [hzl], ?_⟩⟩
    rw [List.range_succ, List.map_append]
    refine Paired.snoc (Nums.same (Nums.same hnn (Same.new ht)) (Same.new hp)) ?_
    have e : qs.getD (i + 1) 0 = qs[i + 1] := by rw [List.getD_eq_getElem?_getD, hq]; rfl
    show NumV K _ _ (qs.getD (i + 1) 0 * ((i + 1 : Nat) : Rat))
    rw [e]
    exact NumV.of upd_same
  · rintro zs H' ⟨sm, hzl, hnn⟩ p hp
    exact ⟨p, zs, rfl, .inl ⟨SqL.of upd_same, fun u hu => q u _ ((sm.trans (Same.new hp)).trans (Same.new hu)) ⟨zs, SqT.of upd_same, Nums.same (Nums.same hnn (Same.new hp)) (Same.new hu)⟩⟩⟩
theorem sc_lone_part : FnScope ["curve"] ["curve"] (defScope (top 31)) := ⟨rfl, rfl, rfl, by decide +kernel, rfl, by decide +kernel, by decide +kernel⟩
set_option maxHeartbeats 4000000 in
theorem ok_lone_part {f : Addr} {fd : FuncData} (F : Fun K "lone_part" "lone_part" (top 31) f fd) (F_divided : Fd P w K mg base 36 "divided" ["one", "other"] (spDivd9 K)) (F_common_part : Fd P w K mg base 36 "common_part" ["one", "other"] (spCom9 K)) (F_slope_of : Fd P w K mg base 36 "slope_of" ["curve"] (spSlope K)) (b_len : mg "len" = none) (hT : P.given.tree = none) :
    FnOk P w K mg base CX0 37 f fd ["curve"] (spLone K) := by
  refine F.ok sc_lone_part (fun vs H Q E h => ?_) (fun cdv A outer s H vs Q E hr h => ?_)
  · obtain ⟨_, _, _, rfl, _⟩ := h; rfl
  refine ⟨_, (pss_consC (K := K) (ps_ifC (K := K) (pt_cmpR op_eq (pe_callB (lenK K) rfl b_len bt_len (pa_cons (pv 0) pa_nil)) pe_int (nomark _)) (pss_one ps_never) pss_nil (by rfl) (by rfl))
    (pss_one (ps_ret (pe_ix (ixT K) (pe_fn F_divided hr rfl (pa_cons (pv 0) (pa_cons (pe_fn F_common_part hr rfl (pa_cons (pv 0) (pa_cons (pe_fn F_slope_of hr rfl (pa_cons (pv 0) pa_nil)) pa_nil))) pa_nil))) pe_int (fun u v => rfl)))) (by rfl)), ?_⟩
  obtain ⟨r, qs, n, rfl, hc, gq, hne, hB, hn1, hn4, h6, q⟩ := h
  obtain ⟨xs, hS, hn⟩ := (id hc)
  have hl := hn.length
  have hq1 := List.length_pos_iff.mpr hne
  refine exE2 (lone_room hn4) fun n' C hz63' => ?_
  refine anE5 hz63' fun hn' hn3 hC8 hC room => ?_
  clear hz63'
  refine ⟨_, rfl, r, xs, rfl, .inr hS, rfl, _, rfl, iteFc (decide_eq_false fun z => by have := V.int.inj z; lia) ?_⟩
  refine ⟨_, rfl, _, rfl, _, rfl, r, qs, n, rfl, hc, by lia, hB, by lia, fun p1 H1 s1 c1 => ?_⟩
  refine ⟨r, p1, qs, slopeL qs, n', 6, rfl, hc.same s1, c1, gq, good_slope gq, .inl hne, (fun c hm => (hB c hm).mono (by lia)), (fun c hm => (slope_rb3 (by lia) hn1 hB c hm).mono hn'), by lia, by decide, h6, by rw [slope_length]; lia, fun p2 H2 g s2 c2 P gl gb => ?_⟩
  have g1 := List.length_pos_iff.mpr P.ne
  have rm := room qs.length g.length g1 gl h6
  refine ⟨r, p2, qs, g, n, 18 * (n' * 6 + n' + 6) + 1, C, rfl, hc.same (s1.trans s2), c2, gq, P.ne, P.good, hB, gb, by lia, by lia, rm, by lia, by lia, fun f fa fb H5 os rs s5 ef ha hb go gr lo lr hev bo => ?_⟩
  have er : rs = [] := Into.rest P.into.1 P.good P.ne go gr lr hev
  refine ⟨f, _, _, _, rfl, rfl, SqT.of ef, rfl, q fa H5 g os ((s1.trans s2).trans s5) ha go P (fun x => ?_) (by lia) fun h8 c hm => (bo c hm).mono (hC8 h8)⟩
  have := hev x
  rw [er] at this
  rw [this]
  exact Rat.add_zero _
set_option maxHeartbeats 4000000 in
theorem okx_lone_part {f : Addr} {fd : FuncData} (F : Fun K "lone_part" "lone_part" (top 31) f fd) {a_NoCurve : Addr} (k_NoCurve : XCls K "NoCurve" a_NoCurve) (F_divided : Fd P w K mg base 36 "divided" ["one", "other"] (spDivd9 K)) (F_common_part : Fd P w K mg base 36 "common_part" ["one", "other"] (spCom9 K)) (F_slope_of : Fd P w K mg base 36 "slope_of" ["curve"] (spSlope K)) (b_len : mg "len" = none) (hT : P.given.tree = none) :
    FnOk P w K mg base (CX2 P w) 37 f fd ["curve"] (spLoneX K a_NoCurve) := by
  refine F.okY sc_lone_part (fun vs H Q E h => ?_) (fun cdv A outer s H vs Q E hr h => ?_)
  · obtain ⟨_, rfl, _⟩ := h; rfl
  refine ⟨_, (pss_cons (ps_ifC (K := K) (pt_cmpR op_eq (pe_callB (lenK K) rfl b_len bt_len (pa_cons (pv 0) pa_nil)) pe_int (nomark _)) (pss_one (ps_raise k_NoCurve rfl makes2 rfl (pa_cons pe_str pa_nil))) pss_nil (by rfl) (by rfl))
    pss_never), ?_⟩
  obtain ⟨r, rfl, hS, q⟩ := h
  have P1 : 1 ≤ sizeLine := by decide
  exact ⟨_, rfl, r, [], rfl, .inr hS, rfl, _, rfl, iteTc (by first | rfl | decide) ⟨P1, q⟩⟩
theorem sc__law_refusal : FnScope ["_law_caught", "_law_some", "_law_found"] ["_law_caught"] (defScope (top 46)) := ⟨rfl, rfl, rfl, by decide +kernel, rfl, by decide +kernel, by decide +kernel⟩
set_option maxHeartbeats 4000000 in
theorem okh__law_refusal {f : Addr} {fd : FuncData} (F : Fun K "_law_refusal" "_law_refusal" (top 46) f fd) {a_TooMany a_NoPoints a_NoPoint a_NoNumber a_NoCurve a_NoStretch a_TooDeep a_TooFew a_NoText a_NoRow : Addr} (c_TooMany : mg "TooMany" = some (.ref a_TooMany)) (c_NoPoints : mg "NoPoints" = some (.ref a_NoPoints)) (c_NoPoint : mg "NoPoint" = some (.ref a_NoPoint)) (c_NoNumber : mg "NoNumber" = some (.ref a_NoNumber)) (c_NoCurve : mg "NoCurve" = some (.ref a_NoCurve)) (c_NoStretch : mg "NoStretch" = some (.ref a_NoStretch)) (c_TooDeep : mg "TooDeep" = some (.ref a_TooDeep)) (c_TooFew : mg "TooFew" = some (.ref a_TooFew)) (c_NoText : mg "NoText" = some (.ref a_NoText)) (c_NoRow : mg "NoRow" = some (.ref a_NoRow)) (b_isinstance : mg "isinstance" = none) (b_len : mg "len" = none) (b_ValueError : mg "ValueError" = none) (hT : P.given.tree = none) :
    FnH P w K mg base 33 f fd "_law_caught" (spRefH K [a_TooMany, a_NoPoints, a_NoPoint, a_NoNumber, a_NoCurve, a_NoStretch, a_TooDeep, a_TooFew, a_NoText, a_NoRow]) := by
  refine F.okH sc__law_refusal (fun cdv A outer s H ea oe Q hr hx h => ?_)
  refine ⟨_, (pss_consC (K := K) (ps_set (i := 1) sc__law_refusal.nd rfl (Or.inl rfl) (pe_lst (pa_cons (pe_tup (pa_cons pe_str (pa_cons (pe_callB (isiH K hx) rfl b_isinstance bt_isinstance (pa_cons (pv 0) (pa_cons (pe_glob (v := .ref a_TooMany) rfl c_TooMany rfl) pa_nil))) pa_nil))) (pa_cons (pe_tup (pa_cons pe_str (pa_cons (pe_callB (isiH K hx) rfl b_isinstance bt_isinstance (pa_cons (pv 0) (pa_cons (pe_glob (v := .ref a_NoPoints) rfl c_NoPoints rfl) pa_nil))) pa_nil))) pa_nil))))
    (pss_consC (K := K) (ps_set (i := 1) sc__law_refusal.nd rfl (Or.inl rfl) (pe_op op_cat (pv 1) (pe_lst (pa_cons (pe_tup (pa_cons pe_str (pa_cons (pe_callB (isiH K hx) rfl b_isinstance bt_isinstance (pa_cons (pv 0) (pa_cons (pe_glob (v := .ref a_NoPoint) rfl c_NoPoint rfl) pa_nil))) pa_nil))) (pa_cons (pe_tup (pa_cons pe_str (pa_cons (pe_callB (isiH K hx) rfl b_isinstance bt_isinstance (pa_cons (pv 0) (pa_cons (pe_glob (v := .ref a_NoNumber) rfl c_NoNumber rfl) pa_nil))) pa_nil))) pa_nil)))))
    (pss_consC (K := K) (ps_set (i := 1) sc__law_refusal.nd rfl (Or.inl rfl) (pe_op op_cat (pv 1) (pe_lst (pa_cons (pe_tup (pa_cons pe_str (pa_cons (pe_callB (isiH K hx) rfl b_isinstance bt_isinstance (pa_cons (pv 0) (pa_cons (pe_glob (v := .ref a_NoCurve) rfl c_NoCurve rfl) pa_nil))) pa_nil))) (pa_cons (pe_tup (pa_cons pe_str (pa_cons (pe_callB (isiH K hx) rfl b_isinstance bt_isinstance (pa_cons (pv 0) (pa_cons (pe_glob (v := .ref a_NoStretch) rfl c_NoStretch rfl) pa_nil))) pa_nil))) pa_nil)))))
    (pss_consC (K := K) (ps_set (i := 1) sc__law_refusal.nd rfl (Or.inl rfl) (pe_op op_cat (pv 1) (pe_lst (pa_cons (pe_tup (pa_cons pe_str (pa_cons (pe_callB (isiH K hx) rfl b_isinstance bt_isinstance (pa_cons (pv 0) (pa_cons (pe_glob (v := .ref a_TooDeep) rfl c_TooDeep rfl) pa_nil))) pa_nil))) (pa_cons (pe_tup (pa_cons pe_str (pa_cons (pe_callB (isiH K hx) rfl b_isinstance bt_isinstance (pa_cons (pv 0) (pa_cons (pe_glob (v := .ref a_TooFew) rfl c_TooFew rfl) pa_nil))) pa_nil))) pa_nil)))))
    (pss_consC (K := K) (ps_set (i := 1) sc__law_refusal.nd rfl (Or.inl rfl) (pe_op op_cat (pv 1) (pe_lst (pa_cons (pe_tup (pa_cons pe_str (pa_cons (pe_callB (isiH K hx) rfl b_isinstance bt_isinstance (pa_cons (pv 0) (pa_cons (pe_glob (v := .ref a_NoText) rfl c_NoText rfl) pa_nil))) pa_nil))) (pa_cons (pe_tup (pa_cons pe_str (pa_cons (pe_callB (isiH K hx) rfl b_isinstance bt_isinstance (pa_cons (pv 0) (pa_cons (pe_glob (v := .ref a_NoRow) rfl c_NoRow rfl) pa_nil))) pa_nil))) pa_nil)))))
    (pss_consC (K := K) (ps_lc2 (K := K) hx (i := 2) sc__law_refusal.nd rfl rfl (N := ["_law_word", "_law_one"]) (nt := 2) (js := []) (CompOk.look (NX := ["_law_caught", "_law_some", "_law_found"]) (sc := defScope (top 46)) rfl rfl (by decide +kernel)) (pv 1) (fun u1 u2 u3 u4 u5 hxx => (pgT2 (K := K) (n := 2) hxx (pgs_cons (pg_name (i := 0) (show List.Nodup (["_law_word", "_law_one"] : List Str) from by decide +kernel) rfl (Or.inl rfl)) (pgs_cons (pg_name (i := 1) (show List.Nodup (["_law_word", "_law_one"] : List Str) from by decide +kernel) rfl (Or.inl rfl)) pgs_nil)))) (stays_tup (stays_consS (by decide) (stays_consS (by decide) stays_nilS))) (fun u1 u2 u3 u4 u5 => pts_one (pt_val (pv 1))) (fun u1 u2 u3 u4 u5 => (pv 0)) rfl)
    (pss_consC (K := K) (ps_ifC (K := K) (PW.pt (pw_or (pt_cmpR op_ne (pe_callB (lenK K) rfl b_len bt_len (pa_cons (pv 2) pa_nil)) pe_int (nomark _)) (pw_or1 (pt_not (pt_val (pe_callB (isiH K hx) rfl b_isinstance bt_isinstance (pa_cons (pv 0) (pa_cons (pe_bltn (v := .ty "ValueError") rfl b_ValueError bt_ValueError rfl) pa_nil)))))))) (pss_one (ps_ret pe_str)) pss_nil (by rfl) (by rfl))
    (pss_one (ps_ret (pe_ix (ixL K) (pv 2) pe_int (fun u v => rfl)))) (by rfl)) (by rfl)) (by rfl)) (by rfl)) (by rfl)) (by rfl)) (by rfl)), ?_⟩
  obtain ⟨D, n, w, hD, R, hw, q⟩ := h
  have P2 : 2 ≤ sizeLine := by decide
  have P10 : 10 ≤ sizeLine := by decide
  refine ⟨_, rfl, D, _, _, _, hD, R.ty, rfl, rfl, R.of 0 _ rfl, P2, fun p0 h1 => ?_⟩
  have s1 : Same H (upd H p0 (.tup [.str "many", .bl (0 == n)])) := Same.new h1
  have w1 : WB K (upd H p0 (.tup [.str "many", .bl (0 == n)])) (.ref p0) ("many", (0 == n)) := ⟨p0, rfl, SqT.of upd_same⟩
  generalize upd H p0 (.tup [.str "many", .bl (0 == n)]) = A0 at s1 w1 ⊢
  refine ⟨_, rfl, D, _, _, _, hD, R.ty, rfl, rfl, R.of 1 _ rfl, P2, fun u0 h2 => ?_⟩
  have s2 : Same A0 (upd A0 u0 (.tup [.str "points", .bl (1 == n)])) := Same.new h2
  have w2 : WB K (upd A0 u0 (.tup [.str "points", .bl (1 == n)])) (.ref u0) ("points", (1 == n)) := ⟨u0, rfl, SqT.of upd_same⟩
  have w1 := w1.same s2
  have s2 := s1.trans s2
  generalize upd A0 u0 (.tup [.str "points", .bl (1 == n)]) = B0 at s2 w1 w2 ⊢
  refine ⟨P2, fun b0 hl => ?_⟩
  have s3 : Same B0 (upd B0 b0 (.lst [.ref p0, .ref u0])) := Same.new hl
  have eb : upd B0 b0 (.lst [.ref p0, .ref u0]) b0 = some (.lst [.ref p0, .ref u0]) := upd_same
  have w1 := w1.same s3
  have w2 := w2.same s3
  have sT := s2.trans s3
  generalize upd B0 b0 (.lst [.ref p0, .ref u0]) = C0 at sT eb w1 w2 ⊢
  clear s1 s2 s3 h1 h2 hl
  have l0 := b0
  have S0 := sT
  have el0 := eb
  have hn0 : [V.ref p0, V.ref u0].length = 2 := rfl
  have wS0 : Paired (WB K C0) [.ref p0, .ref u0] [("many", (0 == n)), ("points", (1 == n))] := .cons w1 (.cons w2 .nil)
  generalize [V.ref p0, V.ref u0] = xs0 at el0 wS0 hn0
  clear sT eb w1 w2
  refine ⟨_, rfl, _, rfl, D, _, _, _, hD, R.ty, rfl, rfl, R.of 2 _ rfl, P2, fun p1 h1 => ?_⟩
  have s1 : Same C0 (upd C0 p1 (.tup [.str "point", .bl (2 == n)])) := Same.new h1
  have w1 : WB K (upd C0 p1 (.tup [.str "point", .bl (2 == n)])) (.ref p1) ("point", (2 == n)) := ⟨p1, rfl, SqT.of upd_same⟩
  generalize upd C0 p1 (.tup [.str "point", .bl (2 == n)]) = A1 at s1 w1 ⊢
  refine ⟨_, rfl, D, _, _, _, hD, R.ty, rfl, rfl, R.of 3 _ rfl, P2, fun u1 h2 => ?_⟩
  have s2 : Same A1 (upd A1 u1 (.tup [.str "number", .bl (3 == n)])) := Same.new h2
  have w2 : WB K (upd A1 u1 (.tup [.str "number", .bl (3 == n)])) (.ref u1) ("number", (3 == n)) := ⟨u1, rfl, SqT.of upd_same⟩
  have w1 := w1.same s2
  have s2 := s1.trans s2
  generalize upd A1 u1 (.tup [.str "number", .bl (3 == n)]) = B1 at s2 w1 w2 ⊢
  refine ⟨P2, fun b1 hl => ?_⟩
  have s3 : Same B1 (upd B1 b1 (.lst [.ref p1, .ref u1])) := Same.new hl
  have eb : upd B1 b1 (.lst [.ref p1, .ref u1]) b1 = some (.lst [.ref p1, .ref u1]) := upd_same
  have w1 := w1.same s3
  have w2 := w2.same s3
  have sT := s2.trans s3
  generalize upd B1 b1 (.lst [.ref p1, .ref u1]) = C1 at sT eb w1 w2 ⊢
  clear s1 s2 s3 h1 h2 hl
  have wS := WBs.snoc (WBs.same wS0 sT) w1 w2
  have ST := S0.trans sT
  refine ⟨b0, b1, xs0, _, rfl, rfl, sT _ _ el0, eb, by rw [hn0]; exact (show 2 + 2 ≤ sizeLine by decide), fun l1 hl => ?_⟩
  have s4 : Same C1 (upd C1 l1 (.lst (xs0 ++ [.ref p1, .ref u1]))) := Same.new hl
  have el1 : upd C1 l1 (.lst (xs0 ++ [.ref p1, .ref u1])) l1 = some (.lst (xs0 ++ [.ref p1, .ref u1])) := upd_same
  have wS1 : Paired (WB K (upd C1 l1 (.lst (xs0 ++ [.ref p1, .ref u1])))) _ [("many", (0 == n)), ("points", (1 == n)), ("point", (2 == n)), ("number", (3 == n))] := WBs.same wS s4
  have S1 := ST.trans s4
  have hn1 : (xs0 ++ [V.ref p1, V.ref u1]).length = 2 + 2 := by rw [List.length_append, hn0]; rfl
  generalize upd C1 l1 (.lst (xs0 ++ [.ref p1, .ref u1])) = D1 at S1 el1 wS1 ⊢
  generalize xs0 ++ [V.ref p1, V.ref u1] = xs1 at el1 wS1 hn1
  clear wS sT ST S0 eb w1 w2 s4 hl wS0 el0 hn0
  refine ⟨_, rfl, _, rfl, D, _, _, _, hD, R.ty, rfl, rfl, R.of 4 _ rfl, P2, fun p2 h1 => ?_⟩
  have s1 : Same D1 (upd D1 p2 (.tup [.str "curve", .bl (4 == n)])) := Same.new h1
  have w1 : WB K (upd D1 p2 (.tup [.str "curve", .bl (4 == n)])) (.ref p2) ("curve", (4 == n)) := ⟨p2, rfl, SqT.of upd_same⟩
  generalize upd D1 p2 (.tup [.str "curve", .bl (4 == n)]) = A2 at s1 w1 ⊢
  refine ⟨_, rfl, D, _, _, _, hD, R.ty, rfl, rfl, R.of 5 _ rfl, P2, fun u2 h2 => ?_⟩
  have s2 : Same A2 (upd A2 u2 (.tup [.str "stretch", .bl (5 == n)])) := Same.new h2
  have w2 : WB K (upd A2 u2 (.tup [.str "stretch", .bl (5 == n)])) (.ref u2) ("stretch", (5 == n)) := ⟨u2, rfl, SqT.of upd_same⟩
  have w1 := w1.same s2
  have s2 := s1.trans s2
  generalize upd A2 u2 (.tup [.str "stretch", .bl (5 == n)]) = B2 at s2 w1 w2 ⊢
  refine ⟨P2, fun b2 hl => ?_⟩
  have s3 : Same B2 (upd B2 b2 (.lst [.ref p2, .ref u2])) := Same.new hl
  have eb : upd B2 b2 (.lst [.ref p2, .ref u2]) b2 = some (.lst [.ref p2, .ref u2]) := upd_same
  have w1 := w1.same s3
  have w2 := w2.same s3
  have sT := s2.trans s3
  generalize upd B2 b2 (.lst [.ref p2, .ref u2]) = C2 at sT eb w1 w2 ⊢
  clear s1 s2 s3 h1 h2 hl
  have wS := WBs.snoc (WBs.same wS1 sT) w1 w2
  have ST := S1.trans sT
  refine ⟨l1, b2, xs1, _, rfl, rfl, sT _ _ el1, eb, by rw [hn1]; exact (show 4 + 2 ≤ sizeLine by decide), fun l2 hl => ?_⟩
  have s4 : Same C2 (upd C2 l2 (.lst (xs1 ++ [.ref p2, .ref u2]))) := Same.new hl
  have el2 : upd C2 l2 (.lst (xs1 ++ [.ref p2, .ref u2])) l2 = some (.lst (xs1 ++ [.ref p2, .ref u2])) := upd_same
  have wS2 : Paired (WB K (upd C2 l2 (.lst (xs1 ++ [.ref p2, .ref u2])))) _ [("many", (0 == n)), ("points", (1 == n)), ("point", (2 == n)), ("number", (3 == n)), ("curve", (4 == n)), ("stretch", (5 == n))] := WBs.same wS s4
  have S2 := ST.trans s4
  have hn2 : (xs1 ++ [V.ref p2, V.ref u2]).length = 4 + 2 := by rw [List.length_append, hn1]; rfl
  generalize upd C2 l2 (.lst (xs1 ++ [.ref p2, .ref u2])) = D2 at S2 el2 wS2 ⊢
  generalize xs1 ++ [V.ref p2, V.ref u2] = xs2 at el2 wS2 hn2
  clear wS sT ST S1 eb w1 w2 s4 hl wS1 el1 hn1
  refine ⟨_, rfl, _, rfl, D, _, _, _, hD, R.ty, rfl, rfl, R.of 6 _ rfl, P2, fun p3 h1 => ?_⟩
  have s1 : Same D2 (upd D2 p3 (.tup [.str "deep", .bl (6 == n)])) := Same.new h1
  have w1 : WB K (upd D2 p3 (.tup [.str "deep", .bl (6 == n)])) (.ref p3) ("deep", (6 == n)) := ⟨p3, rfl, SqT.of upd_same⟩
  generalize upd D2 p3 (.tup [.str "deep", .bl (6 == n)]) = A3 at s1 w1 ⊢
  refine ⟨_, rfl, D, _, _, _, hD, R.ty, rfl, rfl, R.of 7 _ rfl, P2, fun u3 h2 => ?_⟩
  have s2 : Same A3 (upd A3 u3 (.tup [.str "few", .bl (7 == n)])) := Same.new h2
  have w2 : WB K (upd A3 u3 (.tup [.str "few", .bl (7 == n)])) (.ref u3) ("few", (7 == n)) := ⟨u3, rfl, SqT.of upd_same⟩
  have w1 := w1.same s2
  have s2 := s1.trans s2
  generalize upd A3 u3 (.tup [.str "few", .bl (7 == n)]) = B3 at s2 w1 w2 ⊢
  refine ⟨P2, fun b3 hl => ?_⟩
  have s3 : Same B3 (upd B3 b3 (.lst [.ref p3, .ref u3])) := Same.new hl
  have eb : upd B3 b3 (.lst [.ref p3, .ref u3]) b3 = some (.lst [.ref p3, .ref u3]) := upd_same
  have w1 := w1.same s3
  have w2 := w2.same s3
  have sT := s2.trans s3
  generalize upd B3 b3 (.lst [.ref p3, .ref u3]) = C3 at sT eb w1 w2 ⊢
  clear s1 s2 s3 h1 h2 hl
  have wS := WBs.snoc (WBs.same wS2 sT) w1 w2
  have ST := S2.trans sT
  refine ⟨l2, b3, xs2, _, rfl, rfl, sT _ _ el2, eb, by rw [hn2]; exact (show 6 + 2 ≤ sizeLine by decide), fun l3 hl => ?_⟩
  have s4 : Same C3 (upd C3 l3 (.lst (xs2 ++ [.ref p3, .ref u3]))) := Same.new hl
  have el3 : upd C3 l3 (.lst (xs2 ++ [.ref p3, .ref u3])) l3 = some (.lst (xs2 ++ [.ref p3, .ref u3])) := upd_same
  have wS3 : Paired (WB K (upd C3 l3 (.lst (xs2 ++ [.ref p3, .ref u3])))) _ [("many", (0 == n)), ("points", (1 == n)), ("point", (2 == n)), ("number", (3 == n)), ("curve", (4 == n)), ("stretch", (5 == n)), ("deep", (6 == n)), ("few", (7 == n))] := WBs.same wS s4
  have S3 := ST.trans s4
  have hn3 : (xs2 ++ [V.ref p3, V.ref u3]).length = 6 + 2 := by rw [List.length_append, hn2]; rfl
  generalize upd C3 l3 (.lst (xs2 ++ [.ref p3, .ref u3])) = D3 at S3 el3 wS3 ⊢
  generalize xs2 ++ [V.ref p3, V.ref u3] = xs3 at el3 wS3 hn3
  clear wS sT ST S2 eb w1 w2 s4 hl wS2 el2 hn2
  refine ⟨_, rfl, _, rfl, D, _, _, _, hD, R.ty, rfl, rfl, R.of 8 _ rfl, P2, fun p4 h1 => ?_⟩
  have s1 : Same D3 (upd D3 p4 (.tup [.str "text", .bl (8 == n)])) := Same.new h1
  have w1 : WB K (upd D3 p4 (.tup [.str "text", .bl (8 == n)])) (.ref p4) ("text", (8 == n)) := ⟨p4, rfl, SqT.of upd_same⟩
  generalize upd D3 p4 (.tup [.str "text", .bl (8 == n)]) = A4 at s1 w1 ⊢
  refine ⟨_, rfl, D, _, _, _, hD, R.ty, rfl, rfl, R.of 9 _ rfl, P2, fun u4 h2 => ?_⟩
  have s2 : Same A4 (upd A4 u4 (.tup [.str "row", .bl (9 == n)])) := Same.new h2
  have w2 : WB K (upd A4 u4 (.tup [.str "row", .bl (9 == n)])) (.ref u4) ("row", (9 == n)) := ⟨u4, rfl, SqT.of upd_same⟩
  have w1 := w1.same s2
  have s2 := s1.trans s2
  generalize upd A4 u4 (.tup [.str "row", .bl (9 == n)]) = B4 at s2 w1 w2 ⊢
  refine ⟨P2, fun b4 hl => ?_⟩
  have s3 : Same B4 (upd B4 b4 (.lst [.ref p4, .ref u4])) := Same.new hl
  have eb : upd B4 b4 (.lst [.ref p4, .ref u4]) b4 = some (.lst [.ref p4, .ref u4]) := upd_same
  have w1 := w1.same s3
  have w2 := w2.same s3
  have sT := s2.trans s3
  generalize upd B4 b4 (.lst [.ref p4, .ref u4]) = C4 at sT eb w1 w2 ⊢
  clear s1 s2 s3 h1 h2 hl
  have wS := WBs.snoc (WBs.same wS3 sT) w1 w2
  have ST := S3.trans sT
  refine ⟨l3, b4, xs3, _, rfl, rfl, sT _ _ el3, eb, by rw [hn3]; exact (show 8 + 2 ≤ sizeLine by decide), fun l4 hl => ?_⟩
  have s4 : Same C4 (upd C4 l4 (.lst (xs3 ++ [.ref p4, .ref u4]))) := Same.new hl
  have el4 : upd C4 l4 (.lst (xs3 ++ [.ref p4, .ref u4])) l4 = some (.lst (xs3 ++ [.ref p4, .ref u4])) := upd_same
  have wS4 : Paired (WB K (upd C4 l4 (.lst (xs3 ++ [.ref p4, .ref u4])))) _ [("many", (0 == n)), ("points", (1 == n)), ("point", (2 == n)), ("number", (3 == n)), ("curve", (4 == n)), ("stretch", (5 == n)), ("deep", (6 == n)), ("few", (7 == n)), ("text", (8 == n)), ("row", (9 == n))] := WBs.same wS s4
  have S4 := ST.trans s4
  have hn4 : (xs3 ++ [V.ref p4, V.ref u4]).length = 8 + 2 := by rw [List.length_append, hn3]; rfl
  generalize upd C4 l4 (.lst (xs3 ++ [.ref p4, .ref u4])) = D4 at S4 el4 wS4 ⊢
  generalize xs3 ++ [V.ref p4, V.ref u4] = xs4 at el4 wS4 hn4
  clear wS sT ST S3 eb w1 w2 s4 hl wS3 el3 hn3
  refine lc_of ⟨_, rfl, l4, rfl, ⟨xs4, SqL.of el4⟩, ?_⟩
  have e : picked [("many", (0 == n)), ("points", (1 == n)), ("point", (2 == n)), ("number", (3 == n)), ("curve", (4 == n)), ("stretch", (5 == n)), ("deep", (6 == n)), ("few", (7 == n)), ("text", (8 == n)), ("row", (9 == n))] = [.str w] := one_word hw
  generalize [("many", (0 == n)), ("points", (1 == n)), ("point", (2 == n)), ("number", (3 == n)), ("curve", (4 == n)), ("stretch", (5 == n)), ("deep", (6 == n)), ("few", (7 == n)), ("text", (8 == n)), ("row", (9 == n))] = ps at wS4 e
  refine lc_pick (SqL.of el4) wS4 (by rw [hn4]; exact P10) (fun f hf => ?_)
  rw [e]
  have sf : Same D4 (upd D4 f (.lst [.str w])) := Same.new hf
  have ef : upd D4 f (.lst [.str w]) f = some (.lst [.str w]) := upd_same
  have SF := S4.trans sf
  generalize upd D4 f (.lst [.str w]) = D5 at ef SF ⊢
  refine ⟨_, rfl, f, _, rfl, .inl (SqL.of ef), rfl, _, rfl, iteFc (by first | rfl | decide) ?_⟩
  refine ⟨_, rfl, D, _, _, _, hD, R.ty, rfl, rfl, R.ve, _, rfl, iteFc rfl ?_⟩
  exact ⟨_, rfl, f, _, _, _, rfl, rfl, SqL.of ef, rfl, q _ SF⟩
theorem sc__law_refused : FnScope ["_law_word", "e"] [] (defScope (top 49)) := ⟨rfl, rfl, rfl, by decide +kernel, rfl, by decide +kernel, by decide +kernel⟩
set_option maxHeartbeats 4000000 in
theorem ok__law_refused {f : Addr} {fd : FuncData} (F : Fun K "_law_refused" "_law_refused" (top 49) f fd) {a_CurveError a_TooMany a_NoPoints a_NoPoint a_NoNumber a_NoCurve a_NoStretch a_TooDeep a_TooFew a_NoText a_NoRow : Addr} (c_CurveError : mg "CurveError" = some (.ref a_CurveError)) (xm_NoCurve : PySem.W.exmOne K (.ref a_NoCurve) (.ref a_CurveError) = some true) (xr_NoCurve : RefK K a_NoCurve [a_TooMany, a_NoPoints, a_NoPoint, a_NoNumber, a_NoCurve, a_NoStretch, a_TooDeep, a_TooFew, a_NoText, a_NoRow] 4) (H__law_refusal : FdH P w K mg base 33 "_law_refusal" "_law_caught" (spRefH K [a_TooMany, a_NoPoints, a_NoPoint, a_NoNumber, a_NoCurve, a_NoStretch, a_TooDeep, a_TooFew, a_NoText, a_NoRow])) (Y_lone_part : FdY P w K mg base 37 "lone_part" ["curve"] (fun vs H Q E => (spLone K : Sp) vs H Q E ∨ (spLoneX K a_NoCurve : Sp) vs H Q E)) (F_lone_part : Fd P w K mg base 37 "lone_part" ["curve"] (spLone K)) (hT : P.given.tree = none) :
    FnOk P w K mg base CX0 38 f fd [] (spRef39 K) := by
  refine F.ok sc__law_refused (fun vs H Q E h => ?_) (fun cdv A outer s H vs Q E hr h => ?_)
  · obtain ⟨rfl, _⟩ := h; rfl
  refine ⟨_, (pss_consC (K := K) (ps_set (i := 0) sc__law_refused.nd rfl (Or.inl rfl) pe_non)
    (pss_consC (K := K) (ps_tryR (pb_expr Y_lone_part hr rfl (pa_cons (pe_tup pa_nil) pa_nil)) H__law_refusal hr rfl rfl c_CurveError sc__law_refused.nd (i := 1) rfl rfl (j := 0) rfl rfl rfl rfl)
    (pss_one (ps_ret (pe_cmpR op_eq (pv 0) pe_str (nomark _)))) (by rfl)) (by rfl)), ?_⟩
  obtain ⟨rfl, q⟩ := h
  have P0 : 0 ≤ sizeLine := by decide
  refine ⟨P0, fun e he => ?_⟩
  refine .inr ⟨_, rfl, SqT.of upd_same, xm_NoCurve, fun ea hea => ⟨a_NoCurve, 4, "curve", rfl, xr_NoCurve, rfl, fun H' s => ⟨_, rfl, rfl, ?_⟩⟩⟩
  rw [decide_eq_true rfl]
  exact q H' ((Same.new he).trans s)
theorem sc__law_curve : FnScope ["_law_pen_here", "_law_most", "_law_some"] ["_law_pen_here", "_law_most"] (defScope (top 42)) := ⟨rfl, rfl, rfl, by decide +kernel, rfl, by decide +kernel, by decide +kernel⟩
set_option maxHeartbeats 4000000 in
theorem ok__law_curve {f : Addr} {fd : FuncData} (F : Fun K "_law_curve" "_law_curve" (top 42) f fd) (F__law_number : Fd P w K mg base 34 "_law_number" ["_law_pen_here"] (spNum 8)) (F__law_draw : Fd P w K mg base 33 "_law_draw" ["_law_pen_here", "_law_many"] (spDraw)) (b_tuple : mg "tuple" = none) (b_range : mg "range" = none) (hT : P.given.tree = none) :
    FnOk P w K mg base CX0 35 f fd ["_law_pen_here", "_law_most"] (spCurve K 8) := by
  refine F.ok sc__law_curve (fun vs H Q E h => ?_) (fun cdv A outer s H vs Q E hr h => ?_)
  · obtain ⟨_, _, rfl, _⟩ := h; rfl
  refine ⟨_, (pss_consC (K := K) (ps_lc (i := 2) rfl sc__law_curve.nd rfl rfl (N := ["_law_k", "_law_pen_here"]) (nt := 1) (js := [0]) (CompOk.look (NX := ["_law_pen_here", "_law_most", "_law_some"]) (sc := defScope (top 42)) rfl rfl (by decide +kernel)) (pi_range1 rfl b_range (pa_cons (pe_fn F__law_draw hr rfl (pa_cons (pv 0) (pa_cons (pe_op op_add (pv 1) pe_int) pa_nil))) pa_nil)) (fun u1 u2 u3 u4 u5 => (pg_name (i := 0) (show List.Nodup (["_law_k", "_law_pen_here"] : List Str) from by decide +kernel) rfl (Or.inl rfl))) (stays_name (by decide)) (fun u1 u2 u3 u4 u5 => pts_nil) (fun u1 u2 u3 u4 u5 => (pe_fn F__law_number hr rfl (pa_cons (pv 1) pa_nil))) rfl)
    (pss_consC (K := K) (ps_while PassesOwn.never (PW.pt (pw_and (pt_cmpR (neD K hr.units) (pv 2) (pe_lst pa_nil) (nomark _)) (pw_and1 (pt_cmpR (eqD K hr.units) (pe_ix (ixL K) (pv 2) (pe_un un_neg pe_int) (fun u v => rfl)) (pe_tup (pa_cons pe_int (pa_cons pe_int pa_nil))) (nomark _))))) (pss_one (ps_expr (pe_bmK0 K PySem.F.plainAttrs_list PySem.F.slot_list_pop PySem.F.type_list_pop mt_pop (pv 2)))))
    (pss_one (ps_ret (pe_callTy (tupleK K) rfl b_tuple bt_tuple (pa_cons (pv 2) pa_nil)))) (by rfl)) (by rfl)), ?_⟩
  obtain ⟨a, most, rfl, pn, h0, h1, q⟩ := h
  have P0 : 0 ≤ sizeLine := by decide
  have P2 : 2 ≤ sizeLine := by decide
  refine lc_of ⟨_, rfl, _, rfl, _, _, rfl, rfl, a, most + 1, rfl, pn, by lia, by lia, fun n H1 n0 n1 o1 p1 => ⟨n, rfl, by lia, by lia, ?_⟩⟩
  have hN : (n.toNat : Int) ≤ most := by lia
  generalize n.toNat = N at hN
  refine lc_itr (L3 a H K fun a H K i zs H' => Mv a H H' ∧ Pen H' a ∧ zs.length = i ∧ ∃ qs, Nums K H' zs qs ∧ ∀ q ∈ qs, RB 8 q) ⟨o1.mv, p1, rfl, [], .nil, (fun _ h => nomatch h)⟩ (fun i zs H' _ h => h.2.2.1) (Nat.le_of_lt (small1000 (by lia))) ?_ ?_
  · rintro i zs H' hi hR1
    obtain ⟨mv, pn', hz, qs, hq, hb⟩ := hR1
    try clear hR1
    refine ⟨_, rfl, a, rfl, pn', fun x r H3 m3 p3 hr bn bd => ⟨mv.trans m3, p3, by simp [hz], qs ++ [x], Paired.snoc (Nums.mv hq pn' m3) (NumV.of hr), fun c hc => ?_⟩⟩
    rcases List.mem_append.mp hc with z | z
    · exact hb c z
    · have e : c = x := by simpa using z
      subst e; exact ⟨bn, bd⟩
  rintro zs Hz hR2 l hl
  obtain ⟨mvz, pnz, hzl, qs, hqz, hb⟩ := hR2
  try clear hR2
  have hql : qs.length = N := by rw [← hqz.length]; exact hzl
  have la : l ≠ a := by
    refine exE3 pnz fun x0 x1 x2 ex => ?_
    exact (ne_of_none ex hl).symm
  have hHl : H l = none := by
    cases z : H l with
    | none => rfl
    | some u => rw [mvz l u la z] at hl; cases hl
  refine wh_by (L8 a H K zs qs most l N fun a H K zs qs most l N σ H' => Mv a H H' ∧ Pen H' a ∧ Nums K H' zs qs ∧ σ = [some (.ref a), some (.int most), some (.ref l)] ∧ ∃ v, v ≤ N ∧ H' l = some (.lst (zs.take v)) ∧ ∀ j q, v ≤ j → qs[j]? = some q → q = 0)
    (fun _ H' => match H' l with | some (.lst xs) => xs.length | _ => 0) ⟨Mv.put' mvz hHl, pnz.same hl, Nums.same hqz (Same.new hl), rfl, N, Nat.le_refl _, by rw [List.take_of_length_le (by lia)]; exact upd_same, fun j c hj e => absurd (List.getElem?_eq_some_iff.mp e).1 (by lia)⟩ ?_
  rintro σ Hc hR3
  obtain ⟨mv, pn', hq, rfl, v, hv, el, hall⟩ := hR3
  try clear hR3
  refine ⟨_, rfl, P0, fun e he => ?_⟩
  have sE : Same Hc (upd Hc e (.lst [])) := Same.new he
  refine eqL (ps := qs.take v) (qs := []) (SqL.of (sE _ _ el)) (Paired.take v (Nums.same hq sE)) (SqL.of upd_same) .nil ?_
  refine ⟨_, rfl, ?_⟩
  have fin : (v = 0 ∨ ∃ q, qs[v - 1]? = some q ∧ q ≠ 0) → qs.take v = Cv.strip qs := fun hc => Cv.take_strip qs v hall hc
  by_cases hv0 : v = 0
  · have e0 : qs.take v = [] := by rw [hv0]; rfl
    refine iteFc (by rw [decide_eq_true e0] <;> rfl) (iteF ?_)
    refine ⟨_, rfl, l, _, rfl, .inl ⟨SqL.of (sE _ _ el), fun r hr => ?_⟩⟩
    have sZ := sE.trans (Same.new (o := .tup (zs.take v)) hr)
    refine q (qs.take v) r _ (mv.trans sZ.mv) (pn'.sm sZ) ⟨zs.take v, SqT.of upd_same, Paired.take v (Nums.same hq sZ)⟩ ?_ ?_ fun c hc => hb c (List.mem_of_mem_take hc)
    · rw [fin (.inl hv0)]; exact good_strip _
    · rw [List.length_take]; lia
  
  have hvi : v - 1 < qs.length := by lia
  have hqv : qs[v - 1]? = some qs[v - 1] := List.getElem?_eq_getElem hvi
  have hne : qs.take v ≠ [] := fun z => by
    have := congrArg List.length z
    rw [List.length_take, Nat.min_eq_left (by lia)] at this
    exact hv0 this
  refine iteTc (by rw [decide_eq_false hne] <;> rfl) ?_
  obtain ⟨x, hx, hxn⟩ := (Paired.get' hq hqv)
  have hlast : (zs.take v)[(zs.take v).length - 1]? = some x := by
    rw [List.length_take, Nat.min_eq_left (by lia), List.getElem?_take, if_pos (by lia)]
    exact hx
  refine ⟨_, rfl, _, rfl, l, _, _, x, rfl, rfl, SqL.of (sE _ _ el), atI_back hlast, P2, fun t0 ht0 => ?_⟩
  have sF := sE.trans (Same.new (o := .tup [.int 0, .int 1]) ht0)
  refine eqN (q := 0) (hxn.same sF) (NumV.of (upd_same (o := nT 0))) ?_
  refine ⟨_, rfl, ?_⟩
  by_cases hq0 : qs[v - 1] = 0
  · refine iteTc (by rw [decide_eq_true hq0] <;> rfl) (wh_go ?_)
    have elF := sF _ _ el
    refine ⟨_, rfl, .inl ⟨rfl, _, SqL.of elF⟩, l, _, x, rfl, rfl, elF, hlast, ?_⟩
    refine ⟨⟨Mv.put' (mv.trans sF.mv) hHl, ?_, Nums.put (Nums.same hq sF) elF, rfl, v - 1, by lia, ?_, fun j c hj e => ?_⟩, ?_⟩
    · refine exE3 (pn'.sm sF) fun x0 x1 x2 ex => ?_
      exact ⟨x0, x1, x2, by rw [upd_ne (Ne.symm la)]; exact ex⟩
    · rw [upd_same, List.dropLast_eq_take, List.length_take, Nat.min_eq_left (by lia), List.take_take, Nat.min_eq_left (by lia)]
    · by_cases hjv : v ≤ j
      · exact hall j c hjv e
      · have : j = v - 1 := by lia
        subst this
        rw [hqv] at e
        cases e
        exact hq0
    · show (match upd _ l _ l with | some (.lst xs) => xs.length | _ => 0) < (match Hc l with | some (.lst xs) => xs.length | _ => 0)
      rw [upd_same, el]
      show (zs.take v).dropLast.length < (zs.take v).length
      have e1 : (zs.take v).length = v := by rw [List.length_take, Nat.min_eq_left (by lia)]
      rw [List.length_dropLast, e1]
      exact Nat.sub_lt (Nat.pos_of_ne_zero hv0) Nat.zero_lt_one
  · refine iteFc (by rw [decide_eq_false hq0] <;> rfl) ?_
    refine ⟨_, rfl, l, _, rfl, .inl ⟨SqL.of (sF _ _ el), fun r hr => ?_⟩⟩
    have sZ := sF.trans (Same.new (o := .tup (zs.take v)) hr)
    refine q (qs.take v) r _ (mv.trans sZ.mv) (pn'.sm sZ) ⟨zs.take v, SqT.of upd_same, Paired.take v (Nums.same hq sZ)⟩ ?_ ?_ fun c hc => hb c (List.mem_of_mem_take hc)
    · rw [fin (.inr ⟨_, hqv, hq0⟩)]; exact good_strip _
    · rw [List.length_take]; lia
theorem sc__law_whole : FnScope ["_law_thing"] ["_law_thing"] (defScope (top 43)) := ⟨rfl, rfl, rfl, by decide +kernel, rfl, by decide +kernel, by decide +kernel⟩
set_option maxHeartbeats 4000000 in
theorem ok__law_whole {f : Addr} {fd : FuncData} (F : Fun K "_law_whole" "_law_whole" (top 43) f fd) (b_isinstance : mg "isinstance" = none) (b_int : mg "int" = none) (b_bool : mg "bool" = none) (hT : P.given.tree = none) :
    FnOk P w K mg base CX0 33 f fd ["_law_thing"] (spWhole K) := by
  refine F.ok sc__law_whole (fun vs H Q E h => ?_) (fun cdv A outer s H vs Q E hr h => ?_)
  · obtain ⟨_, _, rfl, _⟩ := h; rfl
  refine ⟨_, (pss_one (ps_ret (pe_and (pe_callB (isiK K) rfl b_isinstance bt_isinstance (pa_cons (pv 0) (pa_cons (pe_bltn (v := .ty "int") rfl b_int bt_int rfl) pa_nil))) (pe_one (pe_not (pe_callB (isiK K) rfl b_isinstance bt_isinstance (pa_cons (pv 0) (pa_cons (pe_bltn (v := .ty "bool") rfl b_bool bt_bool rfl) pa_nil)))))))), ?_⟩
  obtain ⟨x, b, rfl, wx, q⟩ := h
  cases wx with
  | int i => exact ⟨_, rfl, _, _, _, _, rfl, .of (.int i), kit_ii K, true, rfl, iteT ⟨_, rfl, _, _, _, _, rfl, .of (.int i), kit_ib K, false, rfl, q⟩⟩
  | bl y => exact ⟨_, rfl, _, _, _, _, rfl, .of (.bl y), kit_bi K, true, rfl, iteT ⟨_, rfl, _, _, _, _, rfl, .of (.bl y), kit_bb K, true, rfl, q⟩⟩
  | oth ty hk => exact ⟨_, rfl, _, _, _, _, rfl, ty, hk, false, rfl, iteF q⟩
theorem sc__law_is_number : FnScope ["_law_thing"] ["_law_thing"] (defScope (top 44)) := ⟨rfl, rfl, rfl, by decide +kernel, rfl, by decide +kernel, by decide +kernel⟩
set_option maxHeartbeats 4000000 in
theorem ok__law_is_number {f : Addr} {fd : FuncData} (F : Fun K "_law_is_number" "_law_is_number" (top 44) f fd) (F__law_whole : Fd P w K mg base 33 "_law_whole" ["_law_thing"] (spWhole K)) (F__law_lowest : Fd P w K mg base 33 "_law_lowest" ["_law_top", "_law_bottom"] (spLow)) (b_isinstance : mg "isinstance" = none) (b_tuple : mg "tuple" = none) (b_len : mg "len" = none) (hT : P.given.tree = none) :
    FnOk P w K mg base CX0 34 f fd ["_law_thing"] (spIsN K) := by
  refine F.ok sc__law_is_number (fun vs H Q E h => ?_) (fun cdv A outer s H vs Q E hr h => ?_)
  · obtain ⟨_, _, rfl, _⟩ := h; rfl
  refine ⟨_, (pss_consC (K := K) (ps_ifC (K := K) (PW.pt (pw_or (pt_not (pt_val (pe_callB (isiK K) rfl b_isinstance bt_isinstance (pa_cons (pv 0) (pa_cons (pe_bltn (v := .ty "tuple") rfl b_tuple bt_tuple rfl) pa_nil))))) (pw_or (pt_cmpR op_ne (pe_callB (lenK K) rfl b_len bt_len (pa_cons (pv 0) pa_nil)) pe_int (nomark _)) (pw_or (pt_not (pt_val (pe_fn F__law_whole hr rfl (pa_cons (pe_ix (ixT K) (pv 0) pe_int (fun u v => rfl)) pa_nil)))) (pw_or1 (pt_not (pt_val (pe_fn F__law_whole hr rfl (pa_cons (pe_ix (ixT K) (pv 0) pe_int (fun u v => rfl)) pa_nil))))))))) (pss_one (ps_ret pe_bl)) pss_nil (by rfl) (by rfl))
    (pss_one (ps_ret (pe_and (pe_cmpR op_gt (pe_ix (ixT K) (pv 0) pe_int (fun u v => rfl)) pe_int (nomark _)) (pe_one (pe_cmpR (eqD K hr.units) (pe_fn F__law_lowest hr rfl (pa_cons (pe_ix (ixT K) (pv 0) pe_int (fun u v => rfl)) (pa_cons (pe_ix (ixT K) (pv 0) pe_int (fun u v => rfl)) pa_nil))) (pv 0) (nomark _)))))) (by rfl)), ?_⟩
  obtain ⟨x, p, rfl, ⟨r, rfl, hr⟩, q⟩ := h
  refine ⟨_, rfl, _, _, _, _, rfl, .tup hr, kit_tt K, true, rfl, iteF ?_⟩
  refine ⟨_, rfl, r, _, rfl, .inr hr, rfl, _, rfl, iteF ?_⟩
  refine ⟨_, rfl, r, _, _, _, rfl, rfl, hr, rfl, _, _, rfl, .int _, _, rfl, iteF ?_⟩
  refine ⟨_, rfl, r, _, _, _, rfl, rfl, hr, rfl, _, _, rfl, .int _, _, rfl, iteF ?_⟩
  refine ⟨_, rfl, r, _, _, _, rfl, rfl, hr, rfl, _, _, rfl, rfl, _, rfl, ?_⟩
  refine iteTc (by rw [decide_eq_true (show (0 : Int) < (p.den : Int) by have := p.den_pos; lia)] <;> rfl) ?_
  refine ⟨_, rfl, r, _, _, _, rfl, rfl, hr, rfl, _, rfl, r, _, _, _, rfl, rfl, hr, rfl, _, _, rfl, Nm.den_ne p, fun z hz => ⟨_, rfl, ?_⟩⟩
  have e : Rat.divInt p.num (p.den : Int) = p := Rat.num_divInt_den p
  rw [e]
  refine eqN (NumV.of upd_same) ⟨r, rfl, SqT.same hr (Same.new hz)⟩ ?_
  rw [decide_eq_true rfl]
  exact q _ (Same.new hz)
theorem sc__law_is_curve : FnScope ["_law_thing"] ["_law_thing"] (defScope (top 45)) := ⟨rfl, rfl, rfl, by decide +kernel, rfl, by decide +kernel, by decide +kernel⟩
set_option maxHeartbeats 4000000 in
theorem ok__law_is_curve {f : Addr} {fd : FuncData} (F : Fun K "_law_is_curve" "_law_is_curve" (top 45) f fd) (F__law_is_number : Fd P w K mg base 34 "_law_is_number" ["_law_thing"] (spIsN K)) (b_isinstance : mg "isinstance" = none) (b_tuple : mg "tuple" = none) (b_all : mg "all" = none) (hT : P.given.tree = none) :
    FnOk P w K mg base CX0 35 f fd ["_law_thing"] (spIsC K) := by
  refine F.ok sc__law_is_curve (fun vs H Q E h => ?_) (fun cdv A outer s H vs Q E hr h => ?_)
  · obtain ⟨_, _, rfl, _⟩ := h; rfl
  refine ⟨_, (pss_consC (K := K) (ps_ifC (K := K) (PW.pt (pw_or (pt_not (pt_val (pe_callB (isiK K) rfl b_isinstance bt_isinstance (pa_cons (pv 0) (pa_cons (pe_bltn (v := .ty "tuple") rfl b_tuple bt_tuple rfl) pa_nil))))) (pw_or1 (pt_not (pt_val (pe_callB (allB K rfl) rfl b_all bt_all (pa_cons (pe_lc rfl (N := ["_law_number_here"]) (nt := 1) (js := []) (CompOk.look (NX := ["_law_thing"]) (sc := defScope (top 45)) rfl rfl (by decide +kernel)) (piS K (pv 0)) (fun u1 u2 u3 u4 u5 => (pg_name (i := 0) (show List.Nodup (["_law_number_here"] : List Str) from by decide +kernel) rfl (Or.inl rfl))) (stays_name (by decide)) (fun u1 u2 u3 u4 u5 => pts_nil) (fun u1 u2 u3 u4 u5 => (pe_fn F__law_is_number hr rfl (pa_cons (pv 0) pa_nil)))) pa_nil))))))) (pss_one (ps_ret pe_bl)) pss_nil (by rfl) (by rfl))
    (pss_one (ps_ret (pe_or (pe_cmpR (eqD K hr.units) (pv 0) (pe_tup pa_nil) (nomark _)) (pe_one (pe_cmpR (neD K hr.units) (pe_ix (ixT K) (pv 0) (pe_un un_neg pe_int) (fun u v => rfl)) (pe_tup (pa_cons pe_int (pa_cons pe_int pa_nil))) (nomark _)))))) (by rfl)), ?_⟩
  obtain ⟨r, qs, rfl, ⟨xs, hS, hn⟩, hz, hg, q⟩ := h
  have hl := hn.length
  refine ⟨_, rfl, _, _, _, _, rfl, .tup hS, kit_tt K, true, rfl, iteF ?_⟩
  refine lc_seq (b := false) (a := r) (xs := xs) rfl (fun i zs H' => Same H H' ∧ zs = List.replicate i (.bl true)) ⟨Same.refl _, rfl⟩ (fun i zs H' _ p => ⟨SqT.same hS p.1, by rw [p.2, List.length_replicate]⟩) (by rw [hl]; exact Nat.le_of_lt (small1000 hz)) ?_ ?_
  · rintro i x zs H' hx ⟨sm, rfl⟩
    obtain ⟨c, hc, hcn⟩ := (Paired.get hn hx)
    refine ⟨_, rfl, x, c, rfl, hcn.same sm, fun H2 s2 => ⟨sm.trans s2, ?_⟩⟩
    rw [← List.replicate_succ']
  rintro zs H' ⟨sm, rfl⟩ p hp
  refine ⟨p, List.replicate xs.length true, rfl, SqL.of (by rw [List.map_replicate]; exact upd_same), _, rfl, ?_⟩
  refine iteFc (by rw [all_rep] <;> rfl) ?_
  have s1 : Same H (upd H' p (.lst (List.replicate xs.length (.bl true)))) := sm.trans (Same.new hp)
  refine ⟨_, rfl, (by decide : 0 ≤ sizeLine), fun z hz' => ?_⟩
  have s2 := s1.trans (Same.new (o := .tup []) hz')
  refine eqT (ps := qs) (qs := []) ⟨xs, SqT.same hS s2, Nums.same hn s2⟩ ⟨[], SqT.of upd_same, .nil⟩ ?_
  refine ⟨_, rfl, ?_⟩
  rcases hg with rfl | ⟨c, hc, hc0⟩
  · exact iteTc (by rw [decide_eq_true rfl] <;> rfl) (q _ s2)
  · have hne : qs ≠ [] := fun e => by rw [e] at hc; simp at hc
    refine iteFc (by rw [decide_eq_false hne] <;> rfl) ?_
    obtain ⟨x, hx, hxn⟩ := (Paired.get' hn hc)
    rw [← hl] at hx
    refine ⟨_, rfl, _, rfl, r, xs, _, x, rfl, rfl, SqT.same hS s2, atI_back hx, (by decide : 2 ≤ sizeLine), fun u hu => ?_⟩
    have s3 := s2.trans (Same.new (o := .tup [.int 0, .int 1]) hu)
    refine eqN (q := 0) (hxn.same s3) (NumV.of (upd_same (o := nT 0))) ?_
    rw [decide_eq_false hc0]
    exact q _ s3
theorem sc__law_at : FnScope ["_law_curve_here", "_law_x", "_law_found", "_law_power", "_law_number_here"] ["_law_curve_here", "_law_x"] (defScope (top 40)) := ⟨rfl, rfl, rfl, by decide +kernel, rfl, by decide +kernel, by decide +kernel⟩
set_option maxHeartbeats 4000000 in
theorem ok__law_at {f : Addr} {fd : FuncData} (F : Fun K "_law_at" "_law_at" (top 40) f fd) (F__law_plus : Fd P w K mg base 34 "_law_plus" ["_law_a", "_law_b"] (spBin K (· + ·))) (F__law_times : Fd P w K mg base 34 "_law_times" ["_law_a", "_law_b"] (spBin K (· * ·))) (hT : P.given.tree = none) :
    FnOk P w K mg base CX0 35 f fd ["_law_curve_here", "_law_x"] (spAt K) := by
  refine F.ok sc__law_at (fun vs H Q E h => ?_) (fun cdv A outer s H vs Q E hr h => ?_)
  · obtain ⟨_, _, _, _, _, _, _, rfl, _⟩ := h; rfl
  refine ⟨_, (pss_consC (K := K) (ps_set (i := 2) sc__law_at.nd rfl (Or.inl rfl) (pe_tup (pa_cons pe_int (pa_cons pe_int pa_nil))))
    (pss_consC (K := K) (ps_set (i := 3) sc__law_at.nd rfl (Or.inl rfl) (pe_tup (pa_cons pe_int (pa_cons pe_int pa_nil))))
    (pss_consC (K := K) (ps_forC (K := K) PassesOwn.never rfl (piS K (pv 0)) (pg_name (i := 4) sc__law_at.nd rfl (Or.inl rfl)) (pss_consC (K := K) (ps_set (i := 2) sc__law_at.nd rfl (Or.inl rfl) (pe_fn F__law_plus hr rfl (pa_cons (pv 2) (pa_cons (pe_fn F__law_times hr rfl (pa_cons (pv 4) (pa_cons (pv 3) pa_nil))) pa_nil))))
    (pss_one (ps_set (i := 3) sc__law_at.nd rfl (Or.inl rfl) (pe_fn F__law_times hr rfl (pa_cons (pv 3) (pa_cons (pv 1) pa_nil))))) (by rfl)) (by rfl))
    (pss_one (ps_ret (pv 2))) (by rfl)) (by rfl)) (by rfl)), ?_⟩
  obtain ⟨b, r, rx, xs, qs, x, n, rfl, hS, hn, hx, hB, hbx, hz, q⟩ := h
  have hl := hn.length
  have hN : (n + 2) * ((qs.length + 2) * (qs.length + 2)) = (qs.length + 2) * ((n + 2) * (qs.length + 2)) := by rw [← Nat.mul_assoc, ← Nat.mul_assoc, Nat.mul_comm (n + 2)]
  rw [hN] at hz q
  generalize hM : (n + 2) * (qs.length + 2) = M at hz q
  have hM' : n * qs.length + 2 * n + 2 * qs.length + 4 = M := by rw [← hM, Nat.add_mul, Nat.mul_add]; lia
  have hle : M * 2 ≤ 30000000 := Nat.le_trans (by rw [Nat.mul_comm]; exact Nat.mul_le_mul_right _ (by lia)) hz
  refine ⟨(by decide : 2 ≤ sizeLine), fun f hf => ?_⟩
  refine ⟨(by decide : 2 ≤ sizeLine), fun g hg => ?_⟩
  have s0 : Same H (upd (upd H f (.tup [.int 0, .int 1])) g (.tup [.int 1, .int 1])) := (Same.new hf).trans (Same.new hg)
  refine for_seq (b := b) (a := r) (xs := xs) rfl (L7 H r rx qs x M n fun H r rx qs x M n i σ H' => Same H H' ∧ ∃ (f g : Addr) (z : Option V), σ = [some (.ref r), some (.ref rx), some (.ref f), some (.ref g), z] ∧ H' f = some (nT (Cv.ev (qs.take i) x)) ∧ H' g = some (nT (x ^ i)) ∧ RB ((i + 1) * M) (Cv.ev (qs.take i) x) ∧ RB (n * i + 1) (x ^ i))
    ⟨s0, f, g, none, rfl, (Same.new hg) _ _ upd_same, ?_, RB.zero (by lia), ?_⟩ (fun i σ H' _ p => Sq.same hS p.1) ?_ ?_
  · rw [Rat.pow_zero]; exact upd_same
  · rw [Rat.pow_zero]; exact RB.one (by lia)
  · rintro i v σ H' hv hR1
    refine anE2 hR1 fun sm hz71 => ?_
    refine exE3 hz71 fun f' g' z hz71' => ?_
    clear hz71
    refine anE5 hz71' fun hq70 ef eg bf bg => ?_
    clear hz71'
    obtain rfl := hq70
    try clear hR1
    obtain ⟨c, hc, hcn⟩ := (Paired.get hn hv)
    have hi : i < qs.length := (List.getElem?_eq_some_iff.mp hc).1
    have hcm : c ∈ qs := List.mem_of_getElem? hc
    have hni : n * i ≤ n * qs.length := Nat.mul_le_mul_left n (by lia)
    have hni1 : n * (i + 1) = n * i + n := by rw [Nat.mul_add, Nat.mul_one]
    have him : (i + 1) * M ≤ (qs.length + 2) * M := Nat.mul_le_mul_right _ (by lia)
    have him2 : (i + 1 + 1) * M = (i + 1) * M + M := by rw [Nat.add_mul, Nat.one_mul]
    have bt : RB (n + (n * i + 1)) (c * x ^ i) := (hB c hcm).times bg
    refine ⟨_, rfl, _, rfl, _, rfl, _, _, _, _, n, n * i + 1, rfl, hcn.same sm, NumV.of eg, hB c hcm, bg, by lia, fun t ht => ?_⟩
    have s1 : Same H' (upd H' t (nT (c * x ^ i))) := Same.new ht
    refine ⟨_, _, _, _, (i + 1) * M, n + (n * i + 1), rfl, NumV.of (s1 _ _ ef), NumV.of upd_same, bf, bt, by lia, fun u hu => ?_⟩
    have s2 := s1.trans (Same.new (o := nT (Cv.ev (qs.take i) x + c * x ^ i)) hu)
    refine ⟨_, rfl, _, rfl, _, _, _, _, n * i + 1, n, rfl, NumV.of (s2 _ _ eg), (hx.same sm).same s2, bg, hbx, by lia, fun v' hv' => ?_⟩
    have s3 := s2.trans (Same.new (o := nT (x ^ i * x)) hv')
    have e1 : Cv.ev (qs.take (i + 1)) x = Cv.ev (qs.take i) x + c * x ^ i := by
      rw [List.take_add_one, hc]
      show Cv.ev (qs.take i ++ [c]) x = _
      rw [Cv.ev_snoc, List.length_take, Nat.min_eq_left (by lia)]
    refine ⟨sm.trans s3, u, v', _, rfl, ?_, ?_, ?_, ?_⟩
    · rw [e1]; exact (Same.new hv') _ _ upd_same
    · rw [Rat.pow_succ]; exact upd_same
    · rw [e1, him2]; exact (bf.plus bt).mono (by lia)
    · rw [Rat.pow_succ, hni1]; exact (bg.times hbx).mono (by lia)
  · rintro σ H' hR2
    refine anE2 hR2 fun sm hz73 => ?_
    refine exE3 hz73 fun f' g' z hz73' => ?_
    clear hz73
    refine anE5 hz73' fun hq72 ef eg bf bg => ?_
    clear hz73'
    obtain rfl := hq72
    try clear hR2
    rw [hl, List.take_length] at ef bf
    exact ⟨_, rfl, q _ _ sm ef (bf.mono (Nat.mul_le_mul_right _ (by lia)))⟩
theorem sc__law_slope_at : FnScope ["_law_curve_here", "_law_x"] ["_law_curve_here", "_law_x"] (defScope (top 41)) := ⟨rfl, rfl, rfl, by decide +kernel, rfl, by decide +kernel, by decide +kernel⟩
set_option maxHeartbeats 4000000 in
theorem ok__law_slope_at {f : Addr} {fd : FuncData} (F : Fun K "_law_slope_at" "_law_slope_at" (top 41) f fd) (F__law_at : Fd P w K mg base 35 "_law_at" ["_law_curve_here", "_law_x"] (spAt K)) (F__law_times : Fd P w K mg base 34 "_law_times" ["_law_a", "_law_b"] (spBin K (· * ·))) (b_range : mg "range" = none) (b_len : mg "len" = none) (hT : P.given.tree = none) :
    FnOk P w K mg base CX0 36 f fd ["_law_curve_here", "_law_x"] (spSlopeAt K) := by
  refine F.ok sc__law_slope_at (fun vs H Q E h => ?_) (fun cdv A outer s H vs Q E hr h => ?_)
  · obtain ⟨_, _, _, _, _, rfl, _⟩ := h; rfl
  refine ⟨_, (pss_one (ps_ret (pe_fn F__law_at hr rfl (pa_cons (pe_lc rfl (N := ["_law_k", "_law_curve_here"]) (nt := 1) (js := [0]) (CompOk.look (NX := ["_law_curve_here", "_law_x"]) (sc := defScope (top 41)) rfl rfl (by decide +kernel)) (pi_range2 rfl b_range (pa_cons pe_int (pa_cons (pe_callB (lenK K) rfl b_len bt_len (pa_cons (pv 0) pa_nil)) pa_nil))) (fun u1 u2 u3 u4 u5 => (pg_name (i := 0) (show List.Nodup (["_law_k", "_law_curve_here"] : List Str) from by decide +kernel) rfl (Or.inl rfl))) (stays_name (by decide)) (fun u1 u2 u3 u4 u5 => pts_nil) (fun u1 u2 u3 u4 u5 => (pe_fn F__law_times hr rfl (pa_cons (pe_tup (pa_cons (pv 0) (pa_cons pe_int pa_nil))) (pa_cons (pe_ix (ixT K) (pv 1) (pv 0) (fun u v => rfl)) pa_nil))))) (pa_cons (pv 1) pa_nil))))), ?_⟩
  obtain ⟨c, rx, cs, x, n, rfl, ⟨xs, hS, hn⟩, hx, hB, hbx, hl20, hn4, hn1, q⟩ := h
  have hl := hn.length
  refine lc_of ⟨_, rfl, c, xs, rfl, .inr hS, 1, (xs.length : Int), rfl, ⟨by decide, by decide, by lia, by lia⟩, ?_⟩
  have en : ((xs.length : Int) - 1).toNat = cs.length - 1 := by lia
  rw [en]
  refine lc_itr (L3 H K cs fun H K cs i zs H' => Same H H' ∧ zs.length = i ∧ Nums K H' zs ((List.range i).map fun j => cs.getD (j + 1) 0 * ((j + 1 : Nat) : Rat))) ⟨Same.refl _, rfl, .nil⟩ (fun i zs H' _ p => p.2.1) (Nat.le_of_lt (small1000 (by lia))) ?_ ?_
  · rintro i zs H' hi ⟨sm, hzl, hnn⟩
    have hi1 : i + 1 < cs.length := by lia
    have hq : cs[i + 1]? = some (cs.getD (i + 1) 0) := getD_some hi1
    obtain ⟨y, hy, hyn⟩ := (Paired.get' hn hq)
    have hat : atI xs (1 + (i : Int)) = some y := by
      rw [show 1 + (i : Int) = ((i + 1 : Nat) : Int) by lia]
      exact atI_nat hy
    refine ⟨_, rfl, (by decide : 2 ≤ sizeLine), fun t ht => ?_⟩
    have ht1 : NumV K (upd H' t (.tup [.int (1 + (i : Int)), .int 1])) (.ref t) (((i + 1 : Nat)) : Rat) := NumV.of (by
      rw [upd_same]
      unfold nT
      rw [Rat.num_natCast, Rat.den_natCast, show 1 + (i : Int) = ((i + 1 : Nat) : Int) by lia]
      rfl)
    refine ⟨_, rfl, _, rfl, c, xs, _, y, rfl, rfl, (SqT.same hS sm).same (Same.new ht), hat, _, _, _, _, 11, n, rfl, ht1, (hyn.same sm).same (Same.new ht), rb_nat11 (by lia), hB _ (List.mem_of_getElem? hq), by lia, fun p hp => ⟨(sm.trans (Same.new ht)).trans (Same.new hp), by simp [hzl], ?_⟩⟩
    rw [List.range_succ, List.map_append]
    refine Paired.snoc (Nums.same (Nums.same hnn (Same.new ht)) (Same.new hp)) ?_
    show NumV K _ _ (cs.getD (i + 1) 0 * ((i + 1 : Nat) : Rat))
    rw [Rat.mul_comm]
    exact NumV.of upd_same
  rintro zs H' ⟨sm, hzl, hnn⟩ l hl'
  have s2 : Same H (upd H' l (.lst zs)) := sm.trans (Same.new hl')
  obtain ⟨rx', e, _⟩ := (id hx)
  cases e
  have hsl := slope_length cs
  have hsq : ((slopeL cs).length + 2) * ((slopeL cs).length + 2) ≤ (cs.length + 2) * (cs.length + 2) := Nat.mul_le_mul (by lia) (by lia)
  have hsz : (cs.length + 2) * (cs.length + 2) ≤ 22 * 22 := Nat.mul_le_mul (by lia) (by lia)
  have hnz : (n + 11 + 2) * (((slopeL cs).length + 2) * ((slopeL cs).length + 2)) ≤ 10013 * (22 * 22) := Nat.mul_le_mul (by lia) (by lia)
  refine ⟨_, rfl, true, l, rx, zs, slopeL cs, x, n + 11, rfl, SqL.of upd_same, Nums.same hnn (Same.new hl'), hx.same s2, slope_rb (by lia) hn1 hB, hbx.mono (by lia), by lia, fun p Hp sp ep bp => ?_⟩
  exact q p Hp (s2.trans sp) ep (bp.mono (Nat.mul_le_mul (by lia) hsq))
theorem sc_law : FnScope ["_law_script", "_law_pen_here", "_law_curve_here", "_law_places", "_law_lone", "_law_found", "_law_x", "_law_other", "_law_slope"] ["_law_script"] (defScope (top 50)) := ⟨rfl, rfl, rfl, by decide +kernel, rfl, by decide +kernel, by decide +kernel⟩
set_option maxHeartbeats 4000000 in
theorem ok_law {f : Addr} {fd : FuncData} (F : Fun K "law" "law" (top 50) f fd) (F__law_pen : Fd P w K mg base 33 "_law_pen" ["_law_script", "_law_k"] (spPen K)) (F__law_known : Fd P w K mg base 36 "_law_known" ["_law_pen_here"] (spKnown K)) (F_lone_part : Fd P w K mg base 37 "lone_part" ["curve"] (spLone K)) (F__law_refused : Fd P w K mg base 38 "_law_refused" [] (spRef39 K)) (F__law_curve : Fd P w K mg base 35 "_law_curve" ["_law_pen_here", "_law_most"] (spCurve K 8)) (F__law_is_curve : Fd P w K mg base 35 "_law_is_curve" ["_law_thing"] (spIsC K)) (F__law_times : Fd P w K mg base 34 "_law_times" ["_law_a", "_law_b"] (spBin K (· * ·))) (F_common_part : Fd P w K mg base 36 "common_part" ["one", "other"] (spCom9 K)) (F__law_at : Fd P w K mg base 35 "_law_at" ["_law_curve_here", "_law_x"] (spAt K)) (F__law_slope_at : Fd P w K mg base 36 "_law_slope_at" ["_law_curve_here", "_law_x"] (spSlopeAt K)) (F_divided : Fd P w K mg base 36 "divided" ["one", "other"] (spDivd9 K)) (F__law_draw : Fd P w K mg base 33 "_law_draw" ["_law_pen_here", "_law_many"] (spDraw)) (b_tuple : mg "tuple" = none) (b_range : mg "range" = none) (b_len : mg "len" = none) (hT : P.given.tree = none) :
    FnOk P w K mg base CX0 39 f fd ["_law_script"] (spLaw K) := by
  refine F.ok sc_law (fun vs H Q E h => ?_) (fun cdv A outer s H vs Q E hr h => ?_)
  · obtain ⟨_, _, rfl, _⟩ := h; rfl
  refine ⟨_, (pss_consC (K := K) (ps_set (i := 1) sc_law.nd rfl (Or.inl rfl) (pe_fn F__law_pen hr rfl (pa_cons (pv 0) (pa_cons pe_int pa_nil))))
    (pss_consC (K := K) (ps_asg (pe_fn F__law_known hr rfl (pa_cons (pv 1) pa_nil)) (pgT K (n := 3) rfl (pgs_cons (pg_name (i := 2) sc_law.nd rfl (Or.inl rfl)) (pgs_cons (pg_name (i := 3) sc_law.nd rfl (Or.inl rfl)) (pgs_cons (pg_name (i := 4) sc_law.nd rfl (Or.inl rfl)) pgs_nil)))))
    (pss_consC (K := K) (ps_set (i := 5) sc_law.nd rfl (Or.inr rfl) (pe_fn F_lone_part hr rfl (pa_cons (pv 2) pa_nil)))
    (pss_consC (K := K) (ps_ifC (K := K) (PW.pt (pw_or (pt_not (pt_val (pe_fn F__law_is_curve hr rfl (pa_cons (pv 5) pa_nil)))) (pw_or1 (pt_cmpR (neD K hr.units) (pv 5) (pv 4) (nomark _))))) (pss_one (ps_ret pe_bl)) pss_nil (by rfl) (by rfl))
    (pss_consC (K := K) (ps_forC (K := K) PassesOwn.never rfl (piD (pv 3)) (pg_name (i := 6) sc_law.nd rfl (Or.inl rfl)) (pss_one (ps_ifC (K := K) (PW.pt (pw_or (pt_cmpR (neD K hr.units) (pe_fn F__law_at hr rfl (pa_cons (pv 5) (pa_cons (pv 6) pa_nil))) (pe_tup (pa_cons pe_int (pa_cons pe_int pa_nil))) (nomark _)) (pw_or1 (pt_cmpR (eqD K hr.units) (pe_fn F__law_slope_at hr rfl (pa_cons (pv 5) (pa_cons (pv 6) pa_nil))) (pe_tup (pa_cons pe_int (pa_cons pe_int pa_nil))) (nomark _))))) (pss_one (ps_ret pe_bl)) pss_nil (by rfl) (by rfl))) (by rfl))
    (pss_consC (K := K) (ps_set (i := 7) sc_law.nd rfl (Or.inl rfl) (pe_op (catTA K) (pe_fn F__law_curve hr rfl (pa_cons (pv 1) (pa_cons pe_int pa_nil))) (pe_tup (pa_cons (pe_tup (pa_cons pe_int (pa_cons (pe_op op_add pe_int (pe_fn F__law_draw hr rfl (pa_cons (pv 1) (pa_cons pe_int pa_nil)))) pa_nil))) pa_nil))))
    (pss_consC (K := K) (ps_set (i := 5) sc_law.nd rfl (Or.inr rfl) (pe_fn F_lone_part hr rfl (pa_cons (pv 7) pa_nil)))
    (pss_consC (K := K) (ps_set (i := 8) sc_law.nd rfl (Or.inl rfl) (pe_callTy (tupleK K) rfl b_tuple bt_tuple (pa_cons (pe_lc rfl (N := ["_law_k", "_law_found"]) (nt := 1) (js := [5]) (CompOk.look (NX := ["_law_script", "_law_pen_here", "_law_curve_here", "_law_places", "_law_lone", "_law_found", "_law_x", "_law_other", "_law_slope"]) (sc := defScope (top 50)) rfl rfl (by decide +kernel)) (pi_range2 rfl b_range (pa_cons pe_int (pa_cons (pe_callB (lenK K) rfl b_len bt_len (pa_cons (pv 5) pa_nil)) pa_nil))) (fun u1 u2 u3 u4 u5 => (pg_name (i := 0) (show List.Nodup (["_law_k", "_law_found"] : List Str) from by decide +kernel) rfl (Or.inl rfl))) (stays_name (by decide)) (fun u1 u2 u3 u4 u5 => pts_nil) (fun u1 u2 u3 u4 u5 => (pe_fn F__law_times hr rfl (pa_cons (pe_tup (pa_cons (pv 0) (pa_cons pe_int pa_nil))) (pa_cons (pe_ix (ixT K) (pv 1) (pv 0) (fun u v => rfl)) pa_nil))))) pa_nil)))
    (pss_consC (K := K) (ps_ifC (K := K) (PW.pt (pw_or (pt_not (pt_val (pe_fn F__law_is_curve hr rfl (pa_cons (pv 5) pa_nil)))) (pw_or (pt_cmpR (neD K hr.units) (pe_ix (ixT K) (pe_fn F_divided hr rfl (pa_cons (pv 7) (pa_cons (pv 5) pa_nil))) pe_int (fun u v => rfl)) (pe_tup pa_nil) (nomark _)) (pw_or1 (pt_cmpR (neD K hr.units) (pe_fn F_common_part hr rfl (pa_cons (pv 5) (pa_cons (pv 8) pa_nil))) (pe_tup (pa_cons (pe_tup (pa_cons pe_int (pa_cons pe_int pa_nil))) pa_nil)) (nomark _)))))) (pss_one (ps_ret pe_bl)) pss_nil (by rfl) (by rfl))
    (pss_one (ps_ret (pe_fn0 F__law_refused hr rfl))) (by rfl)) (by rfl)) (by rfl)) (by rfl)) (by rfl)) (by rfl)) (by rfl)) (by rfl)) (by rfl)), ?_⟩
  obtain ⟨a, ns, rfl, hS, h63, q⟩ := h
  have P0 : 0 ≤ sizeLine := by decide
  have P1 : 1 ≤ sizeLine := by decide
  have P2 : 2 ≤ sizeLine := by decide
  refine ⟨_, rfl, a, ns, 0, rfl, hS, h63, by lia, by lia, fun p c0 c1 hp => ?_⟩
  have pn : Pen (upd H p (.lst [.int c0, .int c1, .int 0])) p := .put
  generalize upd H p (.lst [.int c0, .int c1, .int 0]) = H1 at pn ⊢
  clear hS hp
  refine ⟨_, rfl, p, rfl, pn, fun r c d l H2 fs ls xs kvs m2 p2 er cc cl _ dd ks kf => ?_⟩
  refine ⟨r, _, rfl, SqT.of er, rfl, _, _, rfl, _, _, rfl, _, _, rfl, rfl, ?_⟩
  have f1 := List.length_pos_iff.mpr kf.nf
  have l5 := kf.l5
  have hle := kf.le
  have b9 := lb_le fs.length
  have b8 := lb_ge fs.length
  refine ⟨_, rfl, c, fs, lb fs.length, rfl, cc, kf.gf, kf.nf, kf.bf, by lia, by lia, by lia, fun f H3 g os s3 cf go P eo lo _ => ?_⟩
  obtain ⟨g0, kn⟩ := kf.kn
  have e1 : os = ls := kn.lone (fun x => L2.slope_ev x fs) P eo kf.gl go
  have cop := lone_free kf.gf kf.nf P (fun x => L2.slope_ev x fs) eo
  subst e1
  refine ⟨_, rfl, f, os, rfl, cf, by lia, go, fun H4 s4 => ?_⟩
  refine ⟨_, rfl, iteF ?_⟩
  refine ⟨_, rfl, _, rfl, eqT (cf.same s4) (cl.same (s3.trans s4)) ?_⟩
  refine ⟨_, rfl, iteFc (by rw [decide_eq_true rfl] <;> rfl) ?_⟩
  replace cf := cf.same s4
  replace dd := s4 _ _ (s3 _ _ dd)
  have p4 := (p2.sm s3).sm s4
  refine ⟨_, rfl, d, kvs, rfl, dd, fun ob => ?_⟩
  have cf5 := Crv.putD (o := .frz ob (.dT kvs)) cf dd
  have p5 : Pen (upd H4 d (.frz ob (.dT kvs))) p := p4.put' (p4.ne dd fun _ _ _ z => by cases z)
  have ed := upd_same (H := H4) (a := d) (o := .frz ob (.dT kvs))
  generalize upd H4 d (.frz ob (.dT kvs)) = H5 at cf5 p5 ed ⊢
  clear dd cf p4 cc cl er s3 s4 m2 p2 pn
  refine for_keys (fun i σ G => Same H5 G ∧ ∃ z6, σ = [some (.ref a), some (.ref p), some (.ref c), some (.ref d), some (.ref l), some (.ref f), z6, none, none]) ⟨Same.refl _, none, rfl⟩ (fun i σ G _ h => h.1 _ _ ed) ?_ ?_
  · rintro i b pp σ G hi hb ⟨sg, z6, rfl⟩
    obtain ⟨x, hx, exx⟩ : ∃ x, x ∈ xs ∧ pp.1 = kQ x := by
      have h1 : (kvs.map (·.1))[i]? = some pp.1 := by rw [List.getElem?_map, hi]; rfl
      rw [ks, List.getElem?_map] at h1
      cases hxi : xs[i]? with
      | none => rw [hxi] at h1; cases h1
      | some x => rw [hxi] at h1; exact ⟨x, List.mem_of_getElem? hxi, (Option.some.inj h1).symm⟩
    rw [exx] at hb
    have hb : NumV K G (.ref b) x := NumV.of hb
    have hv0 := kf.rt x hx
    have bl9 : ∀ q ∈ os, RB 809 q := fun q hq => (kf.bl q hq).mono (lb_le _)
    have bx9 : RB 809 x := (kf.bx x hx).mono (by decide)
    obtain ⟨zs, hz, hzn⟩ := (id (cf5.same sg))
    have hsz : (os.length + 2) * (os.length + 2) ≤ 7 * 7 := Nat.mul_le_mul (by lia) (by lia)
    refine ⟨_, rfl, _, rfl, false, f, b, zs, os, x, 809, rfl, hz, hzn, hb, bl9, bx9, by lia, fun t1 G1 s1 e1 _ => ?_⟩
    refine ⟨P2, fun t2 ht2 => ?_⟩
    have s2 := s1.trans (Same.new (o := .tup [.int 0, .int 1]) ht2)
    refine eqN (p := 0) (q := 0) (NumV.of ((Same.new ht2) _ _ (by rw [e1, hv0]))) (NumV.of (upd_same (o := nT 0))) ?_
    refine ⟨_, rfl, iteFc (by rw [decide_eq_true rfl] <;> rfl) ?_⟩
    refine ⟨_, rfl, _, rfl, f, b, os, x, 809, rfl, (cf5.same sg).same s2, hb.same s2, bl9, bx9, by lia, by decide, by decide, fun t3 G3 s3 e3 _ => ?_⟩
    refine ⟨P2, fun t4 ht4 => ?_⟩
    refine eqN (p := Cv.ev (slopeL os) x) (q := 0) (NumV.of ((Same.new ht4) _ _ e3)) (NumV.of (upd_same (o := nT 0))) ?_
    rw [decide_eq_false (fun z => by
      obtain ⟨u, v, hc⟩ := cop
      have h1 := hc x
      have h2 : Cv.ev (slopeL os) x = Cv.ev (L2.dL os) x := L2.slope_ev x os
      rw [hv0, ← h2, z, Rat.mul_zero, Rat.mul_zero, Rat.add_zero] at h1
      exact absurd h1 (by decide))]
    exact ⟨_, rfl, iteF ⟨((sg.trans s2).trans s3).trans (Same.new ht4), _, rfl⟩⟩
  rintro σ G ⟨sg, z6, rfl⟩
  have pG := p5.sm sg
  clear ks ed cf5 p5 sg cop kf kn P eo go
  refine ⟨_, rfl, p, 5, rfl, pG, by decide, by decide, fun qs rq H6 m6 p6 cq gq lq bq => ?_⟩
  refine ⟨_, rfl, p, 4, rfl, p6, by decide, by decide, fun e H7 e0 e1 o7 p7 => ⟨_, _, rfl, rfl, P2, fun t1 ht1 => ⟨P1, fun t2 ht2 => ?_⟩⟩⟩
  have b0 : 0 < 1 + e := by lia
  have s7 := (Same.new (o := .tup [.int 1, .int (1 + e)]) ht1).trans (Same.new (o := .tup [.ref t1]) ht2)
  have n1 : NumV K (upd (upd H7 t1 (.tup [.int 1, .int (1 + e)])) t2 (.tup [.ref t1])) (.ref t1) (inv1 (1 + e)) := NumV.of ((Same.new ht2) _ _ (by rw [upd_same, inv1_nT b0]))
  obtain ⟨zs, hz, hzn⟩ := ((cq.mv p6 o7.mv).same s7)
  have hzl := hzn.length
  have eo := inv1_ne b0
  have bo : RB 8 (inv1 (1 + e)) := inv1_rb b0 (by unfold Bd; lia)
  generalize inv1 (1 + e) = v at n1 eo bo
  refine cat_pts hz (SqT.of upd_same) (Nat.le_trans (show _ ≤ 300 by rw [List.length_singleton]; lia) (by decide)) (fun ro H8 s8 hro => ?_)
  have co : Crv K H8 ro (qs ++ [v]) := ⟨_, hro, Paired.append (Nums.same hzn s8) (.cons (n1.same s8) .nil)⟩
  have go : Good (qs ++ [v]) := .inr ⟨v, by rw [List.length_append, List.length_singleton, show qs.length + 1 - 1 = qs.length by lia]; simp, eo⟩
  have lo : (qs ++ [v]).length ≤ 6 := by rw [List.length_append, List.length_singleton]; lia
  have ne : qs ++ [v] ≠ [] := fun z => by have := congrArg List.length z; simp at this
  have bO : ∀ q ∈ qs ++ [v], RB 8 q := fun q hq => by
    rcases List.mem_append.mp hq with z | z
    · exact bq q z
    · rw [List.mem_singleton.mp z]; exact bo
  clear s7 n1 hz hzn hro hzl s8 ht1 ht2 bo eo cq gq lq bq m6 pG p6 o7
  generalize qs ++ [v] = oth at co go lo ne bO
  refine ⟨_, rfl, ro, oth, 8, rfl, co, go, ne, bO, by decide, by decide, lo, fun rf H9 g fs2 s9 cf gf P ef lf bf => ?_⟩
  have bf := bf (by decide)
  have cop := lone_free go ne P (fun x => L2.slope_ev x oth) ef
  have nf : fs2 ≠ [] := fun z => ne (good_one go (.inl rfl) fun x => by rw [ef, z]; show (0 : Rat) * _ = 0; grind)
  have f2 := List.length_pos_iff.mpr nf
  have io : Into fs2 oth := ⟨g, fun x => by rw [ef]; exact Rat.mul_comm _ _⟩
  replace co := co.same s9
  clear P ef s9 p7
  obtain ⟨us, hu, hun⟩ := (id cf)
  have hul := hun.length
  refine lc_of ⟨_, rfl, rf, us, rfl, .inr hu, 1, (us.length : Int), rfl, ⟨by decide, by decide, by lia, by lia⟩, ?_⟩
  have en : ((us.length : Int) - 1).toNat = fs2.length - 1 := by lia
  rw [en]
  refine lc_itr (L3 H9 K fs2 fun H9 K fs2 i zs H' => Same H9 H' ∧ zs.length = i ∧ Nums K H' zs ((List.range i).map fun j => fs2.getD (j + 1) 0 * ((j + 1 : Nat) : Rat))) ⟨Same.refl _, rfl, .nil⟩ (fun i zs H' _ p => p.2.1) (Nat.le_of_lt (small1000 (by lia))) ?_ ?_
  · rintro i zs H' hi ⟨sm, hzl, hnn⟩
    have hi1 : i + 1 < fs2.length := by lia
    have hq : fs2[i + 1]? = some (fs2.getD (i + 1) 0) := getD_some hi1
    obtain ⟨y, hy, hyn⟩ := (Paired.get' hun hq)
    have hat : atI us (1 + (i : Int)) = some y := by
      rw [show 1 + (i : Int) = ((i + 1 : Nat) : Int) by lia]
      exact atI_nat hy
    refine ⟨_, rfl, P2, fun t ht => ?_⟩
    have ht1 : NumV K (upd H' t (.tup [.int (1 + (i : Int)), .int 1])) (.ref t) (((i + 1 : Nat)) : Rat) := NumV.of (by
      rw [upd_same]
      unfold nT
      rw [Rat.num_natCast, Rat.den_natCast, show 1 + (i : Int) = ((i + 1 : Nat) : Int) by lia]
      rfl)
    refine ⟨_, rfl, _, rfl, rf, us, _, y, rfl, rfl, (SqT.same hu sm).same (Same.new ht), hat, _, _, _, _, 11, 36000, rfl, ht1, (hyn.same sm).same (Same.new ht), rb_nat11 (by lia), bf _ (List.mem_of_getElem? hq), by decide, fun p hp => ⟨(sm.trans (Same.new ht)).trans (Same.new hp), by simp [hzl], ?_⟩⟩
    rw [List.range_succ, List.map_append]
    refine Paired.snoc (Nums.same (Nums.same hnn (Same.new ht)) (Same.new hp)) ?_
    show NumV K _ _ (fs2.getD (i + 1) 0 * ((i + 1 : Nat) : Rat))
    rw [Rat.mul_comm]
    exact NumV.of upd_same
  rintro zs Ha ⟨sa, hzl, hnn⟩ l2 hl2
  refine ⟨l2, zs, rfl, .inl ⟨SqL.of upd_same, fun rs hrs => ?_⟩⟩
  have sb := (sa.trans (Same.new (o := .lst zs) hl2)).trans (Same.new (o := .tup zs) hrs)
  have cs : Crv K (upd (upd Ha l2 (.lst zs)) rs (.tup zs)) rs (slopeL fs2) := ⟨zs, SqT.of upd_same, Nums.same (Nums.same hnn (Same.new hl2)) (Same.new hrs)⟩
  generalize upd (upd Ha l2 (.lst zs)) rs (.tup zs) = Hb at sb cs ⊢
  replace cf := cf.same sb
  replace co := co.same sb
  clear hu hun hnn sa hl2 hrs sb
  refine ⟨_, rfl, rf, fs2, rfl, cf, by lia, gf, fun Hc sc => ?_⟩
  refine ⟨_, rfl, iteF ?_⟩
  obtain ⟨C, hC⟩ : ∃ C, 8 * oth.length + 8 + (oth.length + 1 - fs2.length) * (36000 * fs2.length + 36000 + 1 + 1) + 36000 * fs2.length + 20 ≤ C := ⟨_, Nat.le_refl _⟩
  refine ⟨_, rfl, _, rfl, ro, rf, oth, fs2, 8, 36000, C, rfl, co.same sc, cf.same sc, go, nf, gf, bO, bf, by decide, by decide, hC, by lia, by lia, fun f3 fa fb Hd os2 rs2 sd ed _ cb go2 gr2 _ lr2 ev2 _ => ?_⟩
  obtain rfl : rs2 = [] := Into.rest io gf nf go2 gr2 lr2 ev2
  refine ⟨f3, _, _, _, rfl, rfl, SqT.of ed, atI_nat (j := 1) rfl, P0, fun t3 ht3 => ?_⟩
  refine eqT (ps := []) (qs := []) (cb.same (Same.new ht3)) ⟨[], SqT.of upd_same, .nil⟩ ?_
  refine ⟨_, rfl, iteFc (by rw [decide_eq_true rfl] <;> rfl) ?_⟩
  have se := (sc.trans sd).trans (Same.new (o := .tup []) ht3)
  refine ⟨_, rfl, _, rfl, rf, rs, fs2, slopeL fs2, 36003, 6, rfl, cf.same se, cs.same se, gf, good_slope gf, .inl nf, (fun q hq => (bf q hq).mono (by decide)), slope_rb3 (by lia) (by decide) bf, by decide, by decide, by lia, by rw [slope_length]; lia, fun r4 Hf cs4 sf c4 P4 _ _ => ?_⟩
  have e4 : cs4 = [1] := P4.one (cop.like (fun _ => rfl) fun x => L2.slope_ev x fs2).part (Com.refl _ _)
  subst e4
  refine ⟨P2, fun t5 ht5 => ⟨P1, fun t6 ht6 => ?_⟩⟩
  refine eqT (ps := [1]) (qs := [1]) (c4.same ((Same.new ht5).trans (Same.new ht6))) ⟨[.ref t5], SqT.of upd_same, .cons (NumV.of ((Same.new ht6) _ _ (upd_same (o := nT 1)))) .nil⟩ ?_
  refine ⟨_, rfl, iteFc (by rw [decide_eq_true rfl] <;> rfl) ?_⟩
  exact ⟨rfl, fun Hg _ => q Hg⟩
end
set_option maxHeartbeats 4000000 in
theorem all_mk {l : PySem.W.OpenLaw} {w : World} {K : PySem.W.Frag} {h : Heap} {mg : Str → Option Value} {fa f1 f2 f3 f4 f5 f6 f7 f8 f9 f10 f11 f12 f13 f14 f15 f16 f17 f18 f19 f20 f21 f22 f23 f24 f25 f26 f27 f28 f29 f30 f31 f32 f33 : Addr} (hT : l.prog.given.tree = none) (X : K.In h) (G : h.Ns mainGlobals mg) (hfa : mg "law" = some (.ref fa))
    {od1 an1 od2 an2 od3 an3 od4 an4 od5 an5 od6 an6 od7 an7 od8 an8 od9 an9 od10 an10 od11 an11 od12 an12 od13 an13 od14 an14 od15 an15 od16 an16 od17 an17 od18 an18 od19 an19 od20 an20 od21 an21 od22 an22 od23 an23 od24 an24 od25 an25 od26 an26 od27 an27 od28 an28 od29 an29 od30 an30 od31 an31 od32 an32 od33 an33 : Option Addr} {sl1 sl2 sl3 sl4 sl5 sl6 sl7 sl8 sl9 sl10 sl11 sl12 sl13 sl14 sl15 sl16 sl17 sl18 sl19 sl20 sl21 sl22 sl23 sl24 sl25 sl26 sl27 sl28 sl29 sl30 sl31 sl32 sl33 : Array (Option Value)} {oc1 kV1 dc1 pm1 cd1 ct1 oc2 kV2 dc2 pm2 cd2 ct2 oc3 kV3 dc3 pm3 cd3 ct3 oc4 kV4 dc4 pm4 cd4 ct4 oc5 kV5 dc5 pm5 cd5 ct5 oc6 kV6 dc6 pm6 cd6 ct6 oc7 kV7 dc7 pm7 cd7 ct7 oc8 kV8 dc8 pm8 cd8 ct8 oc9 kV9 dc9 pm9 cd9 ct9 oc10 kV10 dc10 pm10 cd10 ct10 oc11 kV11 dc11 pm11 cd11 ct11 oc12 kV12 dc12 pm12 cd12 ct12 oc13 kV13 dc13 pm13 cd13 ct13 oc14 kV14 dc14 pm14 cd14 ct14 oc15 kV15 dc15 pm15 cd15 ct15 oc16 kV16 dc16 pm16 cd16 ct16 oc17 kV17 dc17 pm17 cd17 ct17 oc18 kV18 dc18 pm18 cd18 ct18 oc19 kV19 dc19 pm19 cd19 ct19 oc20 kV20 dc20 pm20 cd20 ct20 oc21 kV21 dc21 pm21 cd21 ct21 oc22 kV22 dc22 pm22 cd22 ct22 oc23 kV23 dc23 pm23 cd23 ct23 oc24 kV24 dc24 pm24 cd24 ct24 oc25 kV25 dc25 pm25 cd25 ct25 oc26 kV26 dc26 pm26 cd26 ct26 oc27 kV27 dc27 pm27 cd27 ct27 oc28 kV28 dc28 pm28 cd28 ct28 oc29 kV29 dc29 pm29 cd29 ct29 oc30 kV30 dc30 pm30 cd30 ct30 oc31 kV31 dc31 pm31 cd31 ct31 oc32 kV32 dc32 pm32 cd32 ct32 oc33 kV33 dc33 pm33 cd33 ct33 : Value}
    (a1 : PySem.W.nsIn K mainGlobals "_law_pen" = some (some (.ref f1))) (l1 : K.lookup f1 = some ⟨oc1, od1, .func (PySem.W.fnOf "_law_pen" "_law_pen" (defArgs (top 33)) (defBody (top 33)) (defScope (top 33)) .none kV1 dc1 pm1 an1 cd1 ct1), sl1⟩) (c1 : PySem.W.codeIn K cd1 "_law_pen" = true) (k1 : PySem.W.keepIn K (.ref f1) = true)
    (a2 : PySem.W.nsIn K mainGlobals "_law_lowest" = some (some (.ref f2))) (l2 : K.lookup f2 = some ⟨oc2, od2, .func (PySem.W.fnOf "_law_lowest" "_law_lowest" (defArgs (top 35)) (defBody (top 35)) (defScope (top 35)) .none kV2 dc2 pm2 an2 cd2 ct2), sl2⟩) (c2 : PySem.W.codeIn K cd2 "_law_lowest" = true) (k2 : PySem.W.keepIn K (.ref f2) = true)
    (a3 : PySem.W.nsIn K mainGlobals "_law_draw" = some (some (.ref f3))) (l3 : K.lookup f3 = some ⟨oc3, od3, .func (PySem.W.fnOf "_law_draw" "_law_draw" (defArgs (top 34)) (defBody (top 34)) (defScope (top 34)) .none kV3 dc3 pm3 an3 cd3 ct3), sl3⟩) (c3 : PySem.W.codeIn K cd3 "_law_draw" = true) (k3 : PySem.W.keepIn K (.ref f3) = true)
    (a4 : PySem.W.nsIn K mainGlobals "_law_number" = some (some (.ref f4))) (l4 : K.lookup f4 = some ⟨oc4, od4, .func (PySem.W.fnOf "_law_number" "_law_number" (defArgs (top 39)) (defBody (top 39)) (defScope (top 39)) .none kV4 dc4 pm4 an4 cd4 ct4), sl4⟩) (c4 : PySem.W.codeIn K cd4 "_law_number" = true) (k4 : PySem.W.keepIn K (.ref f4) = true)
    (a5 : PySem.W.nsIn K mainGlobals "_law_plus" = some (some (.ref f5))) (l5 : K.lookup f5 = some ⟨oc5, od5, .func (PySem.W.fnOf "_law_plus" "_law_plus" (defArgs (top 36)) (defBody (top 36)) (defScope (top 36)) .none kV5 dc5 pm5 an5 cd5 ct5), sl5⟩) (c5 : PySem.W.codeIn K cd5 "_law_plus" = true) (k5 : PySem.W.keepIn K (.ref f5) = true)
    (a6 : PySem.W.nsIn K mainGlobals "_law_times" = some (some (.ref f6))) (l6 : K.lookup f6 = some ⟨oc6, od6, .func (PySem.W.fnOf "_law_times" "_law_times" (defArgs (top 38)) (defBody (top 38)) (defScope (top 38)) .none kV6 dc6 pm6 an6 cd6 ct6), sl6⟩) (c6 : PySem.W.codeIn K cd6 "_law_times" = true) (k6 : PySem.W.keepIn K (.ref f6) = true)
    (a7 : PySem.W.nsIn K mainGlobals "_law_product" = some (some (.ref f7))) (l7 : K.lookup f7 = some ⟨oc7, od7, .func (PySem.W.fnOf "_law_product" "_law_product" (defArgs (top 47)) (defBody (top 47)) (defScope (top 47)) .none kV7 dc7 pm7 an7 cd7 ct7), sl7⟩) (c7 : PySem.W.codeIn K cd7 "_law_product" = true) (k7 : PySem.W.keepIn K (.ref f7) = true)
    (a8 : PySem.W.nsIn K mainGlobals "_law_minus" = some (some (.ref f8))) (l8 : K.lookup f8 = some ⟨oc8, od8, .func (PySem.W.fnOf "_law_minus" "_law_minus" (defArgs (top 37)) (defBody (top 37)) (defScope (top 37)) .none kV8 dc8 pm8 an8 cd8 ct8), sl8⟩) (c8 : PySem.W.codeIn K cd8 "_law_minus" = true) (k8 : PySem.W.keepIn K (.ref f8) = true)
    (a9 : PySem.W.nsIn K mainGlobals "_law_known" = some (some (.ref f9))) (l9 : K.lookup f9 = some ⟨oc9, od9, .func (PySem.W.fnOf "_law_known" "_law_known" (defArgs (top 48)) (defBody (top 48)) (defScope (top 48)) .none kV9 dc9 pm9 an9 cd9 ct9), sl9⟩) (c9 : PySem.W.codeIn K cd9 "_law_known" = true) (k9 : PySem.W.keepIn K (.ref f9) = true)
    (a10 : PySem.W.nsIn K mainGlobals "common_measure" = some (some (.ref f10))) (l10 : K.lookup f10 = some ⟨oc10, od10, .func (PySem.W.fnOf "common_measure" "common_measure" (defArgs (top 13)) (defBody (top 13)) (defScope (top 13)) .none kV10 dc10 pm10 an10 cd10 ct10), sl10⟩) (c10 : PySem.W.codeIn K cd10 "common_measure" = true) (k10 : PySem.W.keepIn K (.ref f10) = true)
    (a11 : PySem.W.nsIn K mainGlobals "bottom_of" = some (some (.ref f11))) (l11 : K.lookup f11 = some ⟨oc11, od11, .func (PySem.W.fnOf "bottom_of" "bottom_of" (defArgs (top 19)) (defBody (top 19)) (defScope (top 19)) .none kV11 dc11 pm11 an11 cd11 ct11), sl11⟩) (c11 : PySem.W.codeIn K cd11 "bottom_of" = true) (k11 : PySem.W.keepIn K (.ref f11) = true)
    (a12 : PySem.W.nsIn K mainGlobals "tops_over" = some (some (.ref f12))) (l12 : K.lookup f12 = some ⟨oc12, od12, .func (PySem.W.fnOf "tops_over" "tops_over" (defArgs (top 20)) (defBody (top 20)) (defScope (top 20)) .none kV12 dc12 pm12 an12 cd12 ct12), sl12⟩) (c12 : PySem.W.codeIn K cd12 "tops_over" = true) (k12 : PySem.W.keepIn K (.ref f12) = true)
    (a13 : PySem.W.nsIn K mainGlobals "whole_division" = some (some (.ref f13))) (l13 : K.lookup f13 = some ⟨oc13, od13, .func (PySem.W.fnOf "whole_division" "whole_division" (defArgs (top 25)) (defBody (top 25)) (defScope (top 25)) .none kV13 dc13 pm13 an13 cd13 ct13), sl13⟩) (c13 : PySem.W.codeIn K cd13 "whole_division" = true) (k13 : PySem.W.keepIn K (.ref f13) = true)
    (a14 : PySem.W.nsIn K mainGlobals "curve_of" = some (some (.ref f14))) (l14 : K.lookup f14 = some ⟨oc14, od14, .func (PySem.W.fnOf "curve_of" "curve_of" (defArgs (top 18)) (defBody (top 18)) (defScope (top 18)) .none kV14 dc14 pm14 an14 cd14 ct14), sl14⟩) (c14 : PySem.W.codeIn K cd14 "curve_of" = true) (k14 : PySem.W.keepIn K (.ref f14) = true)
    (a15 : PySem.W.nsIn K mainGlobals "number_of" = some (some (.ref f15))) (l15 : K.lookup f15 = some ⟨oc15, od15, .func (PySem.W.fnOf "number_of" "number_of" (defArgs (top 14)) (defBody (top 14)) (defScope (top 14)) .none kV15 dc15 pm15 an15 cd15 ct15), sl15⟩) (c15 : PySem.W.codeIn K cd15 "number_of" = true) (k15 : PySem.W.keepIn K (.ref f15) = true)
    (a16 : PySem.W.nsIn K mainGlobals "curve_over" = some (some (.ref f16))) (l16 : K.lookup f16 = some ⟨oc16, od16, .func (PySem.W.fnOf "curve_over" "curve_over" (defArgs (top 21)) (defBody (top 21)) (defScope (top 21)) .none kV16 dc16 pm16 an16 cd16 ct16), sl16⟩) (c16 : PySem.W.codeIn K cd16 "curve_over" = true) (k16 : PySem.W.keepIn K (.ref f16) = true)
    (a17 : PySem.W.nsIn K mainGlobals "raised" = some (some (.ref f17))) (l17 : K.lookup f17 = some ⟨oc17, od17, .func (PySem.W.fnOf "raised" "raised" (defArgs (top 24)) (defBody (top 24)) (defScope (top 24)) .none kV17 dc17 pm17 an17 cd17 ct17), sl17⟩) (c17 : PySem.W.codeIn K cd17 "raised" = true) (k17 : PySem.W.keepIn K (.ref f17) = true)
    (a18 : PySem.W.nsIn K mainGlobals "divided" = some (some (.ref f18))) (l18 : K.lookup f18 = some ⟨oc18, od18, .func (PySem.W.fnOf "divided" "divided" (defArgs (top 26)) (defBody (top 26)) (defScope (top 26)) .none kV18 dc18 pm18 an18 cd18 ct18), sl18⟩) (c18 : PySem.W.codeIn K cd18 "divided" = true) (k18 : PySem.W.keepIn K (.ref f18) = true)
    (a19 : PySem.W.nsIn K mainGlobals "without_last_noughts" = some (some (.ref f19))) (l19 : K.lookup f19 = some ⟨oc19, od19, .func (PySem.W.fnOf "without_last_noughts" "without_last_noughts" (defArgs (top 27)) (defBody (top 27)) (defScope (top 27)) .none kV19 dc19 pm19 an19 cd19 ct19), sl19⟩) (c19 : PySem.W.codeIn K cd19 "without_last_noughts" = true) (k19 : PySem.W.keepIn K (.ref f19) = true)
    (a20 : PySem.W.nsIn K mainGlobals "last_rest" = some (some (.ref f20))) (l20 : K.lookup f20 = some ⟨oc20, od20, .func (PySem.W.fnOf "last_rest" "last_rest" (defArgs (top 28)) (defBody (top 28)) (defScope (top 28)) .none kV20 dc20 pm20 an20 cd20 ct20), sl20⟩) (c20 : PySem.W.codeIn K cd20 "last_rest" = true) (k20 : PySem.W.keepIn K (.ref f20) = true)
    (a21 : PySem.W.nsIn K mainGlobals "common_part" = some (some (.ref f21))) (l21 : K.lookup f21 = some ⟨oc21, od21, .func (PySem.W.fnOf "common_part" "common_part" (defArgs (top 29)) (defBody (top 29)) (defScope (top 29)) .none kV21 dc21 pm21 an21 cd21 ct21), sl21⟩) (c21 : PySem.W.codeIn K cd21 "common_part" = true) (k21 : PySem.W.keepIn K (.ref f21) = true)
    (a22 : PySem.W.nsIn K mainGlobals "times" = some (some (.ref f22))) (l22 : K.lookup f22 = some ⟨oc22, od22, .func (PySem.W.fnOf "times" "times" (defArgs (top 15)) (defBody (top 15)) (defScope (top 15)) .none kV22 dc22 pm22 an22 cd22 ct22), sl22⟩) (c22 : PySem.W.codeIn K cd22 "times" = true) (k22 : PySem.W.keepIn K (.ref f22) = true)
    (a23 : PySem.W.nsIn K mainGlobals "slope_of" = some (some (.ref f23))) (l23 : K.lookup f23 = some ⟨oc23, od23, .func (PySem.W.fnOf "slope_of" "slope_of" (defArgs (top 22)) (defBody (top 22)) (defScope (top 22)) .none kV23 dc23 pm23 an23 cd23 ct23), sl23⟩) (c23 : PySem.W.codeIn K cd23 "slope_of" = true) (k23 : PySem.W.keepIn K (.ref f23) = true)
    (a24 : PySem.W.nsIn K mainGlobals "lone_part" = some (some (.ref f24))) (l24 : K.lookup f24 = some ⟨oc24, od24, .func (PySem.W.fnOf "lone_part" "lone_part" (defArgs (top 31)) (defBody (top 31)) (defScope (top 31)) .none kV24 dc24 pm24 an24 cd24 ct24), sl24⟩) (c24 : PySem.W.codeIn K cd24 "lone_part" = true) (k24 : PySem.W.keepIn K (.ref f24) = true)
    (a25 : PySem.W.nsIn K mainGlobals "_law_refusal" = some (some (.ref f25))) (l25 : K.lookup f25 = some ⟨oc25, od25, .func (PySem.W.fnOf "_law_refusal" "_law_refusal" (defArgs (top 46)) (defBody (top 46)) (defScope (top 46)) .none kV25 dc25 pm25 an25 cd25 ct25), sl25⟩) (c25 : PySem.W.codeIn K cd25 "_law_refusal" = true) (k25 : PySem.W.keepIn K (.ref f25) = true)
    (a26 : PySem.W.nsIn K mainGlobals "_law_refused" = some (some (.ref f26))) (l26 : K.lookup f26 = some ⟨oc26, od26, .func (PySem.W.fnOf "_law_refused" "_law_refused" (defArgs (top 49)) (defBody (top 49)) (defScope (top 49)) .none kV26 dc26 pm26 an26 cd26 ct26), sl26⟩) (c26 : PySem.W.codeIn K cd26 "_law_refused" = true) (k26 : PySem.W.keepIn K (.ref f26) = true)
    (a27 : PySem.W.nsIn K mainGlobals "_law_curve" = some (some (.ref f27))) (l27 : K.lookup f27 = some ⟨oc27, od27, .func (PySem.W.fnOf "_law_curve" "_law_curve" (defArgs (top 42)) (defBody (top 42)) (defScope (top 42)) .none kV27 dc27 pm27 an27 cd27 ct27), sl27⟩) (c27 : PySem.W.codeIn K cd27 "_law_curve" = true) (k27 : PySem.W.keepIn K (.ref f27) = true)
    (a28 : PySem.W.nsIn K mainGlobals "_law_whole" = some (some (.ref f28))) (l28 : K.lookup f28 = some ⟨oc28, od28, .func (PySem.W.fnOf "_law_whole" "_law_whole" (defArgs (top 43)) (defBody (top 43)) (defScope (top 43)) .none kV28 dc28 pm28 an28 cd28 ct28), sl28⟩) (c28 : PySem.W.codeIn K cd28 "_law_whole" = true) (k28 : PySem.W.keepIn K (.ref f28) = true)
    (a29 : PySem.W.nsIn K mainGlobals "_law_is_number" = some (some (.ref f29))) (l29 : K.lookup f29 = some ⟨oc29, od29, .func (PySem.W.fnOf "_law_is_number" "_law_is_number" (defArgs (top 44)) (defBody (top 44)) (defScope (top 44)) .none kV29 dc29 pm29 an29 cd29 ct29), sl29⟩) (c29 : PySem.W.codeIn K cd29 "_law_is_number" = true) (k29 : PySem.W.keepIn K (.ref f29) = true)
    (a30 : PySem.W.nsIn K mainGlobals "_law_is_curve" = some (some (.ref f30))) (l30 : K.lookup f30 = some ⟨oc30, od30, .func (PySem.W.fnOf "_law_is_curve" "_law_is_curve" (defArgs (top 45)) (defBody (top 45)) (defScope (top 45)) .none kV30 dc30 pm30 an30 cd30 ct30), sl30⟩) (c30 : PySem.W.codeIn K cd30 "_law_is_curve" = true) (k30 : PySem.W.keepIn K (.ref f30) = true)
    (a31 : PySem.W.nsIn K mainGlobals "_law_at" = some (some (.ref f31))) (l31 : K.lookup f31 = some ⟨oc31, od31, .func (PySem.W.fnOf "_law_at" "_law_at" (defArgs (top 40)) (defBody (top 40)) (defScope (top 40)) .none kV31 dc31 pm31 an31 cd31 ct31), sl31⟩) (c31 : PySem.W.codeIn K cd31 "_law_at" = true) (k31 : PySem.W.keepIn K (.ref f31) = true)
    (a32 : PySem.W.nsIn K mainGlobals "_law_slope_at" = some (some (.ref f32))) (l32 : K.lookup f32 = some ⟨oc32, od32, .func (PySem.W.fnOf "_law_slope_at" "_law_slope_at" (defArgs (top 41)) (defBody (top 41)) (defScope (top 41)) .none kV32 dc32 pm32 an32 cd32 ct32), sl32⟩) (c32 : PySem.W.codeIn K cd32 "_law_slope_at" = true) (k32 : PySem.W.keepIn K (.ref f32) = true)
    (a33 : PySem.W.nsIn K mainGlobals "law" = some (some (.ref f33))) (l33 : K.lookup f33 = some ⟨oc33, od33, .func (PySem.W.fnOf "law" "law" (defArgs (top 50)) (defBody (top 50)) (defScope (top 50)) .none kV33 dc33 pm33 an33 cd33 ct33), sl33⟩) (c33 : PySem.W.codeIn K cd33 "law" = true) (k33 : PySem.W.keepIn K (.ref f33) = true)
    (z_len : PySem.W.nsIn K mainGlobals "len" = some none)
    (z_abs : PySem.W.nsIn K mainGlobals "abs" = some none)
    (z_range : PySem.W.nsIn K mainGlobals "range" = some none)
    (z_tuple : PySem.W.nsIn K mainGlobals "tuple" = some none)
    (z_int : PySem.W.nsIn K mainGlobals "int" = some none)
    (z_list : PySem.W.nsIn K mainGlobals "list" = some none)
    (z_isinstance : PySem.W.nsIn K mainGlobals "isinstance" = some none)
    (z_ValueError : PySem.W.nsIn K mainGlobals "ValueError" = some none)
    (z_bool : PySem.W.nsIn K mainGlobals "bool" = some none)
    (z_all : PySem.W.nsIn K mainGlobals "all" = some none)
    {g_NOUGHT : Addr} {o_NOUGHT : Obj} {v_NOUGHT : Array Value} {m_NOUGHT : Nat} (x_NOUGHT : PySem.W.nsIn K mainGlobals "NOUGHT" = some (some (.ref g_NOUGHT))) (y_NOUGHT : K.lookup g_NOUGHT = some o_NOUGHT) (w_NOUGHT : o_NOUGHT.cls = .type "tuple") (d_NOUGHT : o_NOUGHT.data = .seq v_NOUGHT m_NOUGHT) (e_NOUGHT : v_NOUGHT.toList.map absV = [some (.int (0 : Rat).num), some (.int ((0 : Rat).den : Int))])
    {a_CurveError : Addr} (nx_CurveError : PySem.W.nsIn K mainGlobals "CurveError" = some (some (.ref a_CurveError)))
    {a_TooMany : Addr} (nx_TooMany : PySem.W.nsIn K mainGlobals "TooMany" = some (some (.ref a_TooMany)))
    {a_NoPoints : Addr} (nx_NoPoints : PySem.W.nsIn K mainGlobals "NoPoints" = some (some (.ref a_NoPoints)))
    {a_NoPoint : Addr} (nx_NoPoint : PySem.W.nsIn K mainGlobals "NoPoint" = some (some (.ref a_NoPoint)))
    {a_NoNumber : Addr} (nx_NoNumber : PySem.W.nsIn K mainGlobals "NoNumber" = some (some (.ref a_NoNumber)))
    {a_NoCurve : Addr} (nx_NoCurve : PySem.W.nsIn K mainGlobals "NoCurve" = some (some (.ref a_NoCurve)))
    {a_NoStretch : Addr} (nx_NoStretch : PySem.W.nsIn K mainGlobals "NoStretch" = some (some (.ref a_NoStretch)))
    {a_TooDeep : Addr} (nx_TooDeep : PySem.W.nsIn K mainGlobals "TooDeep" = some (some (.ref a_TooDeep)))
    {a_TooFew : Addr} (nx_TooFew : PySem.W.nsIn K mainGlobals "TooFew" = some (some (.ref a_TooFew)))
    {a_NoText : Addr} (nx_NoText : PySem.W.nsIn K mainGlobals "NoText" = some (some (.ref a_NoText)))
    {a_NoRow : Addr} (nx_NoRow : PySem.W.nsIn K mainGlobals "NoRow" = some (some (.ref a_NoRow)))
    {bm0NoCurve N0NoCurve nm0NoCurve q0NoCurve bs0NoCurve hd0NoCurve sn0NoCurve sub0NoCurve ab0NoCurve col0NoCurve dd0NoCurve j0NoCurve j1NoCurve j2NoCurve j3NoCurve j5NoCurve} (xl_NoCurve : K.lookup a_NoCurve = some (PySem.excClassObj nm0NoCurve q0NoCurve a_NoCurve N0NoCurve bs0NoCurve bm0NoCurve hd0NoCurve sn0NoCurve sub0NoCurve ab0NoCurve col0NoCurve dd0NoCurve j0NoCurve j1NoCurve j2NoCurve j3NoCurve j5NoCurve "ValueError.__new__"))
    (xex_NoCurve : PySem.W.excIn K a_NoCurve [.type "ValueError", .type "Exception", .type "BaseException", .type "object"] "ValueError.__new__" = true)
    (xga_NoCurve : PySem.W.findIn K (.ref a_NoCurve) "__getattribute__" = some (some (.builtin "BaseException.__getattribute__"))) (xgt_NoCurve : PySem.W.findIn K (.ref a_NoCurve) "__getattr__" = some none) (xca_NoCurve : PySem.W.findIn K (.ref a_NoCurve) "__class__" = some (some (.builtin "object.__class__")))
    (xob_NoCurve : PySem.W.mroIn K a_NoCurve (.type "object") = some true) (xbe_NoCurve : PySem.W.mroIn K a_NoCurve (.type "BaseException") = some true)
    (xm_NoCurve : PySem.W.exmOne K (.ref a_NoCurve) (.ref a_CurveError) = some true) (xv_NoCurve : PySem.W.kitOne K (.ref a_NoCurve) (.type "ValueError") = some true)
    (xk_NoCurve_0 : PySem.W.kitOne K (.ref a_NoCurve) (.ref a_TooMany) = some false)
    (xk_NoCurve_1 : PySem.W.kitOne K (.ref a_NoCurve) (.ref a_NoPoints) = some false)
    (xk_NoCurve_2 : PySem.W.kitOne K (.ref a_NoCurve) (.ref a_NoPoint) = some false)
    (xk_NoCurve_3 : PySem.W.kitOne K (.ref a_NoCurve) (.ref a_NoNumber) = some false)
    (xk_NoCurve_4 : PySem.W.kitOne K (.ref a_NoCurve) (.ref a_NoCurve) = some true)
    (xk_NoCurve_5 : PySem.W.kitOne K (.ref a_NoCurve) (.ref a_NoStretch) = some false)
    (xk_NoCurve_6 : PySem.W.kitOne K (.ref a_NoCurve) (.ref a_TooDeep) = some false)
    (xk_NoCurve_7 : PySem.W.kitOne K (.ref a_NoCurve) (.ref a_TooFew) = some false)
    (xk_NoCurve_8 : PySem.W.kitOne K (.ref a_NoCurve) (.ref a_NoText) = some false)
    (xk_NoCurve_9 : PySem.W.kitOne K (.ref a_NoCurve) (.ref a_NoRow) = some false)
    (xgg : PySem.W.specialIn K (.builtin "object.__class__") "__get__" = some (some (.builtin "getset_descriptor.__get__"))) (xtk : PySem.W.takesIn K (.builtin "object.__class__") = some true) :
    ∃ fd : FuncData, (∀ (s : Shared) (v : Value), BindsTo s fd ⟨[v], []⟩ [("_law_script", v)]) ∧ ∀ base : Heap, K.In base → base.Ns mainGlobals mg → FnOk l.prog w K mg base CX0 39 fa fd ["_law_script"] (spLaw K) := by
  have e := hfa.symm.trans (PySem.W.mg_of X G a33)
  cases e
  have b_len := PySem.W.mg_none_of X G z_len
  have b_abs := PySem.W.mg_none_of X G z_abs
  have b_range := PySem.W.mg_none_of X G z_range
  have b_tuple := PySem.W.mg_none_of X G z_tuple
  have b_int := PySem.W.mg_none_of X G z_int
  have b_list := PySem.W.mg_none_of X G z_list
  have b_isinstance := PySem.W.mg_none_of X G z_isinstance
  have b_ValueError := PySem.W.mg_none_of X G z_ValueError
  have b_bool := PySem.W.mg_none_of X G z_bool
  have b_all := PySem.W.mg_none_of X G z_all
  have c_NOUGHT := PySem.W.mg_of X G x_NOUGHT
  have n_NOUGHT : ∀ H : Hp, NumV K H (.ref g_NOUGHT) (0) := fun H => ⟨_, rfl, const_num y_NOUGHT w_NOUGHT d_NOUGHT e_NOUGHT⟩
  have F1 := fun_mk (st := top 33) l1 c1 k1
  have B1 := Fun.binds2 "_law_script" "_law_k" F1 fun _ _ _ _ _ _ _ _ => rfl
  have F2 := fun_mk (st := top 35) l2 c2 k2
  have B2 := Fun.binds2 "_law_top" "_law_bottom" F2 fun _ _ _ _ _ _ _ _ => rfl
  have F3 := fun_mk (st := top 34) l3 c3 k3
  have B3 := Fun.binds2 "_law_pen_here" "_law_many" F3 fun _ _ _ _ _ _ _ _ => rfl
  have F4 := fun_mk (st := top 39) l4 c4 k4
  have B4 := Fun.binds1 "_law_pen_here" F4 fun _ _ _ _ _ _ _ => rfl
  have F5 := fun_mk (st := top 36) l5 c5 k5
  have B5 := Fun.binds2 "_law_a" "_law_b" F5 fun _ _ _ _ _ _ _ _ => rfl
  have F6 := fun_mk (st := top 38) l6 c6 k6
  have B6 := Fun.binds2 "_law_a" "_law_b" F6 fun _ _ _ _ _ _ _ _ => rfl
  have F7 := fun_mk (st := top 47) l7 c7 k7
  have B7 := Fun.binds2 "_law_one" "_law_other" F7 fun _ _ _ _ _ _ _ _ => rfl
  have F8 := fun_mk (st := top 37) l8 c8 k8
  have B8 := Fun.binds2 "_law_a" "_law_b" F8 fun _ _ _ _ _ _ _ _ => rfl
  have F9 := fun_mk (st := top 48) l9 c9 k9
  have B9 := Fun.binds1 "_law_pen_here" F9 fun _ _ _ _ _ _ _ => rfl
  have F10 := fun_mk (st := top 13) l10 c10 k10
  have B10 := Fun.binds2 "one" "other" F10 fun _ _ _ _ _ _ _ _ => rfl
  have F11 := fun_mk (st := top 19) l11 c11 k11
  have B11 := Fun.binds1 "numbers" F11 fun _ _ _ _ _ _ _ => rfl
  have F12 := fun_mk (st := top 20) l12 c12 k12
  have B12 := Fun.binds2 "numbers" "bottom" F12 fun _ _ _ _ _ _ _ _ => rfl
  have F13 := fun_mk (st := top 25) l13 c13 k13
  have B13 := Fun.binds2 "first" "second" F13 fun _ _ _ _ _ _ _ _ => rfl
  have F14 := fun_mk (st := top 18) l14 c14 k14
  have B14 := Fun.binds1 "numbers" F14 fun _ _ _ _ _ _ _ => rfl
  have F15 := fun_mk (st := top 14) l15 c15 k15
  have B15 := Fun.binds2 "top" "bottom" F15 fun _ _ _ _ _ _ _ _ => rfl
  have F16 := fun_mk (st := top 21) l16 c16 k16
  have B16 := Fun.binds2 "tops" "bottom" F16 fun _ _ _ _ _ _ _ _ => rfl
  have F17 := fun_mk (st := top 24) l17 c17 k17
  have B17 := Fun.binds2 "base" "many" F17 fun _ _ _ _ _ _ _ _ => rfl
  have F18 := fun_mk (st := top 26) l18 c18 k18
  have B18 := Fun.binds2 "one" "other" F18 fun _ _ _ _ _ _ _ _ => rfl
  have F19 := fun_mk (st := top 27) l19 c19 k19
  have B19 := Fun.binds1 "tops" F19 fun _ _ _ _ _ _ _ => rfl
  have F20 := fun_mk (st := top 28) l20 c20 k20
  have B20 := Fun.binds2 "great" "small" F20 fun _ _ _ _ _ _ _ _ => rfl
  have F21 := fun_mk (st := top 29) l21 c21 k21
  have B21 := Fun.binds2 "one" "other" F21 fun _ _ _ _ _ _ _ _ => rfl
  have F22 := fun_mk (st := top 15) l22 c22 k22
  have B22 := Fun.binds2 "a" "b" F22 fun _ _ _ _ _ _ _ _ => rfl
  have F23 := fun_mk (st := top 22) l23 c23 k23
  have B23 := Fun.binds1 "curve" F23 fun _ _ _ _ _ _ _ => rfl
  have F24 := fun_mk (st := top 31) l24 c24 k24
  have B24 := Fun.binds1 "curve" F24 fun _ _ _ _ _ _ _ => rfl
  have F25 := fun_mk (st := top 46) l25 c25 k25
  have B25 := Fun.binds1 "_law_caught" F25 fun _ _ _ _ _ _ _ => rfl
  have F26 := fun_mk (st := top 49) l26 c26 k26
  have B26 := F26.binds (ps := []) fun _ _ _ _ _ _ us hl => match us, hl with | [], _ => rfl
  have F27 := fun_mk (st := top 42) l27 c27 k27
  have B27 := Fun.binds2 "_law_pen_here" "_law_most" F27 fun _ _ _ _ _ _ _ _ => rfl
  have F28 := fun_mk (st := top 43) l28 c28 k28
  have B28 := Fun.binds1 "_law_thing" F28 fun _ _ _ _ _ _ _ => rfl
  have F29 := fun_mk (st := top 44) l29 c29 k29
  have B29 := Fun.binds1 "_law_thing" F29 fun _ _ _ _ _ _ _ => rfl
  have F30 := fun_mk (st := top 45) l30 c30 k30
  have B30 := Fun.binds1 "_law_thing" F30 fun _ _ _ _ _ _ _ => rfl
  have F31 := fun_mk (st := top 40) l31 c31 k31
  have B31 := Fun.binds2 "_law_curve_here" "_law_x" F31 fun _ _ _ _ _ _ _ _ => rfl
  have F32 := fun_mk (st := top 41) l32 c32 k32
  have B32 := Fun.binds2 "_law_curve_here" "_law_x" F32 fun _ _ _ _ _ _ _ _ => rfl
  have F33 := fun_mk (st := top 50) l33 c33 k33
  refine ⟨PySem.W.fnOf "law" "law" (defArgs (top 50)) (defBody (top 50)) (defScope (top 50)) .none kV33 dc33 pm33 an33 cd33 ct33, fun s v => .of_eq rfl, fun base _ _ => ?_⟩
  have c_CurveError := PySem.W.mg_of X G nx_CurveError
  have c_TooMany := PySem.W.mg_of X G nx_TooMany
  have c_NoPoints := PySem.W.mg_of X G nx_NoPoints
  have c_NoPoint := PySem.W.mg_of X G nx_NoPoint
  have c_NoNumber := PySem.W.mg_of X G nx_NoNumber
  have c_NoCurve := PySem.W.mg_of X G nx_NoCurve
  have c_NoStretch := PySem.W.mg_of X G nx_NoStretch
  have c_TooDeep := PySem.W.mg_of X G nx_TooDeep
  have c_TooFew := PySem.W.mg_of X G nx_TooFew
  have c_NoText := PySem.W.mg_of X G nx_NoText
  have c_NoRow := PySem.W.mg_of X G nx_NoRow
  have k_NoCurve : XCls K "NoCurve" a_NoCurve := ⟨nx_NoCurve, ⟨_, _, _, _, _, _, _, _, _, _, _, _, _, _, _, _, xl_NoCurve⟩, xex_NoCurve⟩
  have xr_NoCurve : RefK K a_NoCurve [a_TooMany, a_NoPoints, a_NoPoint, a_NoNumber, a_NoCurve, a_NoStretch, a_TooDeep, a_TooFew, a_NoText, a_NoRow] 4 := ⟨⟨xga_NoCurve, xgt_NoCurve, xca_NoCurve, xgg, xtk, xob_NoCurve, xbe_NoCurve, ⟨_, _, _, _, xl_NoCurve⟩⟩, xv_NoCurve, fun i c h => match i, h with | 0, h => by cases h; exact xk_NoCurve_0 | 1, h => by cases h; exact xk_NoCurve_1 | 2, h => by cases h; exact xk_NoCurve_2 | 3, h => by cases h; exact xk_NoCurve_3 | 4, h => by cases h; exact xk_NoCurve_4 | 5, h => by cases h; exact xk_NoCurve_5 | 6, h => by cases h; exact xk_NoCurve_6 | 7, h => by cases h; exact xk_NoCurve_7 | 8, h => by cases h; exact xk_NoCurve_8 | 9, h => by cases h; exact xk_NoCurve_9 | i + 10, h => nomatch h⟩
  have E__law_pen : Fd l.prog w K mg base 33 "_law_pen" ["_law_script", "_law_k"] (spPen K) := ⟨_, _, ok__law_pen F1 b_len hT, B1, k1, PySem.W.mg_of X G a1⟩
  have E__law_lowest : Fd l.prog w K mg base 33 "_law_lowest" ["_law_top", "_law_bottom"] (spLow) := ⟨_, _, ok__law_lowest F2 b_abs hT, B2, k2, PySem.W.mg_of X G a2⟩
  have E__law_draw : Fd l.prog w K mg base 33 "_law_draw" ["_law_pen_here", "_law_many"] (spDraw) := ⟨_, _, ok__law_draw F3 hT, B3, k3, PySem.W.mg_of X G a3⟩
  have E__law_number : Fd l.prog w K mg base 34 "_law_number" ["_law_pen_here"] (spNum 8) := ⟨_, _, ok__law_number F4 E__law_lowest E__law_draw hT, B4, k4, PySem.W.mg_of X G a4⟩
  have E__law_plus : Fd l.prog w K mg base 34 "_law_plus" ["_law_a", "_law_b"] (spBin K (· + ·)) := ⟨_, _, ok__law_plus F5 E__law_lowest hT, B5, k5, PySem.W.mg_of X G a5⟩
  have E__law_times : Fd l.prog w K mg base 34 "_law_times" ["_law_a", "_law_b"] (spBin K (· * ·)) := ⟨_, _, ok__law_times F6 E__law_lowest hT, B6, k6, PySem.W.mg_of X G a6⟩
  have E__law_product : Fd l.prog w K mg base 35 "_law_product" ["_law_one", "_law_other"] (spProdP K) := ⟨_, _, ok__law_product F7 E__law_plus E__law_times b_range b_tuple b_len hT, B7, k7, PySem.W.mg_of X G a7⟩
  have E__law_minus : Fd l.prog w K mg base 34 "_law_minus" ["_law_a", "_law_b"] (spBin K (· - ·)) := ⟨_, _, ok__law_minus F8 E__law_lowest hT, B8, k8, PySem.W.mg_of X G a8⟩
  have E__law_known : Fd l.prog w K mg base 36 "_law_known" ["_law_pen_here"] (spKnown K) := ⟨_, _, ok__law_known F9 E__law_number E__law_draw E__law_product E__law_lowest E__law_minus b_range b_int b_len hT, B9, k9, PySem.W.mg_of X G a9⟩
  have E_common_measure : Fd l.prog w K mg base 33 "common_measure" ["one", "other"] (spGcd) := ⟨_, _, ok_common_measure F10 b_abs hT, B10, k10, PySem.W.mg_of X G a10⟩
  have E_bottom_of : Fd l.prog w K mg base 34 "bottom_of" ["numbers"] (spBot K) := ⟨_, _, ok_bottom_of F11 E_common_measure hT, B11, k11, PySem.W.mg_of X G a11⟩
  have E_tops_over : Fd l.prog w K mg base 33 "tops_over" ["numbers", "bottom"] (spTops K) := ⟨_, _, ok_tops_over F12 hT, B12, k12, PySem.W.mg_of X G a12⟩
  have E_whole_division : Fd l.prog w K mg base 33 "whole_division" ["first", "second"] (spDiv K) := ⟨_, _, ok_whole_division F13 b_list b_range b_len hT, B13, k13, PySem.W.mg_of X G a13⟩
  have E_curve_of : Fd l.prog w K mg base 33 "curve_of" ["numbers"] (spCurveOf K) := ⟨_, _, ok_curve_of F14 b_len b_tuple c_NOUGHT n_NOUGHT hT, B14, k14, PySem.W.mg_of X G a14⟩
  have E_number_of : Fd l.prog w K mg base 34 "number_of" ["top", "bottom"] (spLow) := ⟨_, _, ok_number_of F15 E_common_measure hT, B15, k15, PySem.W.mg_of X G a15⟩
  have E_curve_over : Fd l.prog w K mg base 35 "curve_over" ["tops", "bottom"] (spCurveOver K) := ⟨_, _, ok_curve_over F16 E_curve_of E_number_of hT, B16, k16, PySem.W.mg_of X G a16⟩
  have E_raised : Fd l.prog w K mg base 33 "raised" ["base", "many"] (spRaised) := ⟨_, _, ok_raised F17 b_range hT, B17, k17, PySem.W.mg_of X G a17⟩
  have E_divided : Fd l.prog w K mg base 36 "divided" ["one", "other"] (spDivd9 K) := ⟨_, _, ok_divided F18 E_bottom_of E_tops_over E_whole_division E_curve_over E_raised b_len hT, B18, k18, PySem.W.mg_of X G a18⟩
  have E_without_last_noughts : Fd l.prog w K mg base 33 "without_last_noughts" ["tops"] (spWLN K) := ⟨_, _, ok_without_last_noughts F19 b_len hT, B19, k19, PySem.W.mg_of X G a19⟩
  have E_last_rest : Fd l.prog w K mg base 34 "last_rest" ["great", "small"] (spLRest K) := ⟨_, _, ok_last_rest F20 E_without_last_noughts E_raised E_whole_division b_len hT, B20, k20, PySem.W.mg_of X G a20⟩
  have E_common_part : Fd l.prog w K mg base 36 "common_part" ["one", "other"] (spCom9 K) := ⟨_, _, ok_common_part F21 E_tops_over E_curve_over E_bottom_of E_last_rest b_len hT, B21, k21, PySem.W.mg_of X G a21⟩
  have E_times : Fd l.prog w K mg base 35 "times" ["a", "b"] (spBin K (· * ·)) := ⟨_, _, ok_times F22 E_number_of hT, B22, k22, PySem.W.mg_of X G a22⟩
  have E_slope_of : Fd l.prog w K mg base 36 "slope_of" ["curve"] (spSlope K) := ⟨_, _, ok_slope_of F23 E_times b_tuple b_range b_len hT, B23, k23, PySem.W.mg_of X G a23⟩
  have E_lone_part : Fd l.prog w K mg base 37 "lone_part" ["curve"] (spLone K) := ⟨_, _, ok_lone_part F24 E_divided E_common_part E_slope_of b_len hT, B24, k24, PySem.W.mg_of X G a24⟩
  have XF_lone_part : FnOk l.prog w K mg base (CX2 l.prog w) 37 _ _ ["curve"] (spLoneX K a_NoCurve) := okx_lone_part (base := base) (w := w) F24 k_NoCurve E_divided E_common_part E_slope_of b_len hT
  have X_lone_part : FdY l.prog w K mg base 37 "lone_part" ["curve"] (spLoneX K a_NoCurve) := ⟨_, _, XF_lone_part, B24, k24, PySem.W.mg_of X G a24⟩
  have Y_lone_part : FdY l.prog w K mg base 37 "lone_part" ["curve"] (fun vs H Q E => (spLone K : Sp) vs H Q E ∨ (spLoneX K a_NoCurve : Sp) vs H Q E) := ⟨_, _, (ok_lone_part F24 E_divided E_common_part E_slope_of b_len hT).calm.or XF_lone_part, B24, k24, PySem.W.mg_of X G a24⟩
  have H__law_refusal : FdH l.prog w K mg base 33 "_law_refusal" "_law_caught" (spRefH K [a_TooMany, a_NoPoints, a_NoPoint, a_NoNumber, a_NoCurve, a_NoStretch, a_TooDeep, a_TooFew, a_NoText, a_NoRow]) := ⟨_, _, okh__law_refusal F25 c_TooMany c_NoPoints c_NoPoint c_NoNumber c_NoCurve c_NoStretch c_TooDeep c_TooFew c_NoText c_NoRow b_isinstance b_len b_ValueError hT, B25, k25, PySem.W.mg_of X G a25⟩
  have E__law_refused : Fd l.prog w K mg base 38 "_law_refused" [] (spRef39 K) := ⟨_, _, ok__law_refused F26 c_CurveError xm_NoCurve xr_NoCurve H__law_refusal Y_lone_part E_lone_part hT, B26, k26, PySem.W.mg_of X G a26⟩
  have E__law_curve : Fd l.prog w K mg base 35 "_law_curve" ["_law_pen_here", "_law_most"] (spCurve K 8) := ⟨_, _, ok__law_curve F27 E__law_number E__law_draw b_tuple b_range hT, B27, k27, PySem.W.mg_of X G a27⟩
  have E__law_whole : Fd l.prog w K mg base 33 "_law_whole" ["_law_thing"] (spWhole K) := ⟨_, _, ok__law_whole F28 b_isinstance b_int b_bool hT, B28, k28, PySem.W.mg_of X G a28⟩
  have E__law_is_number : Fd l.prog w K mg base 34 "_law_is_number" ["_law_thing"] (spIsN K) := ⟨_, _, ok__law_is_number F29 E__law_whole E__law_lowest b_isinstance b_tuple b_len hT, B29, k29, PySem.W.mg_of X G a29⟩
  have E__law_is_curve : Fd l.prog w K mg base 35 "_law_is_curve" ["_law_thing"] (spIsC K) := ⟨_, _, ok__law_is_curve F30 E__law_is_number b_isinstance b_tuple b_all hT, B30, k30, PySem.W.mg_of X G a30⟩
  have E__law_at : Fd l.prog w K mg base 35 "_law_at" ["_law_curve_here", "_law_x"] (spAt K) := ⟨_, _, ok__law_at F31 E__law_plus E__law_times hT, B31, k31, PySem.W.mg_of X G a31⟩
  have E__law_slope_at : Fd l.prog w K mg base 36 "_law_slope_at" ["_law_curve_here", "_law_x"] (spSlopeAt K) := ⟨_, _, ok__law_slope_at F32 E__law_at E__law_times b_range b_len hT, B32, k32, PySem.W.mg_of X G a32⟩
  exact ok_law F33 E__law_pen E__law_known E_lone_part E__law_refused E__law_curve E__law_is_curve E__law_times E_common_part E__law_at E__law_slope_at E_divided E__law_draw b_tuple b_range b_len hT
theorem walk {l : PySem.W.OpenLaw} {q : Program} {loose : List Str} {XP : (Str → Option Value) → Heap → Prop} {YP : World → Heap → Prop} {d : DefRec} {K : Params → PySem.W.Frag} (hI : PyProof.Rows.importsNone q = true) (hn : l.most = some 63) (hdf : d.params.defaults = [])
    (hY : ∀ (w : World) (h : Heap), YP w h → (K w.params).In h)
    (F : ∀ (w : World) (mg : Str → Option Value) (fa : Addr) (h : Heap), (K w.params).In h → h.Ns mainGlobals mg → mg d.name = some (.ref fa) →
      ∃ fd : FuncData, (∀ (s : Shared) (u : Value), BindsTo s fd ⟨[u], []⟩ [("_law_script", u)]) ∧ ∀ base : Heap, (K w.params).In base → base.Ns mainGlobals mg → FnOk l.prog w (K w.params) mg base CX0 39 fa fd ["_law_script"] ((fun (K : PySem.W.Frag) => (spLaw K : Sp)) (K w.params))) :
    PySem.W.WalkO q loose XP YP l.row.toRowW d [] (fun f vs => PySem.call f vs) :=
  L2.walk_of (n := 63) (k := 39) (x := "_law_script") (CX := fun _ => CX0) (sp := fun w => (fun (K : PySem.W.Frag) => (spLaw K : Sp)) (K w.params)) hI hn (by decide) hdf ⟨rfl, by decide, by decide⟩ hY F (fun _ _ a ns hl _ hS => ⟨a, ns, rfl, hS, hl, fun _ => rfl⟩) fun _ _ _ _ _ z => z
end Pf
def PySem.W.Fast.tw11377326849085489201 : Unit := ()
def PySem.W.Fast.tw5944070742910016286 : Unit := ()
def PySem.W.Fast.tw17403985738692644261 : Unit := ()
def PySem.W.Fast.tw2235037504595272831 : Unit := ()
def PySem.W.Fast.tw2338118145703698531 : Unit := ()
def PySem.W.Fast.tw5972687577167792150 : Unit := ()
def PySem.W.Fast.tw1005225544982775941 : Unit := ()
def PySem.W.Fast.tw6205209269900739235 : Unit := ()
def PySem.W.Fast.tw3709902349247455373 : Unit := ()
def PySem.W.Fast.tw9455687202368665156 : Unit := ()
def PySem.W.Fast.tw14700470402537542887 : Unit := ()
def PySem.W.Fast.tw16967943377337281213 : Unit := ()
def PySem.W.Fast.tw15052195383517211508 : Unit := ()
def PySem.W.Fast.tw15041786605621118528 : Unit := ()
def PySem.W.Fast.tw16262920527107524983 : Unit := ()
def PySem.W.Fast.tw8227016469231190899 : Unit := ()
def PySem.W.Fast.tw17949152303908807941 : Unit := ()
def PySem.W.Fast.tw2644185849669354128 : Unit := ()
def PySem.W.Fast.tw18189640718029564834 : Unit := ()
def PySem.W.Fast.tw9027774777567799468 : Unit := ()
def PySem.W.Fast.tw855656315879917882 : Unit := ()
def PySem.W.Fast.tw8533214761634677105 : Unit := ()
def PySem.W.Fast.tw9688904181369941875 : Unit := ()
def PySem.W.Fast.tw8934011148990957560 : Unit := ()
def PySem.W.Fast.tw17588943276884309381 : Unit := ()
def PySem.W.Fast.tw12853949762500939307 : Unit := ()
def PySem.W.Fast.tw3864980947451192781 : Unit := ()
def PySem.W.Fast.tw6548417886432891286 : Unit := ()
def PySem.W.Fast.tw5484456129729558161 : Unit := ()
def PySem.W.Fast.tw8556752930711024366 : Unit := ()
def PySem.W.Fast.tw7891663123110893669 : Unit := ()
def PySem.W.Fast.tw12834239743704627046 : Unit := ()
def PySem.W.Fast.tw2813894861568257833 : Unit := ()
def PySem.W.Fast.tw7876052310349831945 : Unit := ()
def PySem.W.Fast.tw12890822752767684561 : Unit := ()
def PySem.W.Fast.tw12112431745341453170 : Unit := ()
def PySem.W.Fast.tw15586265172474074847 : Unit := ()
def PySem.W.Fast.tw13237098961330004110 : Unit := ()
def PySem.W.Fast.tw14474501553709358571 : Unit := ()
def PySem.W.Fast.tw10411562938758733156 : Unit := ()
def PySem.W.Fast.tw11992891913272554751 : Unit := ()
def PySem.W.Fast.tw171539382711256479 : Unit := ()
def PySem.W.Fast.tw13316860076920482817 : Unit := ()
def PySem.W.Fast.tw9316319137125785308 : Unit := ()
def PySem.W.Fast.tw14354962268992755617 : Unit := ()
def PySem.W.Fast.tw3928389607540410172 : Unit := ()
def PySem.W.Fast.tw6646235711718264132 : Unit := ()
def PySem.W.Fast.tw4904700274126462882 : Unit := ()
def PySem.W.Fast.tw11299139124879185835 : Unit := ()
def PySem.W.Fast.tw7644313142254255692 : Unit := ()
def PySem.W.Fast.tw13933643608556201608 : Unit := ()
def PySem.W.Fast.tw1467386318016334977 : Unit := ()
def PySem.W.Fast.tw12386423560227478797 : Unit := ()
def PySem.W.Fast.tw15836667528454062269 : Unit := ()
def PySem.W.Fast.tw14057052988710367722 : Unit := ()
def PySem.W.Fast.tw4050407866323239643 : Unit := ()
def PySem.W.Fast.tw310092817561801667 : Unit := ()
def PySem.W.Fast.tw16894252743859753092 : Unit := ()
def PySem.W.Fast.tw3679411063073982405 : Unit := ()
def PySem.W.Fast.tw5233519365649668536 : Unit := ()
def PySem.W.Fast.tw6850417227463396342 : Unit := ()
def PySem.W.Fast.tw8904192369066269107 : Unit := ()
def PySem.W.Fast.tw588076973332522131 : Unit := ()
def PySem.W.Fast.tw4410260154636612505 : Unit := ()
def PySem.W.Fast.tw3889293728680530301 : Unit := ()
def PySem.W.Fast.tw4245879646780675909 : Unit := ()
def PySem.W.Fast.tw14035678155146023217 : Unit := ()
def PySem.W.Fast.tw7306071168954466466 : Unit := ()
def PySem.W.Fast.tw11202746059017646880 : Unit := ()
def PySem.W.Fast.tw14393186177293433793 : Unit := ()
def PySem.W.Fast.tw13315876343830798524 : Unit := ()
def PySem.W.Fast.tw12744931740989864702 : Unit := ()
def PySem.W.Fast.tw16189833375241942355 : Unit := ()
def PySem.W.Fast.tw1774167313217222138 : Unit := ()
def PySem.W.Fast.tw1099813785010964378 : Unit := ()
def PySem.W.Fast.tw4744861032631917524 : Unit := ()
def PySem.W.Fast.tw11449413615905580206 : Unit := ()
def PySem.W.Fast.tw17546834796542144963 : Unit := ()
def PySem.W.Fast.tw18028357516896604707 : Unit := ()
def PySem.W.Fast.tw10233457675604544321 : Unit := ()
def PySem.W.Fast.tw825360632096792905 : Unit := ()
def PySem.W.Fast.tw10582879620757387141 : Unit := ()
def PySem.W.Fast.tw15328485711669450570 : Unit := ()
def PySem.W.Fast.tw9457469965151537323 : Unit := ()
def PySem.W.Fast.tw859641561839591058 : Unit := ()
def PySem.W.Fast.tw13565873821464105754 : Unit := ()
def PySem.W.Fast.tw12274160049213830053 : Unit := ()
def PySem.W.Fast.tw9582595552305955132 : Unit := ()
open PySem PySem.W PyProof.Rows
set_option maxRecDepth 100000 in
set_option maxHeartbeats 0 in
theorem PySem.Challenge.cw_onecurve_k39_lone_parts_holds : PySem.Challenge.rw_onecurve_k39_lone_parts.Holds := by
  w_on; o_law; k_head; (case hw => w_witness2)
  k_fill
  refine Pf.walk (l := PySem.Challenge.rw_onecurve_k39_lone_parts) (by decide +kernel) rfl rfl (fun w h Y => PySem.W.kIn_of Y) ?F
  case F =>
    intro w mg fa h KX G hmg
    refine' Pf.all_mk rfl KX G hmg ?a1 ?l1 ?c1 ?k1 ?a2 ?l2 ?c2 ?k2 ?a3 ?l3 ?c3 ?k3 ?a4 ?l4 ?c4 ?k4 ?a5 ?l5 ?c5 ?k5 ?a6 ?l6 ?c6 ?k6 ?a7 ?l7 ?c7 ?k7 ?a8 ?l8 ?c8 ?k8 ?a9 ?l9 ?c9 ?k9 ?a10 ?l10 ?c10 ?k10 ?a11 ?l11 ?c11 ?k11 ?a12 ?l12 ?c12 ?k12 ?a13 ?l13 ?c13 ?k13 ?a14 ?l14 ?c14 ?k14 ?a15 ?l15 ?c15 ?k15 ?a16 ?l16 ?c16 ?k16 ?a17 ?l17 ?c17 ?k17 ?a18 ?l18 ?c18 ?k18 ?a19 ?l19 ?c19 ?k19 ?a20 ?l20 ?c20 ?k20 ?a21 ?l21 ?c21 ?k21 ?a22 ?l22 ?c22 ?k22 ?a23 ?l23 ?c23 ?k23 ?a24 ?l24 ?c24 ?k24 ?a25 ?l25 ?c25 ?k25 ?a26 ?l26 ?c26 ?k26 ?a27 ?l27 ?c27 ?k27 ?a28 ?l28 ?c28 ?k28 ?a29 ?l29 ?c29 ?k29 ?a30 ?l30 ?c30 ?k30 ?a31 ?l31 ?c31 ?k31 ?a32 ?l32 ?c32 ?k32 ?a33 ?l33 ?c33 ?k33 ?z_len ?z_abs ?z_range ?z_tuple ?z_int ?z_list ?z_isinstance ?z_ValueError ?z_bool ?z_all ?x_NOUGHT ?y_NOUGHT ?w_NOUGHT ?d_NOUGHT ?e_NOUGHT ?nx_CurveError ?nx_TooMany ?nx_NoPoints ?nx_NoPoint ?nx_NoNumber ?nx_NoCurve ?nx_NoStretch ?nx_TooDeep ?nx_TooFew ?nx_NoText ?nx_NoRow ?xl_NoCurve ?xex_NoCurve ?xga_NoCurve ?xgt_NoCurve ?xca_NoCurve ?xob_NoCurve ?xbe_NoCurve ?xm_NoCurve ?xv_NoCurve ?xk_NoCurve_0 ?xk_NoCurve_1 ?xk_NoCurve_2 ?xk_NoCurve_3 ?xk_NoCurve_4 ?xk_NoCurve_5 ?xk_NoCurve_6 ?xk_NoCurve_7 ?xk_NoCurve_8 ?xk_NoCurve_9 ?xgg ?xtk
    (case a1 => k_is)
    (case l1 => k_is)
    (case c1 => k_is)
    (case k1 => k_is)
    (case a2 => k_is)
    (case l2 => k_is)
    (case c2 => k_is)
    (case k2 => k_is)
    (case a3 => k_is)
    (case l3 => k_is)
    (case c3 => k_is)
    (case k3 => k_is)
    (case a4 => k_is)
    (case l4 => k_is)
    (case c4 => k_is)
    (case k4 => k_is)
    (case a5 => k_is)
    (case l5 => k_is)
    (case c5 => k_is)
    (case k5 => k_is)
    (case a6 => k_is)
    (case l6 => k_is)
    (case c6 => k_is)
    (case k6 => k_is)
    (case a7 => k_is)
    (case l7 => k_is)
    (case c7 => k_is)
    (case k7 => k_is)
    (case a8 => k_is)
    (case l8 => k_is)
    (case c8 => k_is)
    (case k8 => k_is)
    (case a9 => k_is)
    (case l9 => k_is)
    (case c9 => k_is)
    (case k9 => k_is)
    (case a10 => k_is)
    (case l10 => k_is)
    (case c10 => k_is)
    (case k10 => k_is)
    (case a11 => k_is)
    (case l11 => k_is)
    (case c11 => k_is)
    (case k11 => k_is)
    (case a12 => k_is)
    (case l12 => k_is)
    (case c12 => k_is)
    (case k12 => k_is)
    (case a13 => k_is)
    (case l13 => k_is)
    (case c13 => k_is)
    (case k13 => k_is)
    (case a14 => k_is)
    (case l14 => k_is)
    (case c14 => k_is)
    (case k14 => k_is)
    (case a15 => k_is)
    (case l15 => k_is)
    (case c15 => k_is)
    (case k15 => k_is)
    (case a16 => k_is)
    (case l16 => k_is)
    (case c16 => k_is)
    (case k16 => k_is)
    (case a17 => k_is)
    (case l17 => k_is)
    (case c17 => k_is)
    (case k17 => k_is)
    (case a18 => k_is)
    (case l18 => k_is)
    (case c18 => k_is)
    (case k18 => k_is)
    (case a19 => k_is)
    (case l19 => k_is)
    (case c19 => k_is)
    (case k19 => k_is)
    (case a20 => k_is)
    (case l20 => k_is)
    (case c20 => k_is)
    (case k20 => k_is)
    (case a21 => k_is)
    (case l21 => k_is)
    (case c21 => k_is)
    (case k21 => k_is)
    (case a22 => k_is)
    (case l22 => k_is)
    (case c22 => k_is)
    (case k22 => k_is)
    (case a23 => k_is)
    (case l23 => k_is)
    (case c23 => k_is)
    (case k23 => k_is)
    (case a24 => k_is)
    (case l24 => k_is)
    (case c24 => k_is)
    (case k24 => k_is)
    (case a25 => k_is)
    (case l25 => k_is)
    (case c25 => k_is)
    (case k25 => k_is)
    (case a26 => k_is)
    (case l26 => k_is)
    (case c26 => k_is)
    (case k26 => k_is)
    (case a27 => k_is)
    (case l27 => k_is)
    (case c27 => k_is)
    (case k27 => k_is)
    (case a28 => k_is)
    (case l28 => k_is)
    (case c28 => k_is)
    (case k28 => k_is)
    (case a29 => k_is)
    (case l29 => k_is)
    (case c29 => k_is)
    (case k29 => k_is)
    (case a30 => k_is)
    (case l30 => k_is)
    (case c30 => k_is)
    (case k30 => k_is)
    (case a31 => k_is)
    (case l31 => k_is)
    (case c31 => k_is)
    (case k31 => k_is)
    (case a32 => k_is)
    (case l32 => k_is)
    (case c32 => k_is)
    (case k32 => k_is)
    (case a33 => k_is)
    (case l33 => k_is)
    (case c33 => k_is)
    (case k33 => k_is)
    (case z_len => k_is)
    (case z_abs => k_is)
    (case z_range => k_is)
    (case z_tuple => k_is)
    (case z_int => k_is)
    (case z_list => k_is)
    (case z_isinstance => k_is)
    (case z_ValueError => k_is)
    (case z_bool => k_is)
    (case z_all => k_is)
    (case x_NOUGHT => k_is)
    (case y_NOUGHT => k_is)
    (case w_NOUGHT => rfl)
    (case d_NOUGHT => rfl)
    (case e_NOUGHT => rfl)
    (case nx_CurveError => k_is)
    (case nx_TooMany => k_is)
    (case nx_NoPoints => k_is)
    (case nx_NoPoint => k_is)
    (case nx_NoNumber => k_is)
    (case nx_NoCurve => k_is)
    (case nx_NoStretch => k_is)
    (case nx_TooDeep => k_is)
    (case nx_TooFew => k_is)
    (case nx_NoText => k_is)
    (case nx_NoRow => k_is)
    (case xl_NoCurve => k_is)
    (case xex_NoCurve => k_exc)
    (case xga_NoCurve => k_is)
    (case xgt_NoCurve => k_is)
    (case xca_NoCurve => k_is)
    (case xob_NoCurve => k_is)
    (case xbe_NoCurve => k_is)
    (case xm_NoCurve => kts_exm)
    (case xv_NoCurve => kit_is)
    (case xk_NoCurve_0 => kit_is)
    (case xk_NoCurve_1 => kit_is)
    (case xk_NoCurve_2 => kit_is)
    (case xk_NoCurve_3 => kit_is)
    (case xk_NoCurve_4 => kit_is)
    (case xk_NoCurve_5 => kit_is)
    (case xk_NoCurve_6 => kit_is)
    (case xk_NoCurve_7 => kit_is)
    (case xk_NoCurve_8 => kit_is)
    (case xk_NoCurve_9 => kit_is)
    (case xgg => k_is)
    (case xtk => k_is)
#print axioms PySem.Challenge.cw_onecurve_k39_lone_parts_holds
