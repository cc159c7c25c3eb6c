import PyProof.Rows.All
import Wide.All
import OpenK.AllK
import Wide.FinOn
import Lean
import PyProof.EqAt
import PyProof.EqKinds
import PyProof.TupleCall
import PySem.Challenge.RW_onecurve_k38_halves_of_a_stretch
set_option Elab.async false
set_option linter.all false
set_option maxRecDepth 100000
/-! THE HAND LAYER, for ints, bools, texts, own classes, LISTS and tuples (index, slices, in, append, pop ..), calls, loops. Paste it whole ahead of your own text; what your proof does not reach may be deleted. -/
namespace L2
open PySem PySem.Spec PyProof.Rows

/-- a key: an int or a str -/
abbrev Key := Sum Int Str
def keyIs : Key → Value → Bool
  | .inl k, v => Value.isInt k v
  | .inr x, v => Value.isStrOf x v
def keyH (w : World) : Key → Int
  | .inl k => hashInt k
  | .inr x => hashStr w x
theorem keyIs_shape : ∀ {k : Key} {v : Value}, keyIs k v = true → (∃ i t, k = Sum.inl i ∧ v = Value.int i t) ∨ (∃ x t, k = Sum.inr x ∧ v = Value.str x t)
  | .inl i, v, h => by
    obtain ⟨t, e⟩ := Value.isInt_shape (k := i) (v := v) h
    exact .inl ⟨i, t, rfl, e⟩
  | .inr x, v, h => by
    obtain ⟨t, e⟩ := Value.isStrOf_shape (x := x) (v := v) h
    exact .inr ⟨x, t, rfl, e⟩
theorem key_ll (a b : Int) : decide ((Sum.inl a : Key) = Sum.inl b) = (a == b) := by
  by_cases e : a = b
  · subst e; simp
  · have h : ¬ (Sum.inl a : Key) = Sum.inl b := fun q => e (Sum.inl.inj q)
    rw [decide_eq_false h]
    exact (beq_eq_false_iff_ne.mpr e).symm
theorem key_rr (a b : Str) : decide ((Sum.inr a : Key) = Sum.inr b) = decide (a = b) := by
  by_cases e : a = b
  · subst e; simp
  · have h : ¬ (Sum.inr a : Key) = Sum.inr b := fun q => e (Sum.inr.inj q)
    rw [decide_eq_false h, decide_eq_false e]
theorem key_lr (a : Int) (b : Str) : decide ((Sum.inl a : Key) = Sum.inr b) = false := decide_eq_false (fun q => nomatch q)
theorem key_rl (a : Str) (b : Int) : decide ((Sum.inr a : Key) = Sum.inl b) = false := decide_eq_false (fun q => nomatch q)

def mixKind (prog : Program) (w : World) : PySem.KeyKind prog w Key where
  is := keyIs
  hash := keyH w
  inj := fun v a b ha hb => by
    rcases keyIs_shape ha with ⟨i, t, rfl, rfl⟩ | ⟨x, t, rfl, rfl⟩
    · rcases keyIs_shape hb with ⟨j, u, rfl, e⟩ | ⟨y, u, rfl, e⟩
      · injection e with e1 _; rw [e1]
      · exact nomatch e
    · rcases keyIs_shape hb with ⟨j, u, rfl, e⟩ | ⟨y, u, rfl, e⟩
      · exact nomatch e
      · injection e with e1 _; rw [e1]
  byValue := fun k v h => by
    rcases keyIs_shape h with ⟨i, t, rfl, rfl⟩ | ⟨x, t, rfl, rfl⟩ <;> rfl
  pyHash := fun hv h => by
    rcases keyIs_shape hv with ⟨i, t, rfl, rfl⟩ | ⟨x, t, rfl, rfl⟩
    · exact wpAny_pyHash_int h
    · exact wpAny_pyHash_str h
  eqBool := fun hu hv h => by
    rcases keyIs_shape hu with ⟨i, t, rfl, rfl⟩ | ⟨x, t, rfl, rfl⟩
    · rcases keyIs_shape hv with ⟨j, u, rfl, rfl⟩ | ⟨y, u, rfl, rfl⟩
      · rw [key_ll] at h; exact wpAny_eqBool_int h
      · rw [key_lr] at h; exact SeqAt.EqAt.int_str i t y u _ _ _ _ h
    · rcases keyIs_shape hv with ⟨j, u, rfl, rfl⟩ | ⟨y, u, rfl, rfl⟩
      · rw [key_rl] at h; exact SeqAt.EqAt.str_int x t j u _ _ _ _ h
      · rw [key_rr] at h; exact wpAny_eqBool_str h
  «strs» := fun k x t v h => by
    rcases keyIs_shape h with ⟨i, u, rfl, e⟩ | ⟨y, u, rfl, e⟩
    · exact nomatch e
    · injection e with e1 _
      subst e1
      cases v <;> rfl

end L2

namespace L2
open PySem PySem.Spec PyProof.Rows

/-- a value, without the heap -/
inductive V where
  | non | bl (b : Bool) | int (i : Int) | str (x : Str) | byt (b : Array UInt8) | flt (b : UInt64) | ref (a : Addr) | ty (n : String)
  deriving DecidableEq

def RelV : V → Value → Prop
  | .non, u => u = Value.none
  | .bl b, u => u = Value.bool b
  | .int i, u => ∃ t, u = Value.int i t
  | .str x, u => ∃ t, u = Value.str x t
  | .byt b, u => ∃ t, u = Value.bytes b t
  | .flt b, u => ∃ t, u = Value.float b t
  | .ref a, u => u = Value.ref a
  | .ty n, u => u = Value.type n

abbrev Vals : List V → List Value → Prop := Paired RelV
theorem Vals.length {xs : List V} {us : List Value} (r : Vals xs us) : xs.length = us.length := Paired.length r
theorem Vals.get : ∀ {xs : List V} {us : List Value} {i : Nat} {x : V}, Vals xs us → xs[i]? = some x → ∃ u, us[i]? = some u ∧ RelV x u
  | _, _, _, _, .nil, e => by simp at e
  | _, _, 0, _, .cons r _, e => by simp at e; subst e; exact ⟨_, rfl, r⟩
  | _, _, i + 1, x, .cons _ t, e => by
    obtain ⟨u, h1, h2⟩ := Vals.get (i := i) (x := x) t (by simpa using e)
    exact ⟨u, by simpa using h1, h2⟩
theorem Vals.set {x : V} {u : Value} (r : RelV x u) : ∀ {xs : List V} {us : List Value} (i : Nat), Vals xs us → Vals (xs.set i x) (us.set i u)
  | _, _, _, .nil => .nil
  | _, _, 0, .cons _ t => .cons r t
  | _, _, i + 1, .cons q t => .cons q (Vals.set r i t)
theorem Vals.append : ∀ {xs ys : List V} {us ws : List Value}, Vals xs us → Vals ys ws → Vals (xs ++ ys) (us ++ ws)
  | _, _, _, _, .nil, s => s
  | _, _, _, _, .cons r t, s => .cons r (Vals.append t s)
theorem Vals.take : ∀ {xs : List V} {us : List Value} (n : Nat), Vals xs us → Vals (xs.take n) (us.take n)
  | _, _, 0, _ => .nil
  | _, _, _ + 1, .nil => .nil
  | _, _, n + 1, .cons r t => .cons r (Vals.take n t)
theorem Vals.drop : ∀ {xs : List V} {us : List Value} (n : Nat), Vals xs us → Vals (xs.drop n) (us.drop n)
  | _, _, 0, r => r
  | _, _, _ + 1, .nil => .nil
  | _, _, n + 1, .cons _ t => Vals.drop n t
def RelO : Option V → Option Value → Prop
  | some v, some u => RelV v u
  | none, none => True
  | _, _ => False
def KV {κ : Type} : List (κ × V) → List (κ × Value) → Prop := Paired fun (p : κ × V) (q : κ × Value) => p.1 = q.1 ∧ RelV p.2 q.2

/-- a key of a dict (00_mix): an int or a text -/
def kV : Key → V
  | .inl i => .int i
  | .inr x => .str x

/-- what stands at a tracked address -/
inductive HO where
  /-- a list -/
  | lst (xs : List V)
  /-- a tuple (never changes) -/
  | tup (xs : List V)
  /-- a dict whose keys are ints and texts; one whose keys are tuples of ints and texts (the empty one is both) -/
  | dK (kvs : List (Key × V)) | dT (kvs : List (List Key × V))
  /-- a set of ints: its members, its size -/
  | set (S : Int → Bool) (n : Nat)
  /-- an instance of the class at C, its dict at dx, its attributes -/
  | ins (C dx : Addr) (fs : List (Str × V))
  /-- the dict of the instance at x -/
  | own (x : Addr)
  /-- the dict of an exception -/
  | xd (fs : List (Str × V))
  /-- a bound method, f of x -/
  | met (f x : Addr)
  /-- a range object lo, lo + 1, .. below hi -/
  | rng (lo hi : Int)
  /-- a thing that is known to the object (the script; a dict while a loop walks it): read, never written while it is so -/
  | frz (o : Obj) (u : HO)
  /-- a code object's table -/
  | tbl (ps : Array Value)
  /-- any other thing, by what is true of its one object (a def of one's own: SetO a S n := HO.ext fun h => ..) -/
  | ext (φ : Heap → Prop)

abbrev Hp := Addr → Option HO
def upd (H : Hp) (a : Addr) (o : HO) : Hp := fun b => if b = a then some o else H b
theorem upd_same {H : Hp} {a : Addr} {o : HO} : upd H a o a = some o := by unfold upd; rw [if_pos rfl]
theorem upd_ne {H : Hp} {a b : Addr} {o : HO} (h : b ≠ a) : upd H a o b = H b := by unfold upd; rw [if_neg h]
theorem upd_upd {H : Hp} {a : Addr} {o u : HO} : upd (upd H a o) a u = upd H a u := by
  funext b; unfold upd; split <;> rfl
/-- two objects of different content stand apart -/
theorem ne_of {H : Hp} {a b : Addr} {o u : HO} (h : H a = some o) (h' : H b = some u) (d : o ≠ u) : a ≠ b := by
  intro e; subst e; rw [h] at h'; exact d (Option.some.inj h')
theorem ne_of_none {H : Hp} {a b : Addr} {o : HO} (h : H a = some o) (h' : H b = none) : a ≠ b := by
  intro e; subst e; rw [h] at h'; cases h'

section
variable (P : Program) (w : World)
def ObjOk (H : Hp) (h : Heap) (a : Addr) : HO → Prop
  | .lst xs => xs.length ≤ sizeLine ∧ ∃ (its : List Value) (n : Nat), Vals xs its ∧ h.get? a = some { cls := .type "list", data := .seq its.toArray n }
  | .tup xs => xs.length ≤ sizeLine ∧ ∃ its : List Value, Vals xs its ∧ IsTup h a its.toArray
  | .dK kvs => kvs.length ≤ sizeLine ∧ (a == sysModules) = false ∧ ∃ vs, KV kvs vs ∧ h.DictOf (mixKind P w) a vs
  | .dT kvs => kvs.length ≤ sizeLine ∧ (a == sysModules) = false ∧ ∃ xs : List (List Key × Addr × Value),
      Paired (fun (p : List Key × V) (q : List Key × Addr × Value) => p.1 = q.1 ∧ H q.2.1 = some (.tup (p.1.map kV)) ∧ RelV p.2 q.2.2) kvs xs ∧
      ∃ o es ep, h.get? a = some o ∧ o.ExactDict ∧ o.data = .dict es ep ∧ es.toList = xs.map (entryOfKey (tupleKind (mixKind P w))) ∧ (xs.map (·.1)).Nodup
  | .set S n => h.SetOf (intKind P w) a S n
  | .ins C dx fs => H dx = some (.own a) ∧ fs.length ≤ 1000 ∧ dx ≠ a ∧ h.get? a = some (PySem.W.instObj C dx) ∧
      ∃ mA, h.Ns1 dx mA ∧ (∀ f, RelO (fs.lookup f) (mA f)) ∧ PySem.Within mA (fs.map (·.1))
  | .own _ => ∃ o, h.get? a = some o
  | .xd fs => ∃ mA, h.Ns1 a mA ∧ ∀ f, RelO (fs.lookup f) (mA f)
  | .rng lo hi => ∃ t u v, h.get? a = some { cls := .type "range", data := .fields #[.int lo t, .int hi u, .int 1 v] }
  | .frz o u => h.get? a = some o ∧ ObjOk H h a u
  | .tbl ps => h.get? a = some { cls := .none, data := .fields ps }
  | .met f x => h.get? a = some (PySem.W.methodObj (.ref f) (.ref x))
  | .ext φ => φ h ∧ (∃ o, h.get? a = some o) ∧ ∀ h1 h2 : Heap, φ h1 → (∀ o, h1.get? a = some o → h2.get? a = some o) → φ h2
/-- the abstract heap is held -/
def HOk (H : Hp) (h : Heap) : Prop := ∀ a o, H a = some o → ObjOk P w H h a o
end

section
variable {P : Program} {w : World} {H H' : Hp} {h h' : Heap} {a : Addr} {o : HO}
theorem ObjOk.lt (x : ObjOk P w H h a o) : a < h.objs.size := by
  cases o with
  | lst xs => obtain ⟨_, _, _, _, e⟩ := x; exact Heap.lt_size e
  | tup xs => obtain ⟨_, _, _, p⟩ := x; exact p.lt
  | dK kvs => obtain ⟨_, _, _, _, o, _, _, e, _⟩ := x; exact Heap.lt_size e
  | dT kvs => obtain ⟨_, _, _, _, o, _, _, e, _⟩ := x; exact Heap.lt_size e
  | set S n => obtain ⟨o, _, _, _, e, _⟩ := x; exact Heap.lt_size e
  | ins C dx fs => obtain ⟨_, _, _, e, _⟩ := x; exact Heap.lt_size e
  | own y => obtain ⟨_, e⟩ := x; exact Heap.lt_size e
  | xd fs => obtain ⟨_, ⟨_, _, _, e, _⟩, _⟩ := x; exact Heap.lt_size e
  | rng lo hi => obtain ⟨_, _, _, e⟩ := x; exact Heap.lt_size e
  | frz ob u => obtain ⟨e, _⟩ := x; exact Heap.lt_size e
  | tbl ps => exact Heap.lt_size (show h.get? a = some _ from x)
  | met f y => exact Heap.lt_size (show h.get? a = some _ from x)
  | ext φ => obtain ⟨_, ⟨_, e⟩, _⟩ := x; exact Heap.lt_size e
theorem Paired.mapP {α β : Type} {F G : α → β → Prop} : ∀ {l₁ : List α} {l₂ : List β}, Paired F l₁ l₂ → (∀ a b, F a b → G a b) → Paired G l₁ l₂
  | _, _, .nil, _ => .nil
  | _, _, .cons r t, f => .cons (f _ _ r) (Paired.mapP t f)
/-- what an object's description leans on: its own object, its own dict, the tuples -/
theorem ObjOk.stay (x : ObjOk P w H h a o) (k : ∀ b u, (b = a ∨ H b = some (.own a)) → h.get? b = some u → h'.get? b = some u)
    (ho : ∀ b, H b = some (.own a) → H' b = some (.own a)) (ht : ∀ b xs, H b = some (.tup xs) → H' b = some (.tup xs)) : ObjOk P w H' h' a o := by
  induction o with
  | lst xs => obtain ⟨z, its, n, r, e⟩ := x; exact ⟨z, its, n, r, k _ _ (.inl rfl) e⟩
  | tup xs => obtain ⟨z, its, r, ob, e, c⟩ := x; exact ⟨z, its, r, ob, k _ _ (.inl rfl) e, c⟩
  | dK kvs => obtain ⟨z, y, vs, r, ob, es, ep, e, c⟩ := x; exact ⟨z, y, vs, r, ob, es, ep, k _ _ (.inl rfl) e, c⟩
  | dT kvs =>
    obtain ⟨z, y, xs, r, ob, es, ep, e, c⟩ := x
    exact ⟨z, y, xs, Paired.mapP r fun p q z => ⟨z.1, ht _ _ z.2.1, z.2.2⟩, ob, es, ep, k _ _ (.inl rfl) e, c⟩
  | set S n => obtain ⟨ob, es, ep, t, e, c⟩ := x; exact ⟨ob, es, ep, t, k _ _ (.inl rfl) e, c⟩
  | ins C dx fs =>
    obtain ⟨d, z, ne, e, mA, ⟨od, es, ep, e2, c⟩, r⟩ := x
    exact ⟨ho _ d, z, ne, k _ _ (.inl rfl) e, mA, ⟨od, es, ep, k _ _ (.inr d) e2, c⟩, r⟩
  | own y => obtain ⟨ob, e⟩ := x; exact ⟨ob, k _ _ (.inl rfl) e⟩
  | xd fs => obtain ⟨mA, ⟨od, es, ep, e, c⟩, r⟩ := x; exact ⟨mA, ⟨od, es, ep, k _ _ (.inl rfl) e, c⟩, r⟩
  | rng lo hi => obtain ⟨t, u, v, e⟩ := x; exact ⟨t, u, v, k _ _ (.inl rfl) e⟩
  | frz ob u ih => obtain ⟨e, q⟩ := x; exact ⟨k _ _ (.inl rfl) e, ih q⟩
  | tbl ps =>
    have e : h.get? a = some { cls := .none, data := .fields ps } := x
    show h'.get? a = some { cls := .none, data := .fields ps }
    exact k a _ (.inl rfl) e
  | met f y =>
    have e : h.get? a = some (PySem.W.methodObj (.ref f) (.ref y)) := x
    show h'.get? a = some (PySem.W.methodObj (.ref f) (.ref y))
    exact k a _ (.inl rfl) e
  | ext φ => obtain ⟨p, ⟨o, e⟩, st⟩ := x; exact ⟨st _ _ p fun o q => k _ _ (.inl rfl) q, ⟨o, k _ _ (.inl rfl) e⟩, st⟩
theorem HOk.lt (x : HOk P w H h) (e : H a = some o) : a < h.objs.size := (x a o e).lt
theorem HOk.fresh (x : HOk P w H h) (e : h.objs.size ≤ a) : H a = none := by
  cases q : H a with
  | none => rfl
  | some u => exact absurd (Nat.lt_of_lt_of_le (x.lt q) e) (Nat.lt_irrefl _)
/-- every object of the heap is kept -/
theorem HOk.kept (x : HOk P w H h) (k : ∀ b u, h.get? b = some u → h'.get? b = some u) : HOk P w H h' := fun a o e =>
  (x a o e).stay (fun b u _ q => k b u q) (fun _ q => q) fun _ _ q => q
/-- a new object is laid and tracked -/
theorem HOk.laid (x : HOk P w H h) (k : ∀ b u, h.get? b = some u → h'.get? b = some u) (hp : h.objs.size ≤ a) (new : ObjOk P w (upd H a o) h' a o) : HOk P w (upd H a o) h' := fun b u e => by
  have hn := x.fresh hp
  by_cases hb : b = a
  · subst hb; rw [upd_same] at e; cases e; exact new
  · rw [upd_ne hb] at e
    exact (x b u e).stay (fun c v _ q => k c v q) (fun c q => by rw [upd_ne (ne_of_none q hn)]; exact q) fun c xs q => by rw [upd_ne (ne_of_none q hn)]; exact q
end

/-- what may be read as u: it is u, or a known u -/
def Rd (H : Hp) (a : Addr) (u : HO) : Prop := H a = some u ∨ ∃ o, H a = some (.frz o u)
theorem Rd.ok {P : Program} {w : World} {H : Hp} {h : Heap} {a : Addr} {u : HO} (r : Rd H a u) (x : HOk P w H h) : ObjOk P w H h a u := by
  rcases r with r | ⟨o, r⟩
  · exact x a u r
  · obtain ⟨_, q⟩ := x a _ r
    exact q
/-- what may be written -/
def Mut : Option HO → Prop
  | some (.lst _) => True
  | some (.dK _) => True
  | some (.dT _) => True
  | some (.set _ _) => True
  | some (.ins _ _ _) => True
  | some (.ext _) => True
  | _ => False
section
variable {P : Program} {w : World} {H : Hp} {h h' : Heap} {x e : Addr} {o' : HO}
/-- the object at e is changed: x itself, or the dict of the instance x -/
theorem HOk.write (ok : HOk P w H h) (mu : Mut (H x)) (he : e = x ∨ H e = some (.own x)) (k : ∀ b u, b ≠ e → h.get? b = some u → h'.get? b = some u) (heo : ∃ u, h'.get? e = some u)
    (new : ObjOk P w (upd H x o') h' x o') : HOk P w (upd H x o') h' := fun b u q => by
  have nown : ∀ c y, H c = some (.own y) → c ≠ x := fun c y r z => by subst z; rw [r] at mu; exact mu
  have ntup : ∀ c xs, H c = some (.tup xs) → c ≠ x := fun c xs r z => by subst z; rw [r] at mu; exact mu
  by_cases hb : b = x
  · subst hb; rw [upd_same] at q; cases q; exact new
  · rw [upd_ne hb] at q
    by_cases hbe : b = e
    · have q' : H b = some (.own x) := by
        rcases he with z | z
        · exact absurd (hbe.trans z) hb
        · rw [hbe]; exact z
      rw [q] at q'; cases q'
      obtain ⟨v, hv⟩ := heo
      exact ⟨v, by rw [hbe]; exact hv⟩
    · refine (ok b u q).stay (fun c v hc r => k c v ?_ r) (fun c r => by rw [upd_ne (nown c b r)]; exact r) fun c xs r => by rw [upd_ne (ntup c xs r)]; exact r
      rcases hc with rfl | hc
      · exact hbe
      · rintro rfl
        rcases he with z | z
        · exact nown c b hc z
        · rw [hc] at z; cases z; exact hb rfl
end

/-! ### kept unless tracked; of the frames at fs (the callers') the slots may change (an exception that passes writes there); of the records at ex (iterators) nothing is said -/
structure Un (fs ex : List Addr) (H H' : Hp) (h h' : Heap) : Prop where
  keep : ∀ b o, h.get? b = some o → H b = none → b ∉ fs → b ∉ ex → h'.get? b = some o
  slot : ∀ b o, h.get? b = some o → H b = none → b ∈ fs → b ∉ ex → ∃ sl, h'.get? b = some { o with slots := sl }
  free : ∀ b o, h.get? b = some o → H b = none → b ∉ ex → H' b = none
  there : ∀ b o, h.get? b = some o → b ∉ ex → ∃ o', h'.get? b = some o'
  tups : ∀ b xs, H b = some (.tup xs) → H' b = some (.tup xs)
  frzs : ∀ b o u, H b = some (.frz o u) → H' b = some (.frz o u)
  tbls : ∀ b ps, H b = some (.tbl ps) → ∃ more, H' b = some (.tbl (ps ++ more))
section
variable {fs fs' ex ex' : List Addr} {H H1 H2 : Hp} {h h1 h2 h' : Heap} {a x e : Addr} {o : HO}
theorem Un.any (u : Un fs ex H H1 h h1) {b : Addr} {ob : Obj} (q : h.get? b = some ob) (n : H b = none) (hx : b ∉ ex) : ∃ sl, h1.get? b = some { ob with slots := sl } := by
  by_cases hb : b ∈ fs
  · exact u.slot b ob q n hb hx
  · exact ⟨ob.slots, u.keep b ob q n hb hx⟩
theorem Un.kept (k : ∀ b u, h.get? b = some u → h'.get? b = some u) : Un fs ex H H h h' :=
  ⟨fun b ob q _ _ _ => k b ob q, fun b ob q _ _ _ => ⟨ob.slots, k b ob q⟩, fun _ _ _ n _ => n, fun b ob q _ => ⟨ob, k b ob q⟩, fun _ _ q => q, fun _ _ _ q => q, fun _ ps q => ⟨#[], by rw [q]; simp⟩⟩
theorem Un.refl : Un fs ex H H h h := Un.kept fun _ _ q => q
theorem Un.laid (k : ∀ b u, h.get? b = some u → h'.get? b = some u) (hp : h.objs.size ≤ a) (hn : H a = none) : Un fs ex H (upd H a o) h h' where
  keep := fun b u q _ _ _ => k b u q
  slot := fun b u q _ _ _ => ⟨u.slots, k b u q⟩
  free := fun b u q n _ => by rw [upd_ne (Nat.ne_of_lt (Nat.lt_of_lt_of_le (Heap.lt_size q) hp))]; exact n
  there := fun b u q _ => ⟨u, k b u q⟩
  tups := fun b xs q => by rw [upd_ne (ne_of_none q hn)]; exact q
  frzs := fun b u xs q => by rw [upd_ne (ne_of_none q hn)]; exact q
  tbls := fun b ps q => ⟨#[], by rw [upd_ne (ne_of_none q hn), q]; simp⟩
theorem Un.write (mu : Mut (H x)) (he : e = x ∨ H e = some (.own x)) (k : ∀ b u, b ≠ e → h.get? b = some u → h'.get? b = some u) (heo : ∃ u, h'.get? e = some u) : Un fs ex H (upd H x o) h h' := by
  have hx : ∀ b, H b = none → b ≠ x := fun b n z => by subst z; rw [n] at mu; exact mu
  have hb : ∀ b, H b = none → b ≠ e := fun b n z => by
    subst z
    rcases he with r | r
    · exact hx b n r
    · rw [n] at r; cases r
  have hm : ∀ b u, H b = some u → ¬ Mut (some u) → b ≠ x := fun b u q nm z => by subst z; rw [q] at mu; exact nm mu
  refine ⟨fun b u q n _ _ => k b u (hb b n) q, fun b u q n _ _ => ⟨u.slots, k b u (hb b n) q⟩, fun b u q n _ => by rw [upd_ne (hx b n)]; exact n, fun b u q _ => ?_,
    fun b xs q => by rw [upd_ne (hm b _ q fun z => z)]; exact q, fun b u xs q => by rw [upd_ne (hm b _ q fun z => z)]; exact q, fun b ps q => ⟨#[], by rw [upd_ne (hm b _ q fun z => z), q]; simp⟩⟩
  by_cases hbe : b = e
  · subst hbe; exact heo
  · exact ⟨u, k b u hbe q⟩
end

/-! ### the heap without what is tracked -/
def trk (h : Heap) (H : Hp) : List Addr := (List.range h.objs.size).filter fun a => (H a).isSome
def hidT (h : Heap) (H : Hp) : Heap := PySem.W.hideAll h (trk h H)
theorem hidT_size (h : Heap) (H : Hp) : (hidT h H).objs.size = h.objs.size := PySem.W.hideAll_size _ _
theorem hidT_get {h : Heap} {H : Hp} {b : Addr} {o : Obj} (e : h.get? b = some o) (n : H b = none) : (hidT h H).get? b = some o :=
  PySem.W.hideAll_get _ e fun hm => by
    have q : (H b).isSome = true := (List.mem_filter.mp hm).2
    rw [n] at q; simp at q
theorem of_hidT {h : Heap} {H : Hp} {b : Addr} {o : Obj} (e : (hidT h H).get? b = some o) : h.get? b = some o ∧ H b = none := by
  have e' : h.get? b = some o := PySem.W.of_hideAll (trk h H) e
  refine ⟨e', ?_⟩
  cases q : H b with
  | none => rfl
  | some x =>
    have hm : b ∈ trk h H := List.mem_filter.mpr ⟨List.mem_range.mpr (Heap.lt_size e'), by simp [q]⟩
    have z : (hidT h H).get? b = none := PySem.W.hideAll_none (trk h H) hm
    rw [z] at e; cases e

/-! ### OpenK's ledger, filled with every new object but one -/
def allNews (g h : Heap) (L : Addr) : List (Addr × Obj) := (List.range h.objs.size).filterMap fun a => if a = L ∨ (g.get? a).isSome = true then none else (h.get? a).map fun o => (a, o)
def rest (g h : Heap) (L d : Addr) : List (Addr × Obj) := (allNews g h L).filter fun p => decide (p.1 ≠ d)
end L2

namespace L2
open PySem PySem.Spec PyProof.Rows

/-- the module's facts, over the base: the heap at the law's entry without what is tracked there -/
structure Mod (K : PySem.W.Frag) (mg : Str → Option Value) (base : Heap) : Prop where
  kin : K.In base
  glob : base.Ns mainGlobals mg
  blt : ∃ mb, base.Ns builtinsNs mb ∧ ∀ x : Str, x ≠ "__name__" → mb x = bootBuiltins x
  nolimit : base.NoLimit
  seer : base.NoSeer

/-- the context: a def's body (or a comprehension's block) running. base: fixed through the whole law; s₀, H₀: the entry; outer: the frames whose slots others may change (a def's callers); stack: all frames that run;
   ex: iterators that were made ahead of the entry and are walked here (a comprehension's); fn: the names whose cells were made at the entry (a def: all; a comprehension's block: its own); calm: not within an except suite; pn: pins that every state bears; xe: what is wanted of an exception that leaves the code -/
structure Cx where
  prog : Program
  w : World
  K : PySem.W.Frag
  mg : Str → Option Value
  base : Heap
  A : Around
  N : List Str
  s₀ : Shared
  H₀ : Hp
  env : Env
  outer : List Env
  stack : List Env
  ex : List Addr
  fn : Str → Bool
  calm : Bool
  pn : List (Addr × Obj)
  xe : Value → Shared → Prop
/-- the callers' frames -/
def frs (l : List Env) : List Addr := l.filterMap (·.frame)
abbrev Cx.fs (X : Cx) : List Addr := frs X.outer

def Vis (sc : Scope) (x : Str) : Prop := sc.names.lookup x = some .local ∨ sc.names.lookup x = some .cell ∨ sc.names.lookup x = some .free
def Loc (sc : Scope) (x : Str) : Prop := sc.names.lookup x = some .local ∨ sc.names.lookup x = some .cell
def Look (env : Env) (h : Heap) (m : Str → Option Value) (x : Str) (u : Value) : Prop :=
  (env.kindOf x = some .local ∧ m x = some u) ∨ ((env.kindOf x = some .cell ∨ env.kindOf x = some .free) ∧ ∃ c, env.cells.lookup x = some c ∧ h.IsCell c (some u))

structure Cx.Ok (X : Cx) : Prop where
  mod : Mod X.K X.mg X.base
  kind : X.env.scope.kind = .function
  glob : X.env.globals = mainGlobals
  blt : X.env.builtins = builtinsNs
  above : X.s₀.heap.objs.size ≤ X.env.locals
  inj : ∀ x y c, X.env.cells.lookup x = some c → X.env.cells.lookup y = some c → x = y
  has : ∀ x, (X.env.kindOf x = some .cell ∨ X.env.kindOf x = some .free) → ∃ c, X.env.cells.lookup x = some c
  cab : ∀ x c, X.fn x = true → X.env.cells.lookup x = some c → X.s₀.heap.objs.size ≤ c
  hd : X.calm = true → X.A.handled = none
  frames : X.A.frames = some X.stack
  stk : X.stack = X.outer ∨ (X.stack = X.env :: X.outer ∧ X.env.frame = some X.env.locals)
  exf : ∀ b ∈ X.ex, b ≠ X.env.locals ∧ ∀ x c, X.env.cells.lookup x = some c → c ≠ b
  bs : ∀ b o, X.base.get? b = some o → X.s₀.heap.get? b = some o ∧ X.H₀ b = none
  bsz : X.base.objs.size ≤ X.s₀.heap.objs.size
  noex : ∀ b o, X.base.get? b = some o → b ∉ X.ex
  exfs : ∀ b ∈ X.ex, b ∉ X.fs
  funs : X.s₀.heap.FunFrames X.base X.outer
  frf : ∀ b ∈ X.fs, X.H₀ b = none

structure Inv (X : Cx) (pins : List (Addr × Obj)) (σ : List (Option V)) (H : Hp) (s : Shared) : Prop where
  ok : X.Ok
  os : s.os = X.s₀.os
  bare : AllBare s.gens
  base : Un X.fs X.ex X.H₀ H X.s₀.heap s.heap
  loc : ∃ m, s.heap.Ns X.env.locals m ∧ ∀ (i : Nat) (x : Str) (v : V), X.N[i]? = some x → σ[i]? = some (some v) → Vis X.env.scope x → ∃ u, RelV v u ∧ Look X.env s.heap m x u
  cell : ∀ x c, X.env.cells.lookup x = some c → ∃ v, s.heap.IsCell c v
  free : H X.env.locals = none
  freeC : ∀ x c, X.env.cells.lookup x = some c → H c = none
  pin : ∀ p ∈ X.pn ++ pins, s.heap.get? p.1 = some p.2 ∧ H p.1 = none ∧ p.1 ≠ X.env.locals ∧ p.1 ∉ X.fs ∧ ∀ v, p.2.data ≠ .cell v
  hok : HOk X.prog X.w H s.heap
  len : σ.length = X.N.length

section
variable {X : Cx} {pins : List (Addr × Obj)} {σ : List (Option V)} {H H' : Hp} {s : Shared} {h' : Heap}

theorem Cx.Ok.nofr (ok : X.Ok) {b : Addr} {o : Obj} (e : X.base.get? b = some o) : b ∉ X.fs := fun hb => by
  have := (ok.funs.mem hb).1
  rw [e] at this; cases this
theorem Inv.bs (I : Inv X pins σ H s) : ∀ b o, X.base.get? b = some o → s.heap.get? b = some o ∧ H b = none := fun b o e =>
  ⟨I.base.keep b o (I.ok.bs b o e).1 (I.ok.bs b o e).2 (I.ok.nofr e) (I.ok.noex b o e), I.base.free b o (I.ok.bs b o e).1 (I.ok.bs b o e).2 (I.ok.noex b o e)⟩
theorem Inv.bk (I : Inv X pins σ H s) : ∀ b o, X.base.get? b = some o → s.heap.get? b = some o := fun b o e => (I.bs b o e).1
theorem Inv.mod (I : Inv X pins σ H s) : Mod X.K X.mg X.base := I.ok.mod
theorem Inv.kIn (I : Inv X pins σ H s) : X.K.In s.heap := I.ok.mod.kin.keeps I.bk
theorem Inv.nolimit (I : Inv X pins σ H s) : s.heap.NoLimit := I.ok.mod.nolimit.keeps I.bk
theorem Inv.lt (I : Inv X pins σ H s) : X.env.locals < s.heap.objs.size := let ⟨_, hn, _⟩ := I.loc; hn.lt
theorem Inv.sz (I : Inv X pins σ H s) : X.s₀.heap.objs.size ≤ s.heap.objs.size := Nat.le_trans I.ok.above (Nat.le_of_lt I.lt)
theorem Inv.nofs (I : Inv X pins σ H s) {a : Addr} (h : s.heap.objs.size ≤ a) : a ∉ X.fs := fun hb => by
  obtain ⟨_, o, ho, _⟩ := I.ok.funs.mem hb
  exact absurd (Nat.lt_of_lt_of_le (Heap.lt_size ho) (Nat.le_trans I.sz h)) (Nat.lt_irrefl _)
theorem Inv.cne (I : Inv X pins σ H s) : ∀ x c, X.env.cells.lookup x = some c → c ≠ X.env.locals := fun x c e z => by
  obtain ⟨v, o, ho, hd⟩ := I.cell x c e
  obtain ⟨m, ⟨o', es, ep, ho', hd', _⟩, _⟩ := I.loc
  rw [z, ho'] at ho; cases ho; rw [hd'] at hd; cases hd
theorem Inv.funs (I : Inv X pins σ H s) : s.heap.FunFrames X.base X.outer := by
  have all : ∀ (l : List Env), (∀ b ∈ frs l, b ∈ X.fs) → X.s₀.heap.FunFrames X.base l → s.heap.FunFrames X.base l := by
    intro l
    induction l with
    | nil => intro _ _; trivial
    | cons env r ih =>
      intro hs hl
      obtain ⟨hk, ⟨L, o, hf, hn, ho, hd⟩, hr⟩ := hl
      have hL : L ∈ X.fs := hs L (by unfold frs; rw [List.filterMap_cons, hf]; exact List.mem_cons_self)
      obtain ⟨sl, e⟩ := I.base.slot L o ho (I.ok.frf L hL) hL fun z => I.ok.exfs L z hL
      exact ⟨hk, ⟨L, _, hf, hn, e, hd⟩, ih (fun b hb => hs b (by unfold frs; rw [List.filterMap_cons, hf]; exact List.mem_cons_of_mem _ hb)) hr⟩
  exact all X.outer (fun _ hb => hb) I.ok.funs

/-- the frames that run, for a call -/
theorem Inv.stack (I : Inv X pins σ H s) : s.heap.FunFrames X.base X.stack := by
  rcases I.ok.stk with e | ⟨e, hf⟩
  · rw [e]; exact I.funs
  · rw [e]
    obtain ⟨m, hn, _⟩ := I.loc
    refine .cons (by rw [I.ok.kind]; decide) hf hn ?_ I.funs
    exact Heap.get?_none_of_le (Nat.le_trans I.ok.bsz I.ok.above)
theorem Inv.stkSub (I : Inv X pins σ H s) : ∀ b ∈ frs X.stack, b ∈ X.env.locals :: X.fs := fun b hb => by
  rcases I.ok.stk with e | ⟨e, hf⟩
  · rw [e] at hb; exact List.mem_cons_of_mem _ hb
  · rw [e] at hb
    unfold frs at hb
    rw [List.filterMap_cons, hf] at hb
    exact hb
theorem Inv.stkFree (I : Inv X pins σ H s) : ∀ b ∈ frs X.stack, H b = none := fun b hb => by
  rcases List.mem_cons.mp (I.stkSub b hb) with e | hb
  · rw [e]; exact I.free
  · obtain ⟨_, o, ho, _⟩ := I.ok.funs.mem hb
    exact I.base.free b o ho (I.ok.frf b hb) fun z => I.ok.exfs b z hb

/-- THE STEP: the untracked objects but the frame and the records at ch are kept (the callers' frames up to slots), the frame's map is kept, the new abstract heap is held -/
theorem Inv.step {g' : Array GenState} {t' : Nat} {d' : Drawn} {ch : List Addr} (I : Inv X pins σ H s)
    (hch : ∀ b ∈ ch, (b ∈ X.ex ∨ X.s₀.heap.objs.size ≤ b) ∧ b ≠ X.env.locals ∧ (∀ x c, X.env.cells.lookup x = some c → c ≠ b) ∧ ∀ p ∈ X.pn ++ pins, p.1 ≠ b)
    (keep : ∀ b o, b ≠ X.env.locals → b ∉ X.fs → b ∉ ch → s.heap.get? b = some o → H b = none → h'.get? b = some o)
    (slot : ∀ b o, b ≠ X.env.locals → b ∈ X.fs → b ∉ ch → s.heap.get? b = some o → H b = none → ∃ sl, h'.get? b = some { o with slots := sl }) (free : ∀ b o, b ∉ ch → s.heap.get? b = some o → H b = none → H' b = none)
    (there : ∀ b o, b ∉ ch → s.heap.get? b = some o → ∃ o', h'.get? b = some o')
    (tups : ∀ b xs, H b = some (.tup xs) → H' b = some (.tup xs)) (frzs : ∀ b o u, H b = some (.frz o u) → H' b = some (.frz o u)) (tbls : ∀ b ps, H b = some (.tbl ps) → ∃ more, H' b = some (.tbl (ps ++ more)))
    (ns : ∀ m, s.heap.Ns X.env.locals m → h'.Ns X.env.locals m) (hok : HOk X.prog X.w H' h') (hg : AllBare g') :
    Inv X pins σ H' { s with heap := h', gens := g', drawn := d', toks := t' } := by
  have neL : ∀ b o, X.s₀.heap.get? b = some o → b ≠ X.env.locals := fun b o e => Nat.ne_of_lt (Nat.lt_of_lt_of_le (Heap.lt_size e) I.ok.above)
  have neC : ∀ b o, X.s₀.heap.get? b = some o → b ∉ X.ex → b ∉ ch := fun b o e hx hb => by
    rcases (hch b hb).1 with z | z
    · exact hx z
    · exact absurd (Nat.lt_of_lt_of_le (Heap.lt_size e) z) (Nat.lt_irrefl _)
  have cellK : ∀ x c, X.env.cells.lookup x = some c → ∀ v, s.heap.IsCell c v → h'.IsCell c v := fun x c e v ⟨o, ho, hd⟩ => by
    have nch : c ∉ ch := fun z => (hch c z).2.2.1 x c e rfl
    by_cases hc : c ∈ X.fs
    · obtain ⟨sl, q⟩ := slot c o (I.cne x c e) hc nch ho (I.freeC x c e)
      exact ⟨_, q, hd⟩
    · exact ⟨o, keep c o (I.cne x c e) hc nch ho (I.freeC x c e), hd⟩
  refine ⟨I.ok, I.os, hg, ⟨fun b o e n hb hx => ?_, fun b o e n hb hx => ?_, fun b o e n hx => ?_, fun b o e hx => ?_, fun b xs e => tups b xs (I.base.tups b xs e), fun b o xs e => frzs b o xs (I.base.frzs b o xs e), fun b ps e => ?_⟩, ?_, fun x c e => ?_, ?_, fun x c e => ?_, fun p hp => ?_, hok, I.len⟩
  · exact keep b o (neL b o e) hb (neC b o e hx) (I.base.keep b o e n hb hx) (I.base.free b o e n hx)
  · obtain ⟨sl, e1⟩ := I.base.slot b o e n hb hx
    obtain ⟨sl', e2⟩ := slot b _ (neL b o e) hb (neC b o e hx) e1 (I.base.free b o e n hx)
    exact ⟨sl', e2⟩
  · obtain ⟨o', e1⟩ := I.base.there b o e hx
    exact free b o' (neC b o e hx) e1 (I.base.free b o e n hx)
  · obtain ⟨o', e1⟩ := I.base.there b o e hx
    exact there b o' (neC b o e hx) e1
  · obtain ⟨m1, e1⟩ := I.base.tbls b ps e
    obtain ⟨m2, e2⟩ := tbls b _ e1
    exact ⟨m1 ++ m2, by rw [e2, Array.append_assoc]⟩
  · obtain ⟨m, hn, hl⟩ := I.loc
    refine ⟨m, ns m hn, fun i x v e1 e2 e3 => ?_⟩
    obtain ⟨u, r, l⟩ := hl i x v e1 e2 e3
    refine ⟨u, r, ?_⟩
    rcases l with l | ⟨k, c, e, z⟩
    · exact .inl l
    · exact .inr ⟨k, c, e, cellK x c e _ z⟩
  · obtain ⟨v, z⟩ := I.cell x c e
    exact ⟨v, cellK x c e v z⟩
  · obtain ⟨m, ⟨o, _, _, ho, _⟩, _⟩ := I.loc
    exact free _ o (fun z => (hch _ z).2.1 rfl) ho I.free
  · obtain ⟨v, o, ho, hd⟩ := I.cell x c e
    exact free c o (fun z => (hch c z).2.2.1 x c e rfl) ho (I.freeC x c e)
  · obtain ⟨e, n, ne, nf, d⟩ := I.pin p hp
    have nch : p.1 ∉ ch := fun z => (hch p.1 z).2.2.2 p hp rfl
    exact ⟨keep p.1 p.2 ne nf nch e n, free p.1 p.2 nch e n, ne, nf, d⟩
/-- .. where the frame's own object is kept too -/
theorem Inv.un {t' : Nat} (I : Inv X pins σ H s) (u : Un X.fs [] H H' s.heap h') (hok : HOk X.prog X.w H' h') : Inv X pins σ H' { s with heap := h', toks := t' } := by
  obtain ⟨m, ⟨o, es, ep, ho, r⟩, _⟩ := id I.loc
  obtain ⟨sl, hL⟩ := u.any ho I.free (by simp)
  exact I.step (g' := s.gens) (d' := s.drawn) (ch := []) (fun _ z => nomatch z) (fun b o _ hb _ e n => u.keep b o e n hb (by simp)) (fun b o _ hb _ e n => u.slot b o e n hb (by simp)) (fun b o _ e n => u.free b o e n (by simp)) (fun b o _ e => u.there b o e (by simp)) u.tups u.frzs u.tbls (fun m' hm => by
    obtain ⟨o', es', ep', ho', r'⟩ := hm
    rw [ho] at ho'; cases ho'
    exact ⟨_, es', ep', hL, r'⟩) hok I.bare
/-- behind a call (or a comprehension's block): the slots of this frame may have changed too, the records at ch may have turned -/
theorem Inv.call {g' : Array GenState} {t' : Nat} {d' : Drawn} {ch : List Addr} (I : Inv X pins σ H s) (u : Un (frs X.stack) ch H H' s.heap h') (hok : HOk X.prog X.w H' h') (hg : AllBare g')
    (hch : ∀ b ∈ ch, (b ∈ X.ex ∨ X.s₀.heap.objs.size ≤ b) ∧ b ≠ X.env.locals ∧ (∀ x c, X.env.cells.lookup x = some c → c ≠ b) ∧ ∀ p ∈ X.pn ++ pins, p.1 ≠ b) :
    Inv X pins σ H' { s with heap := h', gens := g', drawn := d', toks := t' } := by
  obtain ⟨m, ⟨o, es, ep, ho, r⟩, _⟩ := id I.loc
  obtain ⟨sl, hL⟩ := u.any ho I.free fun z => (hch _ z).2.1 rfl
  exact I.step (ch := ch) hch (fun b o hL hb hc e n => u.keep b o e n (fun z => (List.mem_cons.mp (I.stkSub b z)).elim hL hb) hc) (fun b o _ _ hc e n => u.any e n hc) (fun b o hc e n => u.free b o e n hc) (fun b o hc e => u.there b o e hc) u.tups u.frzs u.tbls (fun m' hm => by
    obtain ⟨o', es', ep', ho', r'⟩ := hm
    rw [ho] at ho'; cases ho'
    exact ⟨_, es', ep', hL, r'⟩) hok hg
/-- an untracked record of ours (an iterator) has turned -/
theorem Inv.turned {t' : Nat} {it : Addr} (I : Inv X pins σ H s) (k : ∀ b o, b ≠ it → s.heap.get? b = some o → h'.get? b = some o) (hn : H it = none) (hL : it ≠ X.env.locals)
    (h1 : it ∈ X.ex ∨ X.s₀.heap.objs.size ≤ it) (h2 : ∀ x c, X.env.cells.lookup x = some c → c ≠ it) (h3 : ∀ p ∈ X.pn ++ pins, p.1 ≠ it) : Inv X pins σ H { s with heap := h', toks := t' } := by
  have nit : ∀ b u, H b = some u → b ≠ it := fun b u e z => by rw [z, hn] at e; cases e
  refine I.step (g' := s.gens) (d' := s.drawn) (ch := [it]) (fun b hb => ?_) (fun b o _ _ hc e _ => k b o (fun z => hc (by simp [z])) e) (fun b o _ _ hc e _ => ⟨o.slots, k b o (fun z => hc (by simp [z])) e⟩) (fun _ _ _ _ n => n)
    (fun b o hc e => ⟨o, k b o (fun z => hc (by simp [z])) e⟩) (fun _ _ e => e) (fun _ _ _ e => e) (fun b ps e => ⟨#[], by rw [e]; simp⟩) (fun m hm => ?_) (fun b u e => ?_) I.bare
  · have e : b = it := by simpa using hb
    subst e
    exact ⟨h1, hL, h2, h3⟩
  · obtain ⟨o, es, ep, ho, r⟩ := hm
    exact ⟨o, es, ep, k _ o (Ne.symm hL) ho, r⟩
  · refine (I.hok b u e).stay (fun c v hc q => k c v ?_ q) (fun _ q => q) fun _ _ q => q
    rcases hc with z | z
    · rw [z]; exact nit b u e
    · exact nit c _ z
theorem Inv.tok (I : Inv X pins σ H s) (t : Nat) : Inv X pins σ H { s with toks := t } := I.un (h' := s.heap) (t' := t) Un.refl I.hok
/-- all objects kept -/
theorem Inv.kept {t' : Nat} (I : Inv X pins σ H s) (k : ∀ b u, s.heap.get? b = some u → h'.get? b = some u) : Inv X pins σ H { s with heap := h', toks := t' } := I.un (Un.kept k) (I.hok.kept k)
/-- a new object laid and tracked -/
theorem Inv.laid {a : Addr} {o : HO} {t' : Nat} (I : Inv X pins σ H s) (k : ∀ b u, s.heap.get? b = some u → h'.get? b = some u) (hp : s.heap.objs.size ≤ a) (new : ObjOk X.prog X.w (upd H a o) h' a o) :
    Inv X pins σ (upd H a o) { s with heap := h', toks := t' } := I.un (Un.laid k hp (I.hok.fresh hp)) (I.hok.laid k hp new)
/-- an object written -/
theorem Inv.write {x e : Addr} {o : HO} {t' : Nat} (I : Inv X pins σ H s) (mu : Mut (H x)) (he : e = x ∨ H e = some (.own x)) (k : ∀ b u, b ≠ e → s.heap.get? b = some u → h'.get? b = some u) (heo : ∃ u, h'.get? e = some u)
    (new : ObjOk X.prog X.w (upd H x o) h' x o) : Inv X pins σ (upd H x o) { s with heap := h', toks := t' } := I.un (Un.write mu he k heo) (I.hok.write mu he k heo new)
/-- forgetting slots, pins -/
theorem Inv.weak {σ' : List (Option V)} (I : Inv X pins σ H s) (hl : σ'.length = σ.length) (w : ∀ (i : Nat) v, σ'[i]? = some (some v) → σ[i]? = some (some v)) : Inv X pins σ' H s :=
  ⟨I.ok, I.os, I.bare, I.base, let ⟨m, hn, hl'⟩ := I.loc; ⟨m, hn, fun i x v e1 e2 e3 => hl' i x v e1 (w i v e2) e3⟩, I.cell, I.free, I.freeC, I.pin, I.hok, hl.trans I.len⟩
theorem Inv.pins_of {pins' : List (Addr × Obj)} (I : Inv X pins σ H s) (h : ∀ p ∈ pins', s.heap.get? p.1 = some p.2 ∧ H p.1 = none ∧ p.1 ≠ X.env.locals ∧ p.1 ∉ X.fs ∧ ∀ v, p.2.data ≠ .cell v) : Inv X pins' σ H s :=
  ⟨I.ok, I.os, I.bare, I.base, I.loc, I.cell, I.free, I.freeC, fun p hp => (List.mem_append.mp hp).elim (fun z => I.pin p (List.mem_append_left _ z)) (h p), I.hok, I.len⟩

theorem nodup_ix {N : List Str} (hN : N.Nodup) {i j : Nat} {x : Str} (a : N[i]? = some x) (b : N[j]? = some x) : i = j := by
  obtain ⟨h1, e1⟩ := List.getElem?_eq_some_iff.mp a
  obtain ⟨h2, e2⟩ := List.getElem?_eq_some_iff.mp b
  exact (List.getElem_inj hN).mp (e1.trans e2.symm)

/-- a name is stored; what changed -/
theorem store_ok2 {M : Model} {A : Around} {E : Value → Shared → Prop} {i : Nat} {x : Str} {v : V} {u : Value} {Q : Unit → Shared → Prop} (I : Inv X pins σ H s) (hN : X.N.Nodup) (hi : X.N[i]? = some x) (hx : Loc X.env.scope x) (r : RelV v u)
    (h : ∀ s', Inv X pins (σ.set i (some v)) H s' → (∃ a, Heap.SameBut a s.heap s'.heap ∧ (a = X.env.locals ∨ X.env.cells.lookup x = some a)) → Q () s') (hf : X.fn x = true ∨ X.env.scope.names.lookup x = some .local := by first | exact .inl rfl | exact .inr rfl | assumption) : wpAny M A (storeName X.env x u) Q E s := by
  obtain ⟨m, hn, hl⟩ := id I.loc
  have hcls : (X.env.scope.kind == .class || (X.env.scope.kind == .module && X.env.locals != X.env.globals)) = false := by rw [I.ok.kind]; rfl
  have hiσ : i < σ.length := by rw [I.len]; exact (List.getElem?_eq_some_iff.mp hi).1
  have cne := I.cne
  have tracked : ∀ {a : Addr} {h' : Heap}, (∃ o, s.heap.get? a = some o ∧ H a = none) → Heap.SameBut a s.heap h' → HOk X.prog X.w H h' := fun {a h'} ha hs b ob e => by
    obtain ⟨_, _, hfree⟩ := ha
    refine (I.hok b ob e).stay (fun c w' hc q => (hs.2 c ?_).trans q) (fun _ q => q) fun _ _ q => q
    rintro rfl
    rcases hc with rfl | hc
    · rw [hfree] at e; cases e
    · rw [hfree] at hc; cases hc
  rcases hx with hk | hk
  · refine wpAny_storeName_local hk hn (fun h' hn' hs => ?_) hcls
    obtain ⟨oL, _, _, hoL, _⟩ := id hn
    refine h _ ⟨I.ok, I.os, I.bare, ⟨fun b o e n hb hx => ?_, fun b o e n hb hx => ?_, I.base.free, fun b o e hx => ?_, I.base.tups, I.base.frzs, I.base.tbls⟩, ⟨_, hn', fun j y v' e1 e2 e3 => ?_⟩, fun y c e => ?_, I.free, I.freeC, fun p hp => ?_, tracked ⟨oL, hoL, I.free⟩ hs, by simpa using I.len⟩ ⟨_, hs, .inl rfl⟩
    · exact (hs.2 b (Nat.ne_of_lt (Nat.lt_of_lt_of_le (Heap.lt_size e) I.ok.above))).trans (I.base.keep b o e n hb hx)
    · obtain ⟨sl, e1⟩ := I.base.slot b o e n hb hx
      exact ⟨sl, (hs.2 b (Nat.ne_of_lt (Nat.lt_of_lt_of_le (Heap.lt_size e) I.ok.above))).trans e1⟩
    · obtain ⟨o', e1⟩ := I.base.there b o e hx
      exact ⟨o', (hs.2 b (Nat.ne_of_lt (Nat.lt_of_lt_of_le (Heap.lt_size e) I.ok.above))).trans e1⟩
    · by_cases hj : j = i
      · subst hj
        rw [hi] at e1; cases e1
        rw [List.getElem?_set_self hiσ] at e2
        cases e2
        exact ⟨u, r, .inl ⟨hk, by simp⟩⟩
      · rw [List.getElem?_set_ne (Ne.symm hj)] at e2
        obtain ⟨u', r', q⟩ := hl j y v' e1 e2 e3
        refine ⟨u', r', ?_⟩
        rcases q with ⟨k, e⟩ | ⟨k, c, e, z⟩
        · refine .inl ⟨k, ?_⟩
          have : y ≠ x := fun e => hj (nodup_ix hN e1 (e ▸ hi))
          simp [this, e]
        · exact .inr ⟨k, c, e, z.sameBut hs (cne y c e)⟩
    · obtain ⟨w', z⟩ := I.cell y c e
      exact ⟨w', z.sameBut hs (cne y c e)⟩
    · obtain ⟨e, n, ne, nf, d⟩ := I.pin p hp
      exact ⟨(hs.2 p.1 ne).trans e, n, ne, nf, d⟩
  · have hfn : X.fn x = true := by
      rcases hf with z | z
      · exact z
      · rw [z] at hk; cases hk
    obtain ⟨c, hc⟩ := I.ok.has x (.inl hk)
    obtain ⟨w', z⟩ := I.cell x c hc
    refine wpAny_storeName_cell I.ok.kind hk hc z (fun h' hc' hs => ?_)
    obtain ⟨oc, hoc, hocd⟩ := id z
    refine h { s with heap := h' } ⟨I.ok, I.os, I.bare, ⟨fun b o e n hb hx => ?_, fun b o e n hb hx => ?_, I.base.free, fun b o e hx => ?_, I.base.tups, I.base.frzs, I.base.tbls⟩, ⟨m, hn.sameBut hs (Ne.symm (cne x c hc)), fun j y v' e1 e2 e3 => ?_⟩, fun y c' e => ?_, I.free, I.freeC, fun p hp => ?_, tracked ⟨oc, hoc, I.freeC x c hc⟩ hs, by simpa using I.len⟩ ⟨c, hs, .inr hc⟩
    · exact (hs.2 b (Nat.ne_of_lt (Nat.lt_of_lt_of_le (Heap.lt_size e) (I.ok.cab x c hfn hc)))).trans (I.base.keep b o e n hb hx)
    · obtain ⟨sl, e1⟩ := I.base.slot b o e n hb hx
      exact ⟨sl, (hs.2 b (Nat.ne_of_lt (Nat.lt_of_lt_of_le (Heap.lt_size e) (I.ok.cab x c hfn hc)))).trans e1⟩
    · obtain ⟨o', e1⟩ := I.base.there b o e hx
      exact ⟨o', (hs.2 b (Nat.ne_of_lt (Nat.lt_of_lt_of_le (Heap.lt_size e) (I.ok.cab x c hfn hc)))).trans e1⟩
    · by_cases hj : j = i
      · subst hj
        rw [hi] at e1; cases e1
        rw [List.getElem?_set_self hiσ] at e2
        cases e2
        exact ⟨u, r, .inr ⟨.inl hk, c, hc, hc'⟩⟩
      · rw [List.getElem?_set_ne (Ne.symm hj)] at e2
        obtain ⟨u', r', q⟩ := hl j y v' e1 e2 e3
        refine ⟨u', r', ?_⟩
        rcases q with q | ⟨k, c', e, z'⟩
        · exact .inl q
        · refine .inr ⟨k, c', e, z'.sameBut hs ?_⟩
          rintro rfl
          exact hj (nodup_ix hN e1 (I.ok.inj _ _ _ e hc ▸ hi))
    · by_cases hcc : c' = c
      · subst hcc; exact ⟨_, hc'⟩
      · obtain ⟨w2, z2⟩ := I.cell y c' e
        exact ⟨w2, z2.sameBut hs hcc⟩
    · obtain ⟨e, n, ne, nf, d⟩ := I.pin p hp
      refine ⟨(hs.2 p.1 ?_).trans e, n, ne, nf, d⟩
      intro q
      rw [q, hoc] at e
      have q' : oc = p.2 := Option.some.inj e
      exact d w' (by rw [← q']; exact hocd)
theorem store_ok {M : Model} {A : Around} {E : Value → Shared → Prop} {i : Nat} {x : Str} {v : V} {u : Value} {Q : Unit → Shared → Prop} (I : Inv X pins σ H s) (hN : X.N.Nodup) (hi : X.N[i]? = some x) (hx : Loc X.env.scope x) (r : RelV v u)
    (h : ∀ s', Inv X pins (σ.set i (some v)) H s' → Q () s') (hf : X.fn x = true ∨ X.env.scope.names.lookup x = some .local := by first | exact .inl rfl | exact .inr rfl | assumption) : wpAny M A (storeName X.env x u) Q E s :=
  store_ok2 I hN hi hx r (fun s' I' _ => h s' I') hf
/-- behind a call or a block, the state as it is -/
theorem Inv.call' {s' : Shared} {ch : List Addr} (I : Inv X pins σ H s) (ho : s'.os = s.os) (u : Un (frs X.stack) ch H H' s.heap s'.heap) (hok : HOk X.prog X.w H' s'.heap) (hg : AllBare s'.gens)
    (hch : ∀ b ∈ ch, (b ∈ X.ex ∨ X.s₀.heap.objs.size ≤ b) ∧ b ≠ X.env.locals ∧ (∀ x c, X.env.cells.lookup x = some c → c ≠ b) ∧ ∀ p ∈ X.pn ++ pins, p.1 ≠ b) : Inv X pins σ H' s' := by
  obtain ⟨h', g', d', t', o'⟩ := s'
  have e : o' = s.os := ho
  subst e
  exact I.call (g' := g') (t' := t') (d' := d') u hok hg hch
end

/-! ### the judgements -/
/-- an exception: its class, its own dict's address (where it has one), the abstract heap behind it -/
abbrev XK := Value → Option Addr → Hp → Prop
abbrev St := List (Option V)
abbrev VK := V → Hp → Prop
/-- an expression's reading; a test's; an argument list's -/
abbrev TE := St → Hp → VK → Prop
abbrev TT := St → Hp → (Bool → Hp → Prop) → Prop
abbrev TA := St → Hp → (List V → Hp → Prop) → Prop
/-- what is wanted behind a statement -/
structure Ends where
  nx : St → Hp → Prop
  rt : VK
  bk : St → Hp → Prop := fun _ _ => False
  ct : St → Hp → Prop := fun _ _ => False
abbrev TS := Ends → St → Hp → Prop

def EP (X : Cx) (pins : List (Addr × Obj)) (σ : St) (Q : VK) (u : Value) (s' : Shared) : Prop := ∃ v H', Inv X pins σ H' s' ∧ RelV v u ∧ Q v H'
def TP (X : Cx) (pins : List (Addr × Obj)) (σ : St) (Q : Bool → Hp → Prop) (b : Bool) (s' : Shared) : Prop := ∃ H', Inv X pins σ H' s' ∧ Q b H'
def AP (X : Cx) (pins : List (Addr × Obj)) (σ : St) (Q : List V → Hp → Prop) (us : List Value) (s' : Shared) : Prop := ∃ vs H', Inv X pins σ H' s' ∧ Vals vs us ∧ Q vs H'
def SP (X : Cx) (pins : List (Addr × Obj)) (D : Ends) (f : Flow) (s' : Shared) : Prop :=
  match f with
  | .next => ∃ σ' H', Inv X pins σ' H' s' ∧ D.nx σ' H'
  | .brk => ∃ σ' H', Inv X pins σ' H' s' ∧ D.bk σ' H'
  | .cont => ∃ σ' H', Inv X pins σ' H' s' ∧ D.ct σ' H'
  | .ret u => ∃ v σ' H', Inv X pins σ' H' s' ∧ RelV v u ∧ D.rt v H'

def PE (X : Cx) (e : Expr) (t : TE) : Prop :=
  ∀ (pins : List (Addr × Obj)) (s : Shared) (σ : St) (H : Hp) (Q : VK), Inv X pins σ H s → t σ H Q → wpAny (model X.prog X.w) X.A (eval e X.env) (EP X pins σ Q) X.xe s
def PT (X : Cx) (e : Expr) (t : TT) : Prop :=
  ∀ (pins : List (Addr × Obj)) (s : Shared) (σ : St) (H : Hp) (Q : Bool → Hp → Prop), Inv X pins σ H s → t σ H Q → wpAny (model X.prog X.w) X.A (isTrue e X.env (eval e X.env)) (TP X pins σ Q) X.xe s
/-- a test whatever its 'whole' is (and, or) -/
def PW (X : Cx) (e : Expr) (t : TT) : Prop :=
  ∀ (whole : Sem Value) (pins : List (Addr × Obj)) (s : Shared) (σ : St) (H : Hp) (Q : Bool → Hp → Prop), Inv X pins σ H s → t σ H Q → wpAny (model X.prog X.w) X.A (isTrue e X.env whole) (TP X pins σ Q) X.xe s
theorem PW.pt {X : Cx} {e : Expr} {t : TT} (h : PW X e t) : PT X e t := h _
/-- an argument list (no star), from the left -/
def PA (X : Cx) (es : List Expr) (t : TA) : Prop :=
  ∀ (pos : Pos) (pins : List (Addr × Obj)) (s : Shared) (σ : St) (H : Hp) (Q : List V → Hp → Prop), Inv X pins σ H s → t σ H Q → wpAny (model X.prog X.w) X.A (spliced (backTo pos (starEach es X.env))) (AP X pins σ Q) X.xe s
def PS (X : Cx) (st : Stmt) (t : TS) : Prop :=
  ∀ (pins : List (Addr × Obj)) (s : Shared) (σ : St) (H : Hp) (D : Ends), Inv X pins σ H s → t D σ H → wpAny (model X.prog X.w) X.A (exec st X.env) (SP X pins D) X.xe s
def PSs (X : Cx) (st : List Stmt) (t : TS) : Prop :=
  ∀ (pins : List (Addr × Obj)) (s : Shared) (σ : St) (H : Hp) (D : Ends), Inv X pins σ H s → t D σ H → wpAny (model X.prog X.w) X.A (execs st X.env) (SP X pins D) X.xe s
/-- weaken the end -/
theorem thn {α : Type} {t : Sem α} {Q Q' : α → Shared → Prop} {M : Model} {A : Around} {E : Value → Shared → Prop} {s : Shared} (h : wpAny M A t Q E s) (hQ : ∀ a s, Q a s → Q' a s) : wpAny M A t Q' E s := wpAny_mono h hQ fun _ _ x => x
end L2

namespace L2
open PySem PySem.Spec PyProof.Rows
section
variable {X : Cx}

/-! ### names and constants -/
def tVar (i : Nat) : TE := fun σ H Q => ∃ v, σ[i]? = some (some v) ∧ Q v H
def tC (v : V) : TE := fun _ H Q => Q v H
theorem pe_var {i : Nat} {x : Str} {pos : Pos} (hN : X.N[i]? = some x) (hv : Vis X.env.scope x) (hd : (x == ("__debug__" : Str)) = false := by decide) (hcd : (x == ("__classdict__" : Str)) = false := by decide) : PE X (.Name x pos) (tVar i) := by
  intro pins s σ H Q I h
  obtain ⟨v, e, h⟩ := h
  obtain ⟨m, hn, hl⟩ := I.loc
  obtain ⟨u, r, l⟩ := hl i x v hN e hv
  have fin : EP X pins σ Q u s := ⟨v, H, I, r, h⟩
  rcases l with ⟨hk, hm⟩ | ⟨hk, c, hc, hcell⟩
  · exact wpAny_Name (wpAny_loadName_local I.ok.kind hk hn hm fin) hd
  · rcases hk with hk | hk
    · exact wpAny_Name (wpAny_loadName_cell I.ok.kind hk hc hcell fin) hd
    · exact wpAny_Name (wpAny_loadName_free I.ok.kind hk hc hcell fin hcd) hd
theorem pe_int {i j pos} : PE X (.Constant (.int i) j pos) (tC (.int i)) := fun _ _ _ H _ I h => wpAny_Constant_int ⟨.int i, H, I.tok _, ⟨_, rfl⟩, h⟩
theorem pe_bl {b j pos} : PE X (.Constant (.bool b) j pos) (tC (.bl b)) := fun _ _ _ H _ I h => Constant_bool ⟨.bl b, H, I, rfl, h⟩
/-- a global name of the def -/
def Gl (X : Cx) (x : Str) : Prop := X.env.kindOf x = some .globalImplicit
theorem ld_glob {E : Value → Shared → Prop} {pins : List (Addr × Obj)} {s : Shared} {σ : St} {H : Hp} {x : Str} {u : Value} {pos : Pos} {Q : Value → Shared → Prop} (I : Inv X pins σ H s) (hg : Gl X x) (hm : X.mg x = some u) (h : Q u s)
    (hd : (x == ("__debug__" : Str)) = false := by decide) : wpAny (model X.prog X.w) X.A (eval (.Name x pos) X.env) Q E s :=
  Calls.Name_function_global I.ok.kind hg (Calls.loadGlobal_global (by rw [I.ok.glob]; exact I.mod.glob.keeps I.bk) hm h) hd
theorem ld_blt {E : Value → Shared → Prop} {pins : List (Addr × Obj)} {s : Shared} {σ : St} {H : Hp} {x : Str} {u : Value} {pos : Pos} {Q : Value → Shared → Prop} (I : Inv X pins σ H s) (hg : Gl X x) (hm : X.mg x = none) (hv : bootBuiltins x = some u) (h : Q u s)
    (hn : x ≠ "__name__" := by decide) (hd : (x == ("__debug__" : Str)) = false := by decide) : wpAny (model X.prog X.w) X.A (eval (.Name x pos) X.env) Q E s := by
  obtain ⟨mb, h1, h2⟩ := I.mod.blt
  exact Calls.Name_function_global I.ok.kind hg (Calls.loadGlobal_builtin (by rw [I.ok.glob]; exact I.mod.glob.keeps I.bk) hm (by rw [I.ok.blt]; exact h1.keeps I.bk) ((h2 x hn).trans hv) h) hd
/-- a module's constant, a class, a function, as a value -/
theorem pe_glob {x : Str} {v : V} {u : Value} {pos : Pos} (hg : Gl X x) (hm : X.mg x = some u) (r : RelV v u) (hd : (x == ("__debug__" : Str)) = false := by decide) : PE X (.Name x pos) (tC v) :=
  fun _ _ _ H _ I h => ld_glob I hg hm ⟨v, H, I, r, h⟩ hd
theorem pe_bltn {x : Str} {v : V} {u : Value} {pos : Pos} (hg : Gl X x) (hm : X.mg x = none) (hv : bootBuiltins x = some u) (r : RelV v u) (hn : x ≠ "__name__" := by decide) (hd : (x == ("__debug__" : Str)) = false := by decide) : PE X (.Name x pos) (tC v) :=
  fun _ _ _ H _ I h => ld_blt I hg hm hv ⟨v, H, I, r, h⟩ hn hd

/-! ### arithmetic -/
/-- two ints -/
def t2I (ta tb : TE) (k : Int → Int → Hp → Prop) : St → Hp → Prop := fun σ H => ta σ H fun x H1 => tb σ H1 fun y H2 => ∃ i j, x = .int i ∧ y = .int j ∧ k i j H2
def tAdd (ta tb : TE) : TE := fun σ H Q => t2I ta tb (fun i j H2 => Q (.int (i + j)) H2) σ H
def tSub (ta tb : TE) : TE := fun σ H Q => t2I ta tb (fun i j H2 => Q (.int (i - j)) H2) σ H
/-- the left factor below 2^64 -/
def tMul (ta tb : TE) : TE := fun σ H Q => t2I ta tb (fun i j H2 => (-(2 ^ 64) < i ∧ i < 2 ^ 64) ∧ Q (.int (i * j)) H2) σ H
variable {a b : Expr} {ta tb : TE} {pos : Pos}
/-! ### comparisons -/
def PC (X : Cx) (op : CmpOp) (a b : Expr) (t : TE) : Prop :=
  ∀ (pins : List (Addr × Obj)) (s : Shared) (σ : St) (H : Hp) (Q : VK), Inv X pins σ H s → t σ H Q →
    wpAny (model X.prog X.w) X.A (eval a X.env) (fun v s₁ => wpAny (model X.prog X.w) X.A (eval b X.env) (fun u s₂ => wpAny (model X.prog X.w) X.A (compareOp op v u) (EP X pins σ Q) X.xe s₂) X.xe s₁) X.xe s
def tCmp (p : Int → Int → Bool) (ta tb : TE) : TE := fun σ H Q => t2I ta tb (fun i j H2 => Q (.bl (p i j)) H2) σ H
abbrev tLt : TE → TE → TE := tCmp fun i j => decide (i < j)
abbrev tLe : TE → TE → TE := tCmp fun i j => decide (i ≤ j)
abbrev tGt : TE → TE → TE := tCmp fun i j => decide (j < i)
abbrev tGe : TE → TE → TE := tCmp fun i j => decide (j ≤ i)
abbrev tEqI : TE → TE → TE := tCmp fun i j => decide (i = j)
abbrev tNeI : TE → TE → TE := tCmp fun i j => !decide (i = j)
/-- is None -/
def tIsN (ta : TE) : TE := fun σ H Q => ta σ H fun x H1 => Q (.bl (decide (x = .non))) H1
def tNotN (ta : TE) : TE := fun σ H Q => ta σ H fun x H1 => Q (.bl (!decide (x = .non))) H1
/-- a comparison as a value, as a test -/
def tB (t : TE) : TT := fun σ H Q => t σ H fun x H1 => ∃ c, x = .bl c ∧ Q c H1
/-- an expression whose value is a bool, as a test -/
theorem pt_val {e : Expr} {t : TE} (h : PE X e t) (he : ∀ whole, isTrue e X.env whole = (do let v ← whole; standAt e.pos; holding [v] (truthy v)) := by intro _; rfl) : PT X e (tB t) := by
  intro pins s σ H Q I hw
  refine isTrue_plain (thn (h pins s σ H _ I hw) fun v s1 ⟨x, H1, I1, r1, q1⟩ => ?_) (he _)
  obtain ⟨d, rfl, q⟩ := q1
  cases r1
  exact wpAny_truthy_bool ⟨H1, I1, q⟩

/-! ### and, or, not -/
variable {tA tB' : TT} {rest : List Expr}
def tAnd (t u : TT) : TT := fun σ H Q => t σ H fun c H1 => if c = true then u σ H1 Q else Q false H1
def tOr (t u : TT) : TT := fun σ H Q => t σ H fun c H1 => if c = true then Q true H1 else u σ H1 Q
def tNot (t : TT) : TT := fun σ H Q => t σ H fun c H1 => Q (!c) H1
theorem pw_and1 (ha : PT X a tA) : PW X (.BoolOp .And [a] pos) tA := by
  intro wh pins s σ H Q I h
  refine isTrue_and (thn (ha pins s σ H Q I h) fun c s1 e => ?_)
  cases c with
  | true => exact isTrue_and_nil e
  | false => exact e
theorem pw_or1 (ha : PT X a tA) : PW X (.BoolOp .Or [a] pos) tA := by
  intro wh pins s σ H Q I h
  refine isTrue_or (thn (ha pins s σ H Q I h) fun c s1 e => ?_)
  cases c with
  | false => exact isTrue_or_nil e
  | true => exact e
theorem pw_and (ha : PT X a tA) (hb : PW X (.BoolOp .And (b :: rest) pos) tB') : PW X (.BoolOp .And (a :: b :: rest) pos) (tAnd tA tB') := by
  intro wh pins s σ H Q I h
  refine isTrue_and (thn (ha pins s σ H _ I h) fun c s1 ⟨H1, I1, q1⟩ => ?_)
  cases c with
  | true => exact hb wh pins s1 σ H1 Q I1 q1
  | false => exact ⟨H1, I1, q1⟩
theorem pw_or (ha : PT X a tA) (hb : PW X (.BoolOp .Or (b :: rest) pos) tB') : PW X (.BoolOp .Or (a :: b :: rest) pos) (tOr tA tB') := by
  intro wh pins s σ H Q I h
  refine isTrue_or (thn (ha pins s σ H _ I h) fun c s1 ⟨H1, I1, q1⟩ => ?_)
  cases c with
  | true => exact ⟨H1, I1, q1⟩
  | false => exact hb wh pins s1 σ H1 Q I1 q1
theorem pt_not (ha : PT X a tA) : PT X (.UnaryOp .Not a pos) (tNot tA) := by
  intro pins s σ H Q I h
  exact isTrue_not (ha pins s σ H (fun c H1 => Q (!c) H1) I h)
/-- .. as values (bools) -/
def tAndV (ta tb : TE) : TE := fun σ H Q => ta σ H fun x H1 => ∃ c, x = .bl c ∧ if c = true then tb σ H1 Q else Q (.bl false) H1
def tOrV (ta tb : TE) : TE := fun σ H Q => ta σ H fun x H1 => ∃ c, x = .bl c ∧ if c = true then Q (.bl true) H1 else tb σ H1 Q
def tNotV (ta : TE) : TE := fun σ H Q => ta σ H fun x H1 => ∃ c, x = .bl c ∧ Q (.bl (!c)) H1
theorem pe_one {op} {t : TE} (h : PE X a t) : PE X (.BoolOp op [a] pos) t := fun pins s σ H Q I hw => BoolOp_one (h pins s σ H Q I hw)
theorem pe_and (ha : PE X a ta) (hb : PE X (.BoolOp .And (b :: rest) pos) tb) : PE X (.BoolOp .And (a :: b :: rest) pos) (tAndV ta tb) := by
  intro pins s σ H Q I h
  refine BoolOp_and (thn (ha pins s σ H _ I h) fun v s1 ⟨x, H1, I1, r1, q1⟩ => ?_)
  obtain ⟨c, rfl, q1⟩ := q1
  cases r1
  refine wpAny_truthy_bool ?_
  cases c with
  | true => exact hb pins s1 σ H1 Q I1 q1
  | false => exact ⟨.bl false, H1, I1, rfl, q1⟩
theorem pe_not (ha : PE X a ta) : PE X (.UnaryOp .Not a pos) (tNotV ta) := by
  intro pins s σ H Q I h
  refine UnaryOp_ (thn (ha pins s σ H _ I h) fun v s1 ⟨x, H1, I1, r1, q1⟩ => ?_)
  obtain ⟨c, rfl, q1⟩ := q1
  cases r1
  exact not_of (wpAny_truthy_bool ⟨.bl (!c), H1, I1, rfl, q1⟩)
/-- a if t else b -/
def tIf (t : TT) (ta tb : TE) : TE := fun σ H Q => t σ H fun c H1 => if c = true then ta σ H1 Q else tb σ H1 Q
end
end L2

namespace L2
open PySem PySem.Spec PyProof.Rows

/-! ### a list, a tuple that is read: tracked, frozen, or an object of the module -/
def SqL (K : PySem.W.Frag) (H : Hp) (a : Addr) (xs : List V) : Prop :=
  Rd H a (.lst xs) ∨
    ∃ (o : Obj) (its : Array Value) (n : Nat), K.lookup a = some o ∧ o.cls = .type "list" ∧ o.dict = none ∧ o.data = .seq its n ∧ its.size ≤ sizeLine ∧ Vals xs its.toList
def SqT (K : PySem.W.Frag) (H : Hp) (a : Addr) (xs : List V) : Prop :=
  Rd H a (.tup xs) ∨
    ∃ (o : Obj) (its : Array Value) (n : Nat), K.lookup a = some o ∧ o.cls = .type "tuple" ∧ o.data = .seq its n ∧ its.size ≤ sizeLine ∧ Vals xs its.toList
def absV : Value → Option V
  | .none => some .non
  | .bool b => some (.bl b)
  | .int i _ => some (.int i)
  | .str x _ => some (.str x)
  | .bytes b _ => some (.byt b)
  | .float b _ => some (.flt b)
  | .ref a => some (.ref a)
  | .type n => some (.ty n)
  | _ => none
theorem RelV.abs {x : V} {u : Value} (r : RelV x u) : absV u = some x := by
  cases x with
  | non => cases r; rfl
  | bl _ => cases r; rfl
  | int _ => obtain ⟨t, rfl⟩ := r; rfl
  | str _ => obtain ⟨t, rfl⟩ := r; rfl
  | byt _ => obtain ⟨t, rfl⟩ := r; rfl
  | flt _ => obtain ⟨t, rfl⟩ := r; rfl
  | ref _ => cases r; rfl
  | ty _ => cases r; rfl
theorem RelV.inj {x y : V} {u : Value} (r : RelV x u) (q : RelV y u) : x = y := Option.some.inj (r.abs.symm.trans q.abs)
theorem Vals.inj : ∀ {xs ys : List V} {us : List Value}, Vals xs us → Vals ys us → xs = ys
  | _, _, _, .nil, .nil => rfl
  | _, _, _, .cons r t, .cons r' t' => by rw [r.inj r', Vals.inj t t']
section
variable {X : Cx} {pins : List (Addr × Obj)} {σ : St} {H : Hp} {s : Shared} {a : Addr} {xs ys : List V}
theorem SqL.of {K : PySem.W.Frag} (h : H a = some (.lst xs)) : SqL K H a xs := .inl (.inl h)
theorem SqT.of {K : PySem.W.Frag} (h : H a = some (.tup xs)) : SqT K H a xs := .inl (.inl h)
theorem Inv.list (I : Inv X pins σ H s) (h : SqL X.K H a xs) : ∃ its : List Value, Vals xs its ∧ PlainL s.heap a its.toArray ∧ xs.length ≤ sizeLine := by
  rcases h with h | ⟨o, its, n, hk, hc, hd, hs, hz, r⟩
  · obtain ⟨z, its, n, r, e⟩ := h.ok I.hok
    exact ⟨its, r, ⟨_, n, e, rfl, rfl, rfl⟩, z⟩
  · refine ⟨its.toList, r, ⟨o, n, I.kIn a o hk, hc, hd, by simpa using hs⟩, ?_⟩
    have e := r.length
    simp only [Array.length_toList] at e
    omega
theorem Inv.tuple (I : Inv X pins σ H s) (h : SqT X.K H a xs) : ∃ its : List Value, Vals xs its ∧ IsTup s.heap a its.toArray ∧ xs.length ≤ sizeLine := by
  rcases h with h | ⟨o, its, n, hk, hc, hs, hz, r⟩
  · obtain ⟨z, its, r, p⟩ := h.ok I.hok
    exact ⟨its, r, p, z⟩
  · refine ⟨its.toList, r, ⟨o, I.kIn a o hk, hc, n, by simpa using hs⟩, ?_⟩
    have e := r.length
    simp only [Array.length_toList] at e
    omega
theorem Inv.list_inj (I : Inv X pins σ H s) (h : SqL X.K H a xs) (h' : SqL X.K H a ys) : xs = ys := by
  obtain ⟨its, r, ⟨o, n, e, _, _, d⟩, _⟩ := I.list h
  obtain ⟨its', r', ⟨o', n', e', _, _, d'⟩, _⟩ := I.list h'
  rw [e] at e'; cases e'
  rw [d] at d'
  injection d' with d1 _
  have : its = its' := by simpa using congrArg Array.toList d1
  subst this
  exact r.inj r'
theorem Inv.tuple_inj (I : Inv X pins σ H s) (h : SqT X.K H a xs) (h' : SqT X.K H a ys) : xs = ys := by
  obtain ⟨its, r, ⟨o, e, _, n, d⟩, _⟩ := I.tuple h
  obtain ⟨its', r', ⟨o', e', _, n', d'⟩, _⟩ := I.tuple h'
  rw [e] at e'; cases e'
  rw [d] at d'
  injection d' with d1 _
  have : its = its' := by simpa using congrArg Array.toList d1
  subst this
  exact r.inj r'
end

/-! ### another wish about exceptions -/
abbrev Cx.wish (X : Cx) (E : Value → Shared → Prop) : Cx := { X with xe := E }
/-- no exception leaves -/
abbrev Cx.nox (X : Cx) : Cx := X.wish fun _ _ => False
theorem Cx.Ok.wish {X : Cx} (ok : X.Ok) (E : Value → Shared → Prop) : (X.wish E).Ok :=
  ⟨ok.mod, ok.kind, ok.glob, ok.blt, ok.above, ok.inj, ok.has, ok.cab, ok.hd, ok.frames, ok.stk, ok.exf, ok.bs, ok.bsz, ok.noex, ok.exfs, ok.funs, ok.frf⟩
theorem Cx.Ok.unwish {X : Cx} {E : Value → Shared → Prop} (ok : (X.wish E).Ok) : X.Ok :=
  ⟨ok.mod, ok.kind, ok.glob, ok.blt, ok.above, ok.inj, ok.has, ok.cab, ok.hd, ok.frames, ok.stk, ok.exf, ok.bs, ok.bsz, ok.noex, ok.exfs, ok.funs, ok.frf⟩
section
variable {X : Cx} {pins : List (Addr × Obj)} {σ : St} {H : Hp} {s : Shared} {E : Value → Shared → Prop}
theorem Inv.wish (I : Inv X pins σ H s) (E : Value → Shared → Prop) : Inv (X.wish E) pins σ H s := ⟨I.ok.wish E, I.os, I.bare, I.base, I.loc, I.cell, I.free, I.freeC, I.pin, I.hok, I.len⟩
theorem Inv.unwish (I : Inv (X.wish E) pins σ H s) : Inv X pins σ H s := ⟨I.ok.unwish, I.os, I.bare, I.base, I.loc, I.cell, I.free, I.freeC, I.pin, I.hok, I.len⟩
theorem SP.unwish {D : Ends} {f : Flow} {s' : Shared} (h : SP (X.wish E) pins D f s') : SP X pins D f s' := by
  cases f with
  | next => obtain ⟨σ', H', I, q⟩ := h; exact ⟨σ', H', I.unwish, q⟩
  | brk => obtain ⟨σ', H', I, q⟩ := h; exact ⟨σ', H', I.unwish, q⟩
  | cont => obtain ⟨σ', H', I, q⟩ := h; exact ⟨σ', H', I.unwish, q⟩
  | ret u => obtain ⟨v, σ', H', I, r, q⟩ := h; exact ⟨v, σ', H', I.unwish, r, q⟩
theorem PSs.nox {st : List Stmt} {t : TS} (h : PSs X.nox st t) : PSs X st t := fun pins s σ H D I hw =>
  wpAny_mono (h pins s σ H D (I.wish _) hw) (fun _ _ q => q.unwish) fun _ _ z => False.elim z
end

/-! ### blocks and small statements -/
section
variable {X : Cx} {st : Stmt} {rest : List Stmt} {t u : TS} {e : Expr} {te : TE} {pos : Pos}
def tNext : TS := fun D σ H => D.nx σ H
def tSeq (t u : TS) : TS := fun D σ H => t { D with nx := u D } σ H
theorem pss_nil : PSs X [] tNext := fun _ _ σ H _ I h => wpAny_execs_nil ⟨σ, H, I, h⟩
theorem pss_cons (h1 : PS X st t) (h2 : PSs X rest u) : PSs X (st :: rest) (tSeq t u) := by
  intro pins s σ H D I h
  refine wpAny_execs_cons (thn (h1 pins s σ H { D with nx := u D } I h) fun f s1 q => ?_)
  cases f with
  | next =>
    obtain ⟨σ', H', I', q⟩ := q
    exact h2 pins s1 σ' H' D I' q
  | ret v => exact q
  | brk => exact q
  | cont => exact q
theorem pss_one (h1 : PS X st t) : PSs X [st] t := by
  intro pins s σ H D I h
  refine wpAny_execs_cons (thn (h1 pins s σ H D I h) fun f s1 q => ?_)
  cases f with
  | next => exact wpAny_execs_nil q
  | ret v => exact q
  | brk => exact q
  | cont => exact q
def tBreak : TS := fun D σ H => D.bk σ H
def tCont : TS := fun D σ H => D.ct σ H
/-- in a def's body nothing is shown -/
theorem Inv.quiet {pins : List (Addr × Obj)} {σ : St} {H : Hp} {s : Shared} (I : Inv X pins σ H s) : interactive X.env = false := by simp [interactive, I.ok.kind]
/-- an expression whose value is dropped -/
def tDrop (te : TE) : TS := fun D σ H => te σ H fun _ H1 => D.nx σ H1
theorem ps_expr (he : PE X e te) (hs : swapsWith e none pos.line X.env = pure false := by rfl) : PS X (.Expr e pos) (tDrop te) := by
  intro pins s σ H D I h
  exact wpAny_Expr_any (thn (he pins s σ H _ I h) fun v s1 ⟨x, H1, I1, r1, q1⟩ => ⟨σ, H1, I1, q1⟩) I.quiet hs
def tRet (te : TE) : TS := fun D σ H => te σ H D.rt
theorem ps_ret (he : PE X e te) : PS X (.Return (some e) pos) (tRet te) := by
  intro pins s σ H D I h
  exact wpAny_Return_some (thn (he pins s σ H _ I h) fun v s1 ⟨x, H1, I1, r1, q1⟩ => ⟨x, σ, H1, I1, r1, q1⟩)
def tRetN : TS := fun D _ H => D.rt .non H
def tIfS (c : TT) (t u : TS) : TS := fun D σ H => c σ H fun b H1 => if b = true then t D σ H1 else u D σ H1
theorem ps_if {c : Expr} {a b : List Stmt} {tc : TT} (hc : PT X c tc) (ha : PSs X a t) (hb : PSs X b u) : PS X (.If c a b pos) (tIfS tc t u) := by
  intro pins s σ H D I h
  refine wpAny_If (thn (hc pins s σ H _ I h) fun d s1 ⟨H1, I1, q1⟩ => ?_)
  cases d with
  | true => exact ha pins s1 σ H1 D I1 q1
  | false => exact hb pins s1 σ H1 D I1 q1
/-- code that the proof never comes to -/
def tNever : TS := fun _ _ _ => False
theorem ps_never : PS X st tNever := fun _ _ _ _ _ _ h => h.elim
end

/-! ### targets -/
abbrev TG := V → St → Hp → (St → Hp → Prop) → Prop
abbrev TGs := List V → St → Hp → (St → Hp → Prop) → Prop
def PG (X : Cx) (target : Expr) (t : TG) : Prop :=
  ∀ (pins : List (Addr × Obj)) (s : Shared) (σ : St) (H : Hp) (v : V) (u : Value) (Q : St → Hp → Prop), Inv X pins σ H s → RelV v u → t v σ H Q →
    wpAny (model X.prog X.w) X.A (assign target X.env u) (fun _ s' => ∃ σ' H', Inv X pins σ' H' s' ∧ Q σ' H') X.xe s
/-- several targets, one after another -/
def PGs (X : Cx) (ts : List Expr) (t : TGs) : Prop :=
  ∀ (pins : List (Addr × Obj)) (s : Shared) (σ : St) (H : Hp) (vs : List V) (us : List Value) (Q : St → Hp → Prop), Inv X pins σ H s → Vals vs us → t vs σ H Q →
    wpAny (model X.prog X.w) X.A (assignInOrder ((assignEach ts X.env).map (·.2)) us) (fun _ s' => ∃ σ' H', Inv X pins σ' H' s' ∧ Q σ' H') X.xe s
/-- o[i] = v, by values -/
abbrev TSet := V → V → V → Hp → (Hp → Prop) → Prop
def PSet (X : Cx) (t : TSet) : Prop :=
  ∀ (pins : List (Addr × Obj)) (s : Shared) (σ : St) (H : Hp) (o i v : V) (ov iv u : Value) (Q : Hp → Prop), Inv X pins σ H s → RelV o ov → RelV i iv → RelV v u → t o i v H Q →
    wpAny (model X.prog X.w) X.A (setItem ov iv u) (fun _ s' => ∃ H', Inv X pins σ H' s' ∧ Q H') X.xe s
/-- a op= b, by values -/
abbrev TIp := V → V → Hp → VK → Prop
def PIp (X : Cx) (op : Operator) (t : TIp) : Prop :=
  ∀ (pins : List (Addr × Obj)) (s : Shared) (σ : St) (H : Hp) (x y : V) (v u : Value) (Q : VK), Inv X pins σ H s → RelV x v → RelV y u → t x y H Q →
    wpAny (model X.prog X.w) X.A (inplaceOp op v u) (EP X pins σ Q) X.xe s
section
variable {X : Cx} {pos : Pos}
def gName (i : Nat) : TG := fun v σ H Q => Q (σ.set i (some v)) H
theorem pg_name {i : Nat} {x : Str} (hN : X.N.Nodup) (hi : X.N[i]? = some x) (hx : Loc X.env.scope x) (hf : X.fn x = true ∨ X.env.scope.names.lookup x = some .local := by first | exact .inl rfl | exact .inr rfl | assumption) : PG X (.Name x pos) (gName i) := by
  intro pins s σ H v u Q I r h
  exact wpAny_assign_Name (store_ok I hN hi hx r (fun s' I' => ⟨_, H, I', h⟩) hf)
def gNil : TGs := fun vs σ H Q => vs = [] ∧ Q σ H
def gCons (t : TG) (u : TGs) : TGs := fun vs σ H Q => ∃ v r, vs = v :: r ∧ t v σ H fun σ' H' => u r σ' H' Q
theorem pgs_nil : PGs X [] gNil := by
  intro pins s σ H vs us Q I r h
  obtain ⟨e, h⟩ := h
  subst e
  cases r
  exact assignInOrder_nil ⟨σ, H, I, h⟩
theorem pgs_cons {e : Expr} {es : List Expr} {t : TG} {u : TGs} (h1 : PG X e t) (h2 : PGs X es u)
    (hs : (assignEach (e :: es) X.env).map (·.2) = assign e X.env :: (assignEach es X.env).map (·.2) := by rfl) : PGs X (e :: es) (gCons t u) := by
  intro pins s σ H vs us Q I r h
  obtain ⟨v, vr, e1, h⟩ := h
  subst e1
  cases r with
  | cons r rr =>
    rw [hs]
    refine assignInOrder_cons (thn (h1 pins s σ H _ _ _ I r h) fun _ s1 ⟨σ1, H1, I1, q1⟩ => ?_)
    exact h2 pins s1 σ1 H1 _ _ Q I1 rr q1
/-- (a, b, ..) = a tuple of that length -/
def gTup (K : PySem.W.Frag) (n : Nat) (t : TGs) : TG := fun v σ H Q => ∃ a xs, v = .ref a ∧ SqT K H a xs ∧ xs.length = n ∧ t xs σ H Q
theorem pg_tup {es : List Expr} {k : Nat} {t : TGs} {n : Nat} (hc : X.calm = true) (h : PGs X es t)
    (hn : (assignEach es X.env).length = n := by rfl) (hst : (assignEach es X.env).findIdx? (·.1) = none := by rfl) : PG X (.Tuple es k pos) (gTup X.K n t) := by
  intro pins s σ H v u Q I r hw
  obtain ⟨a, xs, e1, hq, hl, hw⟩ := hw
  subst e1
  cases r
  obtain ⟨its, rv, ht, hz⟩ := I.tuple hq
  refine assign_Tuple_tuple (I.ok.hd hc) ht (by simp [hn, ← hl, rv.length]) hst fun h' hx => ?_
  have I1 : Inv X pins σ H { s with heap := h' } := I.kept (t' := s.toks) fun b o e => hx b o (Nat.ne_of_lt (Heap.lt_size e)) e
  exact h pins _ σ H xs _ Q I1 (by simpa using rv) hw
/-- o[i] = .. -/
def gSub (to ti : TE) (t : TSet) : TG := fun v σ H Q => to σ H fun o H1 => ti σ H1 fun i H2 => t o i v H2 fun H3 => Q σ H3
theorem pg_sub {o i : Expr} {to ti : TE} {t : TSet} (ho : PE X o to) (hi : PE X i ti) (hs : PSet X t)
    (ha : ∀ v, assign (.Subscript o i pos) X.env v = (do
      let ov ← holding [v] (eval o X.env)
      let iv ← holding [v, ov] (eval i X.env)
      standAt pos
      holding [v, ov, iv] (setItem ov iv v)
      release [v, ov, iv] []) := by intro _; rfl) : PG X (.Subscript o i pos) (gSub to ti t) := by
  intro pins s σ H v u Q I r h
  rw [ha]
  refine wpAny_bind (wpAny_holding (thn (ho pins s σ H _ I h) fun ov s1 ⟨x, H1, I1, r1, q1⟩ => ?_))
  refine wpAny_bind (wpAny_holding (thn (hi pins s1 σ H1 _ I1 q1) fun iv s2 ⟨y, H2, I2, r2, q2⟩ => ?_))
  refine wpAny_bind (wpAny_standAt (wpAny_bind (wpAny_holding (thn (hs pins s2 σ H2 x y v ov iv u _ I2 r1 r2 r q2) fun _ s3 ⟨H3, I3, q3⟩ => ?_))))
  exact wpAny_release ⟨σ, H3, I3, q3⟩
/-- target = value -/
def tAsg (te : TE) (g : TG) : TS := fun D σ H => te σ H fun x H1 => g x σ H1 D.nx
theorem ps_asg {tg e : Expr} {te : TE} {g : TG} (he : PE X e te) (hg : PG X tg g) (hs : swapsWithSole [tg] e pos.line X.env = pure false := by rfl) (hw : swappedStores [tg] e X.env = pure none := by rfl)
    (h1 : (assignEach [tg] X.env).map (·.2) = [assign tg X.env] := by rfl) : PS X (.Assign [tg] e pos) (tAsg te g) := by
  intro pins s σ H D I h
  refine wpAny_Assign_stores (thn (he pins s σ H _ I h) fun v s1 ⟨x, H1, I1, r1, q1⟩ => ?_) hs hw
  rw [h1]
  exact thn (hg pins s1 σ H1 x v _ I1 r1 q1) fun _ s2 q => q
/-- name = value -/
theorem ps_set {i : Nat} {x : Str} {e : Expr} {te : TE} {pos' : Pos} (hN : X.N.Nodup) (hi : X.N[i]? = some x) (hx : Loc X.env.scope x) (he : PE X e te) (hs : swapsWith e (some (.Name x pos')) pos.line X.env = pure false := by rfl) (hf : X.fn x = true ∨ X.env.scope.names.lookup x = some .local := by first | exact .inl rfl | exact .inr rfl | assumption) :
    PS X (.Assign [.Name x pos'] e pos) (tAsg te (gName i)) := by
  intro pins s σ H D I h
  refine wpAny_Assign_Name (thn (he pins s σ H _ I h) fun v s1 ⟨y, H1, I1, r1, q1⟩ => ?_) hs
  exact store_ok I1 hN hi hx r1 (fun s2 I2 => ⟨_, H1, I2, q1⟩) hf
/-- a, b = x, y with plain local names: stored from the right; the pair itself is not tracked (the opening rows as in PyProof/Rows/TupAssign.lean:23) -/
def tPar (i j : Nat) (ta : TA) : TS := fun D σ H => ta σ H fun vs H1 => ∃ v w, vs = [v, w] ∧ D.nx ((σ.set i (some v)).set j (some w)) H1
theorem ps_par {i j : Nat} {x y : Str} {a b : Expr} {ta : TA} {px py pt : Pos} {kt k2 pt2} (hc : X.calm = true) (hN : X.N.Nodup) (hi : X.N[i]? = some x) (hj : X.N[j]? = some y) (hij : i ≠ j)
    (hx : X.env.scope.names.lookup x = some .local) (hy : X.env.scope.names.lookup y = some .local) (ha : PA X [a, b] ta)
    (hw : swappedStores [.Tuple [.Name x px, .Name y py] kt pt] (.Tuple [a, b] k2 pt2) X.env = pure (some [x, y]))
    (hs : swapsWithSole [.Tuple [.Name x px, .Name y py] kt pt] (.Tuple [a, b] k2 pt2) pos.line X.env = pure false := by rfl) :
    PS X (.Assign [.Tuple [.Name x px, .Name y py] kt pt] (.Tuple [a, b] k2 pt2) pos) (tPar i j ta) := by
  intro pins s σ H D I h
  rw [exec_Assign_arm]
  refine wpAny_bind (wpAny_standAt ?_)
  rw [hs]
  refine wpAny_bind (wpAny_pure ?_)
  rw [if_neg (by decide)]
  refine wpAny_bind (Tuple_ (thn (ha _ pins s σ H _ I h) fun us s1 ⟨vs, H1, I1, r1, q1⟩ => ?_))
  obtain ⟨v, w, e1, q1⟩ := q1
  subst e1
  obtain ⟨u1, u2, rfl, rv, rw'⟩ : ∃ u1 u2, us = [u1, u2] ∧ RelV v u1 ∧ RelV w u2 := by
    cases r1 with
    | cons p q =>
      cases q with
      | cons p' q' =>
        cases q'
        exact ⟨_, _, rfl, p, p'⟩
  refine wpAny_newObj_type ?_ (by show 2 ≤ sizeLine; decide)
  have I2 : Inv X pins σ H1 { s1 with heap := s1.heap.push { cls := .type "tuple", data := .seq [u1, u2].toArray } } := I1.kept (t' := s1.toks) fun b o e => Heap.get?_push_of_some _ e
  rw [hw]
  refine wpAny_bind (wpAny_pure ?_)
  show wpAny (model X.prog X.w) X.A (do rule "assign.swapped-stores"; let items ← unpackItems (.ref s1.heap.objs.size) 2 none; assignInOrder [fun v => bindName X.env y v, fun v => bindName X.env x v] items.reverse; pure Flow.next) _ _ _
  refine wpAny_bind (wpAny_rule (wpAny_bind (unpackItems_tuple (items := #[u1, u2]) (I.ok.hd hc) (IsTup.new s1.heap _) fun h' hx' => ?_)))
  have I3 := I2.kept (h' := h') (t' := s1.toks) fun b o e => hx' b o (Nat.ne_of_lt (Heap.lt_size e)) e
  show wpAny _ _ (assignInOrder [fun v => bindName X.env y v, fun v => bindName X.env x v] [u2, u1] >>= fun _ => pure Flow.next) _ _ _
  refine wpAny_bind (assignInOrder_cons (wpAny_bindName (store_ok I3 hN hj (.inl hy) rw' (fun s2 I4 => ?_) (.inr hy))))
  refine assignInOrder_cons (wpAny_bindName (store_ok I4 hN hi (.inl hx) rv (fun s3 I5 => assignInOrder_nil (wpAny_pure ?_)) (.inr hx)))
  rw [List.set_comm _ _ (Ne.symm hij)] at I5
  exact ⟨_, H1, I5, q1⟩
/-- name op= e -/
def tAug (i : Nat) (te : TE) (ti : TIp) : TS := fun D σ H => ∃ x, σ[i]? = some (some x) ∧ te σ H fun y H1 => ti x y H1 fun z H2 => D.nx (σ.set i (some z)) H2
/-- o[i] op= e -/
def tAugS (to ti te : TE) (tget : V → V → Hp → VK → Prop) (tip : TIp) (tset : TSet) : TS := fun D σ H => to σ H fun o H1 => ti σ H1 fun i H2 => tget o i H2 fun x H3 => te σ H3 fun y H4 => tip x y H4 fun z H5 => tset o i z H5 fun H6 => D.nx σ H6
/-- o[i], by values -/
def PGet (X : Cx) (t : V → V → Hp → VK → Prop) : Prop :=
  ∀ (pins : List (Addr × Obj)) (s : Shared) (σ : St) (H : Hp) (o i : V) (ov iv : Value) (Q : VK), Inv X pins σ H s → RelV o ov → RelV i iv → t o i H Q →
    wpAny (model X.prog X.w) X.A (getItem ov iv) (EP X pins σ Q) X.xe s
/-- ints -/
def ipI (f : Int → Int → Int) : TIp := fun x y H Q => ∃ i j, x = .int i ∧ y = .int j ∧ Q (.int (f i j)) H
end

/-! ### while -/
section
variable {X : Cx} {pos : Pos}
/-- the invariant W with its measure -/
def tWhile (c : TT) (tb : TS) : TS := fun D σ H => ∃ W : Nat → St → Hp → Prop, (∃ m, W m σ H) ∧ ∀ m σ H, W m σ H →
  c σ H fun b H1 => if b = true then ∃ N : St → Hp → Prop, (∀ σ' H', N σ' H' → ∃ m', m' < m ∧ W m' σ' H') ∧ tb { D with nx := N, ct := N, bk := D.nx } σ H1 else D.nx σ H1
theorem ps_while {c : Expr} {body : List Stmt} {tc : TT} {tb : TS} (hp : PassesOwn (model X.prog X.w) X.A X.env X.xe) (hc : PT X c tc) (hb : PSs X body tb) : PS X (.While c body [] pos) (tWhile tc tb) := by
  intro pins s σ H D I h
  obtain ⟨W, ⟨m0, w0⟩, turn⟩ := h
  refine wpAny_While (codeAny_whileLoop (fun n s' => ∃ σ' H', Inv X pins σ' H' s' ∧ W n σ' H') ?_ m0 ⟨σ, H, I, w0⟩)
  rintro n s1 ⟨σ1, H1, I1, w1⟩
  refine wpAny_passesOwn hp (thn (hc pins s1 σ1 H1 _ I1 (turn n σ1 H1 w1)) fun b s2 ⟨H2, I2, q2⟩ => ?_)
  cases b with
  | true =>
    obtain ⟨N, hN, q2⟩ := q2
    rw [if_pos rfl]
    refine wpAny_passesOwn hp (thn (hb pins s2 σ1 H2 _ I2 q2) fun f s3 q3 => ?_)
    cases f with
    | next =>
      obtain ⟨σ3, H3, I3, n3⟩ := q3
      obtain ⟨m', hm, w3⟩ := hN σ3 H3 n3
      exact ⟨m', hm, σ3, H3, I3, w3⟩
    | cont =>
      obtain ⟨σ3, H3, I3, n3⟩ := q3
      obtain ⟨m', hm, w3⟩ := hN σ3 H3 n3
      exact ⟨m', hm, σ3, H3, I3, w3⟩
    | brk => exact q3
    | ret v => exact q3
  | false =>
    rw [if_neg Bool.false_ne_true]
    exact wpAny_execs_nil ⟨σ1, H2, I2, q2⟩
end

/-! ### what a loop or a comprehension walks -/
/-- at turn i: it yields x (the heap may grow), or it stops -/
structure It where
  go : Nat → Hp → Prop
  yld : Nat → Hp → V → Hp → Prop
  stop : Nat → Hp → Prop
/-- the iterator's own objects may turn: they are not the frame's, not pinned, younger than the entry (or a comprehension's own) -/
def FpOk (X : Cx) (pins : List (Addr × Obj)) (H : Hp) (b : Addr) : Prop :=
  H b = none ∧ b ≠ X.env.locals ∧ b ∉ X.fs ∧ (b ∈ X.ex ∨ X.s₀.heap.objs.size ≤ b) ∧ (∀ x c, X.env.cells.lookup x = some c → c ≠ b) ∧ ∀ p ∈ X.pn ++ pins, p.1 ≠ b
theorem Inv.fpOk {X : Cx} {pins : List (Addr × Obj)} {σ : St} {H H' : Hp} {s : Shared} {b : Addr} (I : Inv X pins σ H s) (hb : s.heap.objs.size ≤ b) (hn : H' b = none) : FpOk X pins H' b := by
  refine ⟨hn, Nat.ne_of_gt (Nat.lt_of_lt_of_le I.lt hb), I.nofs hb, .inr (Nat.le_trans I.sz hb), fun x c e z => ?_, fun p hp z => ?_⟩
  · obtain ⟨v, q⟩ := I.cell x c e
    exact absurd (Nat.lt_of_lt_of_le q.lt (by rw [z]; exact hb)) (Nat.lt_irrefl _)
  · exact absurd (Nat.lt_of_lt_of_le (Heap.lt_size (I.pin p hp).1) (by rw [z]; exact hb)) (Nat.lt_irrefl _)
structure Turn (P : Program) (w : World) (K : PySem.W.Frag) (tg : Expr) (J : It) (fp : List Addr) (it : Addr) (tn : Nat → Heap → Prop) : Prop where
  mem : it ∈ fp
  obj : ∀ i h, tn i h → ∀ b ∈ fp, ∃ o, h.get? b = some o ∧ ∀ v, o.data ≠ .cell v
  keep : ∀ i h h', tn i h → (∀ b ∈ fp, ∀ o, h.get? b = some o → h'.get? b = some o) → tn i h'
  item : ∀ (X : Cx), X.prog = P → X.w = w → X.K = K → X.calm = true → ∀ (i : Nat) (pins : List (Addr × Obj)) (s : Shared) (σ : St) (H : Hp) (E : Value → Shared → Prop), Inv X pins σ H s → (∀ b ∈ fp, FpOk X pins H b) → tn i s.heap → J.go i H →
    wpAny (model P w) X.A (pyNext (.ref it)) (fun r s1 => ∃ u, r = some u ∧
      wpAny (model P w) X.A (letOwnedTupleGo tg (.ref it) u) (fun _ s2 => ∃ x H', Inv X pins σ H' s2 ∧ RelV x u ∧ J.yld i H x H' ∧ tn (i + 1) s2.heap ∧ ∀ b ∈ fp, H' b = none) E s1) E s
  done : ∀ (X : Cx), X.prog = P → X.w = w → X.K = K → X.calm = true → ∀ (i : Nat) (pins : List (Addr × Obj)) (s : Shared) (σ : St) (H : Hp) (E : Value → Shared → Prop), Inv X pins σ H s → (∀ b ∈ fp, FpOk X pins H b) → tn i s.heap → J.stop i H →
    wpAny (model P w) X.A (pyNext (.ref it)) (fun r s1 => r = none ∧ Inv X pins σ H s1) E s
  self : ∀ (A : Around) (i : Nat) (s : Shared) (Q : Value → Shared → Prop) (E : Value → Shared → Prop), tn i s.heap → Q (.ref it) s → wpAny (model P w) A (pyIter (.ref it)) Q E s
abbrev TI := St → Hp → (It → Hp → Prop) → Prop
/-- an iterator has come -/
def PIE (X : Cx) (pins : List (Addr × Obj)) (σ : St) (tg : Expr) (R : It → Hp → Prop) (itv : Value) (s2 : Shared) : Prop :=
  ∃ (it : Addr) (fp : List Addr) (tn : Nat → Heap → Prop) (J : It) (H' : Hp), itv = .ref it ∧ Inv X pins σ H' s2 ∧ Turn X.prog X.w X.K tg J fp it tn ∧ tn 0 s2.heap ∧ (∀ b ∈ fp, FpOk X pins H' b) ∧ R J H'
def PI (X : Cx) (tg iter : Expr) (wi : TI) : Prop :=
  ∀ (pins : List (Addr × Obj)) (s : Shared) (σ : St) (H : Hp) (R : It → Hp → Prop), Inv X pins σ H s → wi σ H R →
    wpAny (model X.prog X.w) X.A (eval iter X.env) (fun v s1 => wpAny (model X.prog X.w) X.A (pyIter v) (PIE X pins σ tg R) X.xe s1) X.xe s

/-- the step ahead of the store is nothing for an iterator that keeps no tuple -/
theorem go_of {M : Model} {A : Around} {E : Value → Shared → Prop} {s : Shared} {tg : Expr} {it : Addr} {u : Value} {o : Obj} {n : String} {vs : Array Value} {Q : Unit → Shared → Prop} (ho : s.heap.get? it = some o) (hc : o.cls = .type n) (hd : o.data = .fields vs)
    (hn : ["enumerate", "zip", "dict_itemiterator", "dict_reverseitemiterator", "odict_iterator", "itertools.zip_longest", "itertools.pairwise"].contains n = false) (hQ : Q () s) : wpAny M A (letOwnedTupleGo tg (.ref it) u) Q E s := by
  unfold letOwnedTupleGo
  cases tg <;> first
    | exact wpAny_pure hQ
    | (cases u <;> first
        | exact wpAny_pure hQ
        | (refine wpAny_bind (wpAny_load ho ?_)
           rw [hc, hd]
           show wpAny M A (if (["enumerate", "zip", "dict_itemiterator", "dict_reverseitemiterator", "odict_iterator", "itertools.zip_longest", "itertools.pairwise"].contains n && vs[0]? == some (rawInt _)) = true then _ else _) Q E s
           rw [if_neg (by intro h; rw [hn, Bool.false_and] at h; cases h)]
           exact wpAny_pure hQ))

/-- the list at a, as it stands at each turn (a loop may append to it) -/
def Itl (K : PySem.W.Frag) (a : Addr) : It :=
  ⟨fun i H => ∃ xs x, SqL K H a xs ∧ xs[i]? = some x, fun i H x H' => H' = H ∧ ∀ xs, SqL K H a xs → xs[i]? = some x, fun i H => ∃ xs, SqL K H a xs ∧ xs.length ≤ i⟩
def Itt (K : PySem.W.Frag) (a : Addr) : It :=
  ⟨fun i H => ∃ xs x, SqT K H a xs ∧ xs[i]? = some x, fun i H x H' => H' = H ∧ ∀ xs, SqT K H a xs → xs[i]? = some x, fun i H => ∃ xs, SqT K H a xs ∧ xs.length ≤ i⟩
/-- lo, lo + 1, .. (n of them) -/
def Itr (lo : Int) (n : Nat) : It := ⟨fun i _ => i < n, fun i H x H' => H' = H ∧ x = .int (lo + i), fun i _ => n ≤ i⟩
theorem turn_list {P : Program} {w : World} {K : PySem.W.Frag} {tg : Expr} (a it : Addr) : Turn P w K tg (Itl K a) [it] it (fun i h => h.IsListIter it a i) where
  mem := by simp
  obj := fun i h st b hb => by
    have e : b = it := by simpa using hb
    subst e
    obtain ⟨o, e, c, d⟩ := st
    exact ⟨o, e, fun v z => by rw [d] at z; cases z⟩
  keep := fun i h h' st k => st.at fun o e => k it (by simp) o e
  item := by
    intro X hP hw hK hc i pins s σ H E I hf st hg
    subst hP hw hK
    obtain ⟨xs, x, hq, hx⟩ := hg
    obtain ⟨its, rv, p, hz⟩ := I.list hq
    obtain ⟨u, hu, ru⟩ := rv.get hx
    obtain ⟨f0, f1, f2, f3, f4, f5⟩ := hf it (by simp)
    refine wpAny_pyNext_list_item st p.isList (x := u) (by simpa using hu) fun h' st' sb => ?_
    have I1 : Inv X pins σ H { s with heap := h' } := I.turned (t' := s.toks) (fun b o hb e => (sb.2 b hb).trans e) f0 f1 f3 f4 f5
    obtain ⟨o, e, c, d⟩ := id st'
    exact ⟨u, rfl, go_of (s := { s with heap := h' }) e c d (by decide) ⟨x, H, I1, ru, ⟨rfl, fun ys hy => by rw [I.list_inj hy hq]; exact hx⟩, st', fun b hb => (hf b hb).1⟩⟩
  done := by
    intro X hP hw hK hc i pins s σ H E I hf st hg
    subst hP hw hK
    obtain ⟨xs, hq, hx⟩ := hg
    obtain ⟨its, rv, p, hz⟩ := I.list hq
    obtain ⟨f0, f1, f2, f3, f4, f5⟩ := hf it (by simp)
    have hl := rv.length
    exact wpAny_pyNext_list_end (I.ok.hd hc) st p.isList (by simp; omega) fun h' eb => ⟨rfl, I.turned (t' := s.toks) (fun b o hb e => eb b o hb e) f0 f1 f3 f4 f5⟩
  self := fun _ _ _ _ _ st h => wpAny_pyIter_listiter st h
theorem turn_tuple {P : Program} {w : World} {K : PySem.W.Frag} {tg : Expr} (a it : Addr) : Turn P w K tg (Itt K a) [it] it (fun i h => h.IsTupleIter it a i) where
  mem := by simp
  obj := fun i h st b hb => by
    have e : b = it := by simpa using hb
    subst e
    obtain ⟨o, e, c, d⟩ := st
    exact ⟨o, e, fun v z => by rw [d] at z; cases z⟩
  keep := fun i h h' st k => st.at fun o e => k it (by simp) o e
  item := by
    intro X hP hw hK hc i pins s σ H E I hf st hg
    subst hP hw hK
    obtain ⟨xs, x, hq, hx⟩ := hg
    obtain ⟨its, rv, p, hz⟩ := I.tuple hq
    obtain ⟨u, hu, ru⟩ := rv.get hx
    obtain ⟨f0, f1, f2, f3, f4, f5⟩ := hf it (by simp)
    refine wpAny_pyNext_tuple_item st (show s.heap.IsTuple a its.toArray from p) (x := u) (by simpa using hu) fun h' st' sb => ?_
    have I1 : Inv X pins σ H { s with heap := h' } := I.turned (t' := s.toks) (fun b o hb e => (sb.2 b hb).trans e) f0 f1 f3 f4 f5
    obtain ⟨o, e, c, d⟩ := id st'
    exact ⟨u, rfl, go_of (s := { s with heap := h' }) e c d (by decide) ⟨x, H, I1, ru, ⟨rfl, fun ys hy => by rw [I.tuple_inj hy hq]; exact hx⟩, st', fun b hb => (hf b hb).1⟩⟩
  done := by
    intro X hP hw hK hc i pins s σ H E I hf st hg
    subst hP hw hK
    obtain ⟨xs, hq, hx⟩ := hg
    obtain ⟨its, rv, p, hz⟩ := I.tuple hq
    obtain ⟨f0, f1, f2, f3, f4, f5⟩ := hf it (by simp)
    have hl := rv.length
    exact wpAny_pyNext_tuple_end (I.ok.hd hc) st (show s.heap.IsTuple a its.toArray from p) (by simp; omega) fun h' eb => ⟨rfl, I.turned (t' := s.toks) (fun b o hb e => eb b o hb e) f0 f1 f3 f4 f5⟩
  self := fun _ _ _ _ _ st h => wpAny_pyIter_tupleiter st h
theorem turn_range {P : Program} {w : World} {K : PySem.W.Frag} {tg : Expr} (it : Addr) (lo : Int) (n : Nat) : Turn P w K tg (Itr lo n) [it] it (fun i h => IsRangeIter h it (lo + (i : Nat) * 1) ((n : Int) - (i : Nat)) 1) where
  mem := by simp
  obj := fun i h st b hb => by
    have e : b = it := by simpa using hb
    subst e
    exact ⟨_, st, fun v z => by
      have z' : Data.fields _ = Data.cell v := z
      cases z'⟩
  keep := fun i h h' st k => k it (by simp) _ st
  item := by
    intro X hP hw hK hc i pins s σ H E I hf st hg
    subst hP hw hK
    obtain ⟨f0, f1, f2, f3, f4, f5⟩ := hf it (by simp)
    have W := Walks.range (prog := X.prog) (w := X.w) (I.ok.hd hc) it lo 1 n
    refine W.item i s _ _ hg st fun v h' tk hv st' kk => ?_
    obtain ⟨t, rfl⟩ := hv
    have I1 : Inv X pins σ H { s with heap := h', toks := tk } := I.turned (fun b o hb e => kk b o (by simpa using hb) e) f0 f1 f3 f4 f5
    refine ⟨_, rfl, go_of (s := { s with heap := h', toks := tk }) (n := "range_iterator") st' rfl rfl (by decide) ⟨.int (lo + i), H, I1, ⟨t, ?_⟩, ⟨rfl, rfl⟩, st', fun b hb => (hf b hb).1⟩⟩
    rw [Int.mul_one]
  done := by
    intro X hP hw hK hc i pins s σ H E I hf st hg
    subst hP hw hK
    obtain ⟨f0, f1, f2, f3, f4, f5⟩ := hf it (by simp)
    exact wpAny_pyNext_range_end (I.ok.hd hc) st (by have : n ≤ i := hg; omega) fun h' eb => ⟨rfl, I.turned (t' := s.toks) (fun b o hb e => eb b o hb e) f0 f1 f3 f4 f5⟩
  self := fun _ _ _ _ _ st h => wpAny_pyIter_rangeiter st h
end L2

namespace L2
open PySem PySem.Spec PyProof.Rows
section
variable {X : Cx} {tg : Expr}
def iList (K : PySem.W.Frag) (tl : TE) : TI := fun σ H R => tl σ H fun x H1 => ∃ a, x = .ref a ∧ (∃ xs, SqL K H1 a xs) ∧ R (Itl K a) H1
def iTup (K : PySem.W.Frag) (tl : TE) : TI := fun σ H R => tl σ H fun x H1 => ∃ a, x = .ref a ∧ (∃ xs, SqT K H1 a xs) ∧ R (Itt K a) H1
theorem pi_list {l : Expr} {tl : TE} (hl : PE X l tl) : PI X tg l (iList X.K tl) := by
  intro pins s σ H R I h
  refine thn (hl pins s σ H _ I h) fun v s1 ⟨x, H1, I1, r1, q1⟩ => ?_
  obtain ⟨a, e, ⟨xs, hq⟩, q⟩ := q1
  subst e
  cases r1
  obtain ⟨its, rv, p, hz⟩ := I1.list hq
  refine wpAny_pyIter_list p.isList ?_
  refine ⟨s1.heap.objs.size, [s1.heap.objs.size], _, _, H1, rfl, I1.kept (t' := s1.toks) fun b o e => Heap.get?_push_of_some _ e, turn_list a _, ⟨_, Heap.get?_push_size _ rfl, rfl, rfl⟩, fun b hb => ?_, q⟩
  have e : b = s1.heap.objs.size := by simpa using hb
  subst e
  exact I1.fpOk (Nat.le_refl _) (I1.hok.fresh (Nat.le_refl _))
theorem pi_tup {l : Expr} {tl : TE} (hl : PE X l tl) : PI X tg l (iTup X.K tl) := by
  intro pins s σ H R I h
  refine thn (hl pins s σ H _ I h) fun v s1 ⟨x, H1, I1, r1, q1⟩ => ?_
  obtain ⟨a, e, ⟨xs, hq⟩, q⟩ := q1
  subst e
  cases r1
  obtain ⟨its, rv, p, hz⟩ := I1.tuple hq
  refine wpAny_pyIter_tuple (show s1.heap.IsTuple a its.toArray from p) ?_
  refine ⟨s1.heap.objs.size, [s1.heap.objs.size], _, _, H1, rfl, I1.kept (t' := s1.toks) fun b o e => Heap.get?_push_of_some _ e, turn_tuple a _, ⟨_, Heap.get?_push_size _ rfl, rfl, rfl⟩, fun b hb => ?_, q⟩
  have e : b = s1.heap.objs.size := by simpa using hb
  subst e
  exact I1.fpOk (Nat.le_refl _) (I1.hok.fresh (Nat.le_refl _))
/-- a range object just made, walked -/
theorem range_it {pins : List (Addr × Obj)} {σ : St} {H : Hp} {s : Shared} {R : It → Hp → Prop} {E : Value → Shared → Prop} {lo hi : Int} {t u v : Tok} {tk : Nat} (I : Inv X pins σ H s) (h1 : -(2 ^ 62) ≤ lo) (h2 : lo < 2 ^ 62) (h3 : -(2 ^ 62) ≤ hi) (h4 : hi < 2 ^ 62)
    (q : R (Itr lo (hi - lo).toNat) H) : wpAny (model X.prog X.w) X.A (pyIter (.ref s.heap.objs.size)) (PIE X pins σ tg R) E { s with heap := s.heap.push { cls := .type "range", data := .fields #[.int lo t, .int hi u, .int 1 v] }, toks := tk } := by
  refine wpAny_pyIter_range (IsRange.new ..) (small_one h1 h2 h3 h4) ?_
  have I1 : Inv X pins σ H { s with heap := s.heap.push { cls := .type "range", data := .fields #[.int lo t, .int hi u, .int 1 v] }, toks := tk } := I.kept fun b o e => Heap.get?_push_of_some _ e
  refine ⟨(s.heap.push { cls := .type "range", data := .fields #[.int lo t, .int hi u, .int 1 v] }).objs.size, [(s.heap.push { cls := .type "range", data := .fields #[.int lo t, .int hi u, .int 1 v] }).objs.size], _, _, H, rfl,
    I1.kept (t' := tk) fun b o e => Heap.get?_push_of_some _ e, turn_range _ lo (hi - lo).toNat, ?_, fun b hb => ?_, q⟩
  · have e1 : lo + ((0 : Nat) : Int) * 1 = lo := by simp
    have e2 : (((hi - lo).toNat : Nat) : Int) - ((0 : Nat) : Int) = Builtin.Range.rangeSize lo hi 1 := by rw [rangeSize_one]; split <;> omega
    show IsRangeIter _ _ (lo + ((0 : Nat) : Int) * 1) ((((hi - lo).toNat : Nat) : Int) - ((0 : Nat) : Int)) 1
    rw [e1, e2]
    exact Heap.get?_push_size _ rfl
  · have e : b = (s.heap.push { cls := .type "range", data := .fields #[.int lo t, .int hi u, .int 1 v] }).objs.size := by simpa using hb
    subst e
    exact I1.fpOk (Nat.le_refl _) (I1.hok.fresh (Nat.le_refl _))
def iRng1 (ta : TA) : TI := fun σ H R => ta σ H fun vs H1 => ∃ j : Int, vs = [.int j] ∧ -(2 ^ 62) ≤ j ∧ j < 2 ^ 62 ∧ R (Itr 0 j.toNat) H1
def iRng2 (ta : TA) : TI := fun σ H R => ta σ H fun vs H1 => ∃ i j : Int, vs = [.int i, .int j] ∧ (-(2 ^ 62) ≤ i ∧ i < 2 ^ 62 ∧ -(2 ^ 62) ≤ j ∧ j < 2 ^ 62) ∧ R (Itr i (j - i).toNat) H1
theorem pi_range1 {a : Expr} {ta : TA} {p pos : Pos} (hg : Gl X "range") (hm : X.mg "range" = none) (ha : PA X [a] ta) (hs : starEach [a] X.env = [(false, eval a X.env)] := by rfl) : PI X tg (.Call (.Name "range" p) [a] [] pos) (iRng1 ta) := by
  intro pins s σ H R I h
  refine Call_ (ld_blt I hg hm boot_range (PyProof.Rows.callWith_type1 (thn (ha pos pins s σ H _ I h) fun us s1 ⟨vs, H1, I1, r1, q1⟩ => ?_) hs rfl))
  obtain ⟨j, e, q1, q2, q⟩ := q1
  subst e
  cases r1 with
  | cons r rr =>
    cases rr
    obtain ⟨t, rfl⟩ := r
    exact call_range_1 (range_it I1 (by omega) (by omega) q1 q2 (by simpa using q))
/-! ### for -/
/-- W: the invariant by the turn and a measure; N: what the body is to reach -/
def tFor (wi : TI) (g : TG) (tb : TS) : TS := fun D σ H => wi σ H fun J H1 => ∃ W : Nat → Nat → St → Hp → Prop, (∃ m, W 0 m σ H1) ∧ ∀ i m σ H, W i m σ H →
  (J.stop i H ∧ D.nx σ H) ∨ (J.go i H ∧ ∃ N : St → Hp → Prop, (∀ σ' H', N σ' H' → ∃ m', m' < m ∧ W (i + 1) m' σ' H') ∧ ∀ x H', J.yld i H x H' → g x σ H' fun σ2 H2 => tb { D with nx := N, ct := N, bk := D.nx } σ2 H2)
/-- the records at fp as they stand -/
def pinsAt (fp : List Addr) (h : Heap) : List (Addr × Obj) := fp.filterMap fun b => (h.get? b).map fun o => (b, o)
theorem mem_pinsAt {fp : List Addr} {h : Heap} {b : Addr} {o : Obj} (hb : b ∈ fp) (e : h.get? b = some o) : (b, o) ∈ pinsAt fp h := List.mem_filterMap.mpr ⟨b, hb, by rw [e]; rfl⟩
theorem of_pinsAt {fp : List Addr} {h : Heap} {p : Addr × Obj} (hp : p ∈ pinsAt fp h) : p.1 ∈ fp ∧ h.get? p.1 = some p.2 := by
  obtain ⟨b, hb, e⟩ := List.mem_filterMap.mp hp
  cases q : h.get? b with
  | none => rw [q] at e; cases e
  | some o =>
    rw [q] at e
    have e' : (b, o) = p := Option.some.inj e
    subst e'
    exact ⟨hb, q⟩
theorem Inv.pinned {pins : List (Addr × Obj)} {σ : St} {H : Hp} {s : Shared} {fp : List Addr} (I : Inv X pins σ H s) (hf : ∀ b ∈ fp, FpOk X pins H b) (ho : ∀ b ∈ fp, ∃ o, s.heap.get? b = some o ∧ ∀ v, o.data ≠ .cell v) : Inv X (pins ++ pinsAt fp s.heap) σ H s :=
  I.pins_of fun p hp => (List.mem_append.mp hp).elim (fun z => I.pin p (List.mem_append_right _ z)) fun z => by
    obtain ⟨hb, e⟩ := of_pinsAt z
    obtain ⟨f0, f1, f2, _⟩ := hf p.1 hb
    obtain ⟨o, e', d⟩ := ho p.1 hb
    rw [e] at e'; cases e'
    exact ⟨e, f0, f1, f2, d⟩
theorem Inv.unpinned {pins pl : List (Addr × Obj)} {σ : St} {H : Hp} {s : Shared} (I : Inv X (pins ++ pl) σ H s) : Inv X pins σ H s := I.pins_of fun p hp => I.pin p (List.mem_append_right _ (List.mem_append_left _ hp))
theorem ps_for {iter : Expr} {body : List Stmt} {wi : TI} {g : TG} {tb : TS} {pos : Pos} (hp : PassesOwn (model X.prog X.w) X.A X.env X.xe) (hc : X.calm = true) (hi : PI X tg iter wi) (hg : PG X tg g) (hb : PSs X body tb)
    (hs : ∀ x, foldedSetIterable iter X.env x = pure x := by intro _; rfl) : PS X (.For tg iter body [] pos) (tFor wi g tb) := by
  intro pins s σ H D I h
  refine wpAny_For (thn (hi pins s σ H _ I h) fun v s1 h1 => thn h1 fun itv s2 h2 => ?_) hs
  obtain ⟨it, fp, tn, J, H2, e, I2, T, st2, f2, W, ⟨m0, w0⟩, turn⟩ := h2
  subst e
  -- what stays true of the iterator's objects through the loop
  have stat : ∀ {H' : Hp}, (∀ b ∈ fp, H' b = none) → ∀ b ∈ fp, FpOk X pins H' b := fun hn b hb => ⟨hn b hb, (f2 b hb).2⟩
  refine codeAny_forLoop_any (fun n s' => ∃ i σ' H', Inv X pins σ' H' s' ∧ tn i s'.heap ∧ (∀ b ∈ fp, H' b = none) ∧ W i n σ' H') ?_ m0 ⟨0, σ, H2, I2, st2, fun b hb => (f2 b hb).1, w0⟩
  rintro n s3 ⟨i, σ3, H3, I3, st3, fr3, w3⟩
  rcases turn i n σ3 H3 w3 with ⟨stop, qn⟩ | ⟨go, N, hN, step⟩
  · refine wpAny_passesOwn hp (thn (T.done X rfl rfl rfl hc i pins s3 σ3 H3 X.xe I3 (stat fr3) st3 stop) fun r s4 ⟨hr, I4⟩ => ?_)
    subst hr
    exact wpAny_execs_nil ⟨σ3, H3, I4, qn⟩
  · refine wpAny_passesOwn hp (thn (T.item X rfl rfl rfl hc i pins s3 σ3 H3 X.xe I3 (stat fr3) st3 go) fun r s4 ⟨u, hr, h4⟩ => ?_)
    subst hr
    refine wpAny_passesOwn hp (thn h4 fun _ s5 ⟨x, H5, I5, r5, y5, st5, fr5⟩ => ?_)
    have I5' := I5.pinned (stat fr5) (T.obj _ _ st5)
    refine wpAny_passesOwn hp (thn (hg _ s5 σ3 H5 x u _ I5' r5 (step x H5 y5)) fun _ s6 ⟨σ6, H6, I6, q6⟩ => ?_)
    refine wpAny_passesOwn hp (thn (hb _ s6 σ6 H6 _ I6 q6) fun f s7 q7 => ?_)
    have again : ∀ {σ7 : St} {H7 : Hp}, Inv X (pins ++ pinsAt fp s5.heap) σ7 H7 s7 → N σ7 H7 → ∃ m, m < n ∧ ∃ i σ' H', Inv X pins σ' H' s7 ∧ tn i s7.heap ∧ (∀ b ∈ fp, H' b = none) ∧ W i m σ' H' := fun {σ7 H7} I7 n7 => by
      obtain ⟨m', hm, w7⟩ := hN σ7 H7 n7
      refine ⟨m', hm, i + 1, σ7, H7, I7.unpinned, T.keep _ _ _ st5 fun b hb o e => (I7.pin (b, o) (List.mem_append_right _ (List.mem_append_right _ (mem_pinsAt hb e)))).1, fun b hb => ?_, w7⟩
      obtain ⟨o, e, d⟩ := T.obj _ _ st5 b hb
      exact (I7.pin (b, o) (List.mem_append_right _ (List.mem_append_right _ (mem_pinsAt hb e)))).2.1
    cases f with
    | next => obtain ⟨σ7, H7, I7, n7⟩ := q7; exact again I7 n7
    | cont => obtain ⟨σ7, H7, I7, n7⟩ := q7; exact again I7 n7
    | brk => obtain ⟨σ7, H7, I7, q7⟩ := q7; exact ⟨σ7, H7, I7.unpinned, q7⟩
    | ret v => obtain ⟨x7, σ7, H7, I7, r7, q7⟩ := q7; exact ⟨x7, σ7, H7, I7.unpinned, r7, q7⟩
end

/-! ### the forms one uses -/
/-- over a list that the body leaves as it is -/
theorem for_list {K : PySem.W.Frag} {a : Addr} {xs : List V} {g : TG} {tb : TS} {D : Ends} {σ : St} {H : Hp} (Pv : Nat → St → Hp → Prop) (h0 : Pv 0 σ H) (hl : ∀ i σ H, i ≤ xs.length → Pv i σ H → SqL K H a xs)
    (hs : ∀ i x σ H, xs[i]? = some x → Pv i σ H → g x σ H fun σ2 H2 => tb { D with nx := Pv (i + 1), ct := Pv (i + 1), bk := D.nx } σ2 H2) (hd : ∀ σ H, Pv xs.length σ H → D.nx σ H) :
    ∃ W : Nat → Nat → St → Hp → Prop, (∃ m, W 0 m σ H) ∧ ∀ i m σ H, W i m σ H →
      ((Itl K a).stop i H ∧ D.nx σ H) ∨ ((Itl K a).go i H ∧ ∃ N : St → Hp → Prop, (∀ σ' H', N σ' H' → ∃ m', m' < m ∧ W (i + 1) m' σ' H') ∧ ∀ x H', (Itl K a).yld i H x H' → g x σ H' fun σ2 H2 => tb { D with nx := N, ct := N, bk := D.nx } σ2 H2) := by
  refine ⟨fun i m σ H => m = xs.length - i ∧ i ≤ xs.length ∧ Pv i σ H, ⟨xs.length, by simp, Nat.zero_le _, h0⟩, ?_⟩
  rintro i m σ H ⟨rfl, hi, p⟩
  have q := hl i σ H hi p
  by_cases hlt : i < xs.length
  · refine .inr ⟨⟨xs, xs[i], q, by simp [hlt]⟩, Pv (i + 1), fun σ' H' p' => ⟨xs.length - (i + 1), by omega, rfl, hlt, p'⟩, fun x H' y => ?_⟩
    obtain ⟨e, y⟩ := y
    subst e
    exact hs i x σ _ (y xs q) p
  · have e : i = xs.length := by omega
    subst e
    exact .inl ⟨⟨xs, q, Nat.le_refl _⟩, hd σ H p⟩
theorem for_tup {K : PySem.W.Frag} {a : Addr} {xs : List V} {g : TG} {tb : TS} {D : Ends} {σ : St} {H : Hp} (Pv : Nat → St → Hp → Prop) (h0 : Pv 0 σ H) (hl : ∀ i σ H, i ≤ xs.length → Pv i σ H → SqT K H a xs)
    (hs : ∀ i x σ H, xs[i]? = some x → Pv i σ H → g x σ H fun σ2 H2 => tb { D with nx := Pv (i + 1), ct := Pv (i + 1), bk := D.nx } σ2 H2) (hd : ∀ σ H, Pv xs.length σ H → D.nx σ H) :
    ∃ W : Nat → Nat → St → Hp → Prop, (∃ m, W 0 m σ H) ∧ ∀ i m σ H, W i m σ H →
      ((Itt K a).stop i H ∧ D.nx σ H) ∨ ((Itt K a).go i H ∧ ∃ N : St → Hp → Prop, (∀ σ' H', N σ' H' → ∃ m', m' < m ∧ W (i + 1) m' σ' H') ∧ ∀ x H', (Itt K a).yld i H x H' → g x σ H' fun σ2 H2 => tb { D with nx := N, ct := N, bk := D.nx } σ2 H2) := by
  refine ⟨fun i m σ H => m = xs.length - i ∧ i ≤ xs.length ∧ Pv i σ H, ⟨xs.length, by simp, Nat.zero_le _, h0⟩, ?_⟩
  rintro i m σ H ⟨rfl, hi, p⟩
  have q := hl i σ H hi p
  by_cases hlt : i < xs.length
  · refine .inr ⟨⟨xs, xs[i], q, by simp [hlt]⟩, Pv (i + 1), fun σ' H' p' => ⟨xs.length - (i + 1), by omega, rfl, hlt, p'⟩, fun x H' y => ?_⟩
    obtain ⟨e, y⟩ := y
    subst e
    exact hs i x σ _ (y xs q) p
  · have e : i = xs.length := by omega
    subst e
    exact .inl ⟨⟨xs, q, Nat.le_refl _⟩, hd σ H p⟩
theorem for_range {lo : Int} {n : Nat} {g : TG} {tb : TS} {D : Ends} {σ : St} {H : Hp} (Pv : Nat → St → Hp → Prop) (h0 : Pv 0 σ H)
    (hs : ∀ i σ H, i < n → Pv i σ H → g (.int (lo + i)) σ H fun σ2 H2 => tb { D with nx := Pv (i + 1), ct := Pv (i + 1), bk := D.nx } σ2 H2) (hd : ∀ σ H, Pv n σ H → D.nx σ H) :
    ∃ W : Nat → Nat → St → Hp → Prop, (∃ m, W 0 m σ H) ∧ ∀ i m σ H, W i m σ H →
      ((Itr lo n).stop i H ∧ D.nx σ H) ∨ ((Itr lo n).go i H ∧ ∃ N : St → Hp → Prop, (∀ σ' H', N σ' H' → ∃ m', m' < m ∧ W (i + 1) m' σ' H') ∧ ∀ x H', (Itr lo n).yld i H x H' → g x σ H' fun σ2 H2 => tb { D with nx := N, ct := N, bk := D.nx } σ2 H2) := by
  refine ⟨fun i m σ H => m = n - i ∧ i ≤ n ∧ Pv i σ H, ⟨n, by simp, Nat.zero_le _, h0⟩, ?_⟩
  rintro i m σ H ⟨rfl, hi, p⟩
  by_cases hlt : i < n
  · refine .inr ⟨hlt, Pv (i + 1), fun σ' H' p' => ⟨n - (i + 1), by omega, rfl, hlt, p'⟩, fun x H' y => ?_⟩
    obtain ⟨e, y⟩ := y
    subst e y
    exact hs i σ _ hlt p
  · have e : i = n := by omega
    subst e
    exact .inl ⟨Nat.le_refl _, hd σ H p⟩
/-- while, by a word and a measure of the state -/
theorem while_by {c : TT} {tb : TS} {D : Ends} {σ : St} {H : Hp} (Pv : St → Hp → Prop) (μ : St → Hp → Nat) (h0 : Pv σ H)
    (hs : ∀ σ H, Pv σ H → c σ H fun b H1 => if b = true then tb { D with nx := fun σ' H' => Pv σ' H' ∧ μ σ' H' < μ σ H, ct := fun σ' H' => Pv σ' H' ∧ μ σ' H' < μ σ H, bk := D.nx } σ H1 else D.nx σ H1)
    (mono : ∀ σ H Q Q', (∀ b H1, Q b H1 → Q' b H1) → c σ H Q → c σ H Q') : tWhile c tb D σ H := by
  refine ⟨fun m σ H => m = μ σ H ∧ Pv σ H, ⟨_, rfl, h0⟩, ?_⟩
  rintro m σ H ⟨rfl, p⟩
  refine mono σ H _ _ (fun b H1 q => ?_) (hs σ H p)
  cases b with
  | true => exact ⟨_, fun σ' H' ⟨p', l⟩ => ⟨_, l, rfl, p'⟩, q⟩
  | false => exact q
end L2

namespace L2
open PySem PySem.Spec PyProof.Rows

abbrev R2 := V → V → Hp → VK → Prop
/-- a two-place operation on values: f is binaryOp op, inplaceOp op or compareOp op -/
def OpR (X : Cx) (f : Value → Value → Sem Value) (r : R2) : Prop :=
  ∀ (pins : List (Addr × Obj)) (s : Shared) (σ : St) (H : Hp) (x y : V) (v u : Value) (Q : VK), Inv X pins σ H s → RelV x v → RelV y u → r x y H Q →
    wpAny (model X.prog X.w) X.A (f v u) (EP X pins σ Q) X.xe s
/-- a one-place operation -/
def UnR (X : Cx) (f : Value → Sem Value) (r : V → Hp → VK → Prop) : Prop :=
  ∀ (pins : List (Addr × Obj)) (s : Shared) (σ : St) (H : Hp) (x : V) (v : Value) (Q : VK), Inv X pins σ H s → RelV x v → r x H Q →
    wpAny (model X.prog X.w) X.A (f v) (EP X pins σ Q) X.xe s
/-- a call of a value that is known (a builtin, a type) with values -/
def CallR (X : Cx) (f : Value) (r : List V → Hp → VK → Prop) : Prop :=
  ∀ (pins : List (Addr × Obj)) (s : Shared) (σ : St) (H : Hp) (xs : List V) (us : List Value) (Q : VK), Inv X pins σ H s → Vals xs us → r xs H Q →
    wpAny (model X.prog X.w) X.A (call f us) (EP X pins σ Q) X.xe s
/-- a value's truth -/
def TruR (X : Cx) (r : V → Hp → (Bool → Hp → Prop) → Prop) : Prop :=
  ∀ (pins : List (Addr × Obj)) (s : Shared) (σ : St) (H : Hp) (x : V) (v : Value) (Q : Bool → Hp → Prop), Inv X pins σ H s → RelV x v → r x H Q →
    wpAny (model X.prog X.w) X.A (truthy v) (TP X pins σ Q) X.xe s

def tOp (r : R2) (ta tb : TE) : TE := fun σ H Q => ta σ H fun x H1 => tb σ H1 fun y H2 => r x y H2 Q
def tUn (r : V → Hp → VK → Prop) (ta : TE) : TE := fun σ H Q => ta σ H fun x H1 => r x H1 Q
/-- ints in, under C, and a value out -/
def rI (C : Int → Int → Prop) (g : Int → Int → V) : R2 := fun x y H Q => ∃ i j, x = .int i ∧ y = .int j ∧ C i j ∧ Q (g i j) H
def rI0 (g : Int → Int → V) : R2 := fun x y H Q => ∃ i j, x = .int i ∧ y = .int j ∧ Q (g i j) H
def rU (g : Int → V) : V → Hp → VK → Prop := fun x H Q => ∃ i, x = .int i ∧ Q (g i) H

section
variable {X : Cx} {a b c : Expr} {ta tb tc : TE} {pos : Pos}

theorem binT (ha : PE X a ta) (hb : PE X b tb) {pins : List (Addr × Obj)} {s : Shared} {σ : St} {H : Hp} {R : V → V → Hp → Prop} (I : Inv X pins σ H s)
    (h : ta σ H fun x H1 => tb σ H1 fun y H2 => R x y H2) {Q : Value → Shared → Prop} {f : Value → Value → Sem Value}
    (hf : ∀ v u s2 x y H2, Inv X pins σ H2 s2 → RelV x v → RelV y u → R x y H2 → wpAny (model X.prog X.w) X.A (f v u) Q X.xe s2) :
    wpAny (model X.prog X.w) X.A (eval a X.env) (fun v s₁ => wpAny (model X.prog X.w) X.A (eval b X.env) (fun u s₂ => wpAny (model X.prog X.w) X.A (f v u) Q X.xe s₂) X.xe s₁) X.xe s := by
  refine thn (ha pins s σ H _ I h) fun v s1 ⟨x, H1, I1, r1, q1⟩ => ?_
  refine thn (hb pins s1 σ H1 _ I1 q1) fun u s2 ⟨y, H2, I2, r2, q2⟩ => ?_
  exact hf v u s2 x y H2 I2 r1 r2 q2

theorem pe_op {op : Operator} {r : R2} (ho : OpR X (binaryOp op) r) (ha : PE X a ta) (hb : PE X b tb) : PE X (.BinOp a op b pos) (tOp r ta tb) := by
  intro pins s σ H Q I h
  exact wpAny_BinOp (binT ha hb I h fun v u s2 x y H2 I2 rx ry q => ho pins s2 σ H2 x y v u Q I2 rx ry q)
theorem pe_un {op : UnaryOp} {r : V → Hp → VK → Prop} (ho : UnR X (unaryOp op) r) (ha : PE X a ta) : PE X (.UnaryOp op a pos) (tUn r ta) := by
  intro pins s σ H Q I h
  exact UnaryOp_ (thn (ha pins s σ H _ I h) fun v s1 ⟨x, H1, I1, r1, q1⟩ => ho pins s1 σ H1 x v Q I1 r1 q1)
/-! ### ints -/
theorem opI {f : Value → Value → Sem Value} {C : Int → Int → Prop} {g : Int → Int → Int}
    (rule : ∀ (i j : Int) (t u : Tok) (s : Shared) (Q : Value → Shared → Prop) (E : Value → Shared → Prop), C i j → Q (.int (g i j) s.toks) { s with toks := s.toks + 1 } → wpAny (model X.prog X.w) X.A (f (.int i t) (.int j u)) Q E s) :
    OpR X f (rI C fun i j => .int (g i j)) := by
  intro pins s σ H x y v u Q I rx ry h
  obtain ⟨i, j, rfl, rfl, hc, q⟩ := h
  obtain ⟨t, rfl⟩ := rx
  obtain ⟨t', rfl⟩ := ry
  exact rule i j t t' s _ _ hc ⟨.int (g i j), H, I.tok _, ⟨_, rfl⟩, q⟩
theorem opI0 {f : Value → Value → Sem Value} {g : Int → Int → Int}
    (rule : ∀ (i j : Int) (t u : Tok) (s : Shared) (Q : Value → Shared → Prop) (E : Value → Shared → Prop), Q (.int (g i j) s.toks) { s with toks := s.toks + 1 } → wpAny (model X.prog X.w) X.A (f (.int i t) (.int j u)) Q E s) :
    OpR X f (rI0 fun i j => .int (g i j)) := by
  intro pins s σ H x y v u Q I rx ry h
  obtain ⟨i, j, rfl, rfl, q⟩ := h
  obtain ⟨t, rfl⟩ := rx
  obtain ⟨t', rfl⟩ := ry
  exact rule i j t t' s _ _ ⟨.int (g i j), H, I.tok _, ⟨_, rfl⟩, q⟩
theorem opB0 {f : Value → Value → Sem Value} {g : Int → Int → Bool}
    (rule : ∀ (i j : Int) (t u : Tok) (s : Shared) (Q : Value → Shared → Prop) (E : Value → Shared → Prop), Q (.bool (g i j)) s → wpAny (model X.prog X.w) X.A (f (.int i t) (.int j u)) Q E s) :
    OpR X f (rI0 fun i j => .bl (g i j)) := by
  intro pins s σ H x y v u Q I rx ry h
  obtain ⟨i, j, rfl, rfl, q⟩ := h
  obtain ⟨t, rfl⟩ := rx
  obtain ⟨t', rfl⟩ := ry
  exact rule i j t t' s _ _ ⟨.bl (g i j), H, I, rfl, q⟩

def CDiv (i j : Int) : Prop := 0 < j ∧ j < 1073741824
def CDivN (i j : Int) : Prop := j ≠ 0 ∧ j.natAbs < 1073741824
def CPow (i j : Int) : Prop := 0 ≤ j ∧ j ≤ 1000000 ∧ i.natAbs < 2 ^ 64
def CMul (i j : Int) : Prop := (-(2 ^ 64) < i ∧ i < 2 ^ 64) ∨ (-(2 ^ 64) < j ∧ j < 2 ^ 64)
theorem op_add : OpR X (binaryOp .Add) (rI0 fun i j => .int (i + j)) := opI0 fun _ _ _ _ _ _ _ q => add_int q
theorem op_sub : OpR X (binaryOp .Sub) (rI0 fun i j => .int (i - j)) := opI0 fun _ _ _ _ _ _ _ q => sub_int q
/-- % by a positive divisor of any size -/
theorem op_mod : OpR X (binaryOp .Mod) (rI (fun _ j => 0 < j) fun i j => .int (i % j)) := opI fun i j _ _ _ _ _ hc q => by
  have h1 : (0 : Int) < j := hc
  exact mod_int' (by omega) (by rw [Int.fmod_eq_emod_of_nonneg i (by omega)]; exact q)
theorem op_pow : OpR X (binaryOp .Pow) (rI CPow fun i j => .int (i ^ j.toNat)) := opI fun _ _ _ _ _ _ _ hc q => pow_int_small hc.1 hc.2.1 hc.2.2 q
theorem unI {f : Value → Sem Value} {g : Int → Int}
    (rule : ∀ (i : Int) (t : Tok) (s : Shared) (Q : Value → Shared → Prop) (E : Value → Shared → Prop), Q (.int (g i) s.toks) { s with toks := s.toks + 1 } → wpAny (model X.prog X.w) X.A (f (.int i t)) Q E s) :
    UnR X f (rU fun i => .int (g i)) := by
  intro pins s σ H x v Q I rx h
  obtain ⟨i, rfl, q⟩ := h
  obtain ⟨t, rfl⟩ := rx
  exact rule i t s _ _ ⟨.int (g i), H, I.tok _, ⟨_, rfl⟩, q⟩
theorem un_neg : UnR X (unaryOp .USub) (rU fun i => .int (-i)) := unI fun _ _ _ _ _ q => neg_int q
/-! ### bools among ints: n += (a < b) -/
end

/-! ### comparisons -/
/-- the scalars that == tells apart as data does -/
def scal : V → V → Bool
  | .non, .non => true | .non, .int _ => true | .int _, .non => true | .non, .bl _ => true | .bl _, .non => true | .non, .str _ => true | .str _, .non => true
  | .int _, .int _ => true | .bl _, .bl _ => true | .str _, .str _ => true | .byt _, .byt _ => true
  | .int _, .str _ => true | .str _, .int _ => true | .bl _, .str _ => true | .str _, .bl _ => true
  | _, _ => false
def rEq : R2 := fun x y H Q => scal x y = true ∧ Q (.bl (decide (x = y))) H
def rNe : R2 := fun x y H Q => scal x y = true ∧ Q (.bl (!decide (x = y))) H

theorem dec_int {i j : Int} : decide (V.int i = V.int j) = (i == j) := by
  rw [Bool.eq_iff_iff]
  simp
theorem dec_bl {i j : Bool} : decide (V.bl i = V.bl j) = (i == j) := by
  rw [Bool.eq_iff_iff]
  simp
theorem dec_str {i j : Str} : decide (V.str i = V.str j) = (i == j) := by
  rw [Bool.eq_iff_iff]
  simp
theorem dec_byt {i j : Array UInt8} : decide (V.byt i = V.byt j) = (i.toList == j.toList) := by
  rw [Bool.eq_iff_iff]
  cases i
  cases j
  simp

section
variable {X : Cx} {a b c : Expr} {ta tb tc : TE} {pos : Pos}
theorem fin_bl {pins : List (Addr × Obj)} {σ : St} {H : Hp} {s : Shared} {Q : VK} {k k' : Bool} (I : Inv X pins σ H s) (q : Q (.bl k) H) (e : k = k') : EP X pins σ Q (.bool k') s := by
  subst e
  exact ⟨.bl k, H, I, rfl, q⟩
theorem op_eq : OpR X (compareOp .Eq) rEq := by
  intro pins s σ H x y v u Q I rx ry h
  obtain ⟨hs, q⟩ := h
  cases x with
  | non =>
    cases rx
    cases y with
    | non => cases ry; exact PySem.EqNone.eq_none_none (fin_bl I q (by simp))
    | bl j => cases ry; exact PySem.EqNone.eq_none_bool (fin_bl I q (by simp))
    | int j => obtain ⟨t', rfl⟩ := ry; exact PySem.EqNone.eq_none_int (fin_bl I q (by simp))
    | str j => obtain ⟨t', rfl⟩ := ry; exact PySem.EqNone.eq_none_str (fin_bl I q (by simp))
    | _ => exact absurd (show false = true from hs) Bool.false_ne_true
  | bl i =>
    cases rx
    cases y with
    | non => cases ry; exact PySem.EqNone.eq_bool_none (fin_bl I q (by simp))
    | bl j => cases ry; exact eq_bool (fin_bl I q dec_bl)
    | str j => obtain ⟨t', rfl⟩ := ry; exact PySem.EqMixed.eq_bool_str (fin_bl I q (by simp))
    | _ => exact absurd (show false = true from hs) Bool.false_ne_true
  | int i =>
    obtain ⟨t, rfl⟩ := rx
    cases y with
    | non => cases ry; exact PySem.EqNone.eq_int_none (fin_bl I q (by simp))
    | int j => obtain ⟨t', rfl⟩ := ry; exact eq_int (fin_bl I q dec_int)
    | str j => obtain ⟨t', rfl⟩ := ry; exact PySem.EqMixed.eq_int_str (fin_bl I q (by simp))
    | _ => exact absurd (show false = true from hs) Bool.false_ne_true
  | str i =>
    obtain ⟨t, rfl⟩ := rx
    cases y with
    | non => cases ry; exact PySem.EqNone.eq_str_none (fin_bl I q (by simp))
    | bl j => cases ry; exact PySem.EqMixed.eq_str_bool (fin_bl I q (by simp))
    | int j => obtain ⟨t', rfl⟩ := ry; exact PySem.EqMixed.eq_str_int (fin_bl I q (by simp))
    | str j => obtain ⟨t', rfl⟩ := ry; exact eq_str (fin_bl I q dec_str)
    | _ => exact absurd (show false = true from hs) Bool.false_ne_true
  | byt i =>
    obtain ⟨t, rfl⟩ := rx
    cases y with
    | byt j => obtain ⟨t', rfl⟩ := ry; exact PySem.W.eq_bytes (fin_bl I q dec_byt)
    | _ => exact absurd (show false = true from hs) Bool.false_ne_true
  | _ => cases y <;> exact absurd (show false = true from hs) Bool.false_ne_true
theorem op_ne : OpR X (compareOp .NotEq) rNe := by
  intro pins s σ H x y v u Q I rx ry h
  obtain ⟨hs, q⟩ := h
  cases x with
  | non =>
    cases rx
    cases y with
    | non => cases ry; exact PySem.EqNone.ne_none_none (fin_bl I q (by simp))
    | bl j => cases ry; exact PySem.EqNone.ne_none_bool (fin_bl I q (by simp))
    | int j => obtain ⟨t', rfl⟩ := ry; exact PySem.EqNone.ne_none_int (fin_bl I q (by simp))
    | str j => obtain ⟨t', rfl⟩ := ry; exact PySem.EqNone.ne_none_str (fin_bl I q (by simp))
    | _ => exact absurd (show false = true from hs) Bool.false_ne_true
  | bl i =>
    cases rx
    cases y with
    | non => cases ry; exact PySem.EqNone.ne_bool_none (fin_bl I q (by simp))
    | bl j => cases ry; exact ne_bool (fin_bl I q (congrArg not dec_bl))
    | str j => obtain ⟨t', rfl⟩ := ry; exact PySem.EqMixed.ne_bool_str (fin_bl I q (by simp))
    | _ => exact absurd (show false = true from hs) Bool.false_ne_true
  | int i =>
    obtain ⟨t, rfl⟩ := rx
    cases y with
    | non => cases ry; exact PySem.EqNone.ne_int_none (fin_bl I q (by simp))
    | int j => obtain ⟨t', rfl⟩ := ry; exact ne_int (fin_bl I q (congrArg not dec_int))
    | str j => obtain ⟨t', rfl⟩ := ry; exact PySem.EqMixed.ne_int_str (fin_bl I q (by simp))
    | _ => exact absurd (show false = true from hs) Bool.false_ne_true
  | str i =>
    obtain ⟨t, rfl⟩ := rx
    cases y with
    | non => cases ry; exact PySem.EqNone.ne_str_none (fin_bl I q (by simp))
    | bl j => cases ry; exact PySem.EqMixed.ne_str_bool (fin_bl I q (by simp))
    | int j => obtain ⟨t', rfl⟩ := ry; exact PySem.EqMixed.ne_str_int (fin_bl I q (by simp))
    | str j => obtain ⟨t', rfl⟩ := ry; exact ne_str (fin_bl I q (congrArg not dec_str))
    | _ => exact absurd (show false = true from hs) Bool.false_ne_true
  | byt i =>
    obtain ⟨t, rfl⟩ := rx
    cases y with
    | byt j => obtain ⟨t', rfl⟩ := ry; exact PySem.W.ne_bytes (fin_bl I q (congrArg not dec_byt))
    | _ => exact absurd (show false = true from hs) Bool.false_ne_true
  | _ => cases y <;> exact absurd (show false = true from hs) Bool.false_ne_true

theorem op_lt : OpR X (compareOp .Lt) (rI0 fun i j => .bl (decide (i < j))) := opB0 fun _ _ _ _ _ _ _ q => lt_int q
theorem op_gt : OpR X (compareOp .Gt) (rI0 fun i j => .bl (decide (j < i))) := opB0 fun _ _ _ _ _ _ _ q => gt_int q
theorem op_ge : OpR X (compareOp .GtE) (rI0 fun i j => .bl (decide (j ≤ i))) := opB0 fun _ _ _ _ _ _ _ q => ge_int q
/-- is, is not of two objects that are tracked lists or instances -/
def isObj : HO → Bool
  | .lst _ => true
  | .ins _ _ _ => true
  | _ => false
theorem nomark (b : Expr) {op : CmpOp} (h : op ≠ .In := by decide) (h2 : op ≠ .NotIn := by decide) : behindInMarks op b = false := by
  have e1 : (op == CmpOp.In) = false := by cases op <;> first | rfl | exact absurd rfl h
  have e2 : (op == CmpOp.NotIn) = false := by cases op <;> first | rfl | exact absurd rfl h2
  cases b <;> simp [behindInMarks, e1, e2]
/-- a comparison as a value; hm: nomark b, or (for in, not in) by with_unfolding_all rfl -/
theorem pe_cmpR {op : CmpOp} {r : R2} (ho : OpR X (compareOp op) r) (ha : PE X a ta) (hb : PE X b tb) (hm : behindInMarks op b = false) : PE X (.Compare a [op] [b] pos) (tOp r ta tb) := by
  intro pins s σ H Q I h
  exact wpAny_Compare1 (binT ha hb I h fun v u s2 x y H2 I2 rx ry q => ho pins s2 σ H2 x y v u Q I2 rx ry q) hm
/-- a reading of a value as a test -/
def tTest (t : TE) : TT := fun σ H Q => t σ H fun x H' => ∃ k, x = .bl k ∧ Q k H'
theorem pt_cmpR {op : CmpOp} {r : R2} (ho : OpR X (compareOp op) r) (ha : PE X a ta) (hb : PE X b tb) (hm : behindInMarks op b = false) : PT X (.Compare a [op] [b] pos) (tTest (tOp r ta tb)) := by
  intro pins s σ H Q I h
  refine wpAny_isTrue_Compare1 (thn (ha pins s σ H _ I h) fun v s1 ⟨x, H1, I1, r1, q1⟩ => thn (hb pins s1 σ H1 _ I1 q1) fun u s2 ⟨y, H2, I2, r2, q2⟩ =>
    thn (ho pins s2 σ H2 x y v u _ I2 r1 r2 q2) fun c s3 ⟨z, H3, I3, r3, k, e, q3⟩ => ?_) hm
  subst e
  cases r3
  exact wpAny_truthy_bool ⟨H3, I3, q3⟩
/-- a op1 b op2 c -/
def tChain (r r' : R2) (ta tb tc : TE) : TE := fun σ H Q => ta σ H fun x H1 => tb σ H1 fun y H2 => r x y H2 fun z H3 => ∃ k, z = .bl k ∧
  (if k = true then tc σ H3 fun w' H4 => r' y w' H4 Q else Q (.bl false) H3)
/-! ### truth -/
/-- a value's truth by the abstract heap -/
def TruV (K : PySem.W.Frag) (x : V) (H : Hp) (k : Bool) : Prop :=
  match x with
  | .non => k = false
  | .bl b => k = b
  | .int i => k = (i != 0)
  | .str y => y.length ≤ sizeLine ∧ k = ((y.length : Int) != 0)
  | .byt y => y.size ≤ sizeLine ∧ k = ((y.size : Int) != 0)
  | .ref p => (∃ xs, SqL K H p xs ∧ k = !xs.isEmpty) ∨ (∃ xs, SqT K H p xs ∧ k = !xs.isEmpty) ∨ ∃ kvs, H p = some (.dK kvs) ∧ k = !kvs.isEmpty
  | _ => False
theorem line63 : (sizeLine : Nat) < 2 ^ 63 := by rw [sizeLine_eq]; decide
/-! ### strs and bytes -/
def PlainIxT (b : Expr) : Prop := ∀ o i, subscripted b false o i = operate [o, i] (getItem o i)
/-! ### scalar builtins, by CallR -/
theorem vals1 {x : V} {us : List Value} (r : Vals [x] us) : ∃ u, us = [u] ∧ RelV x u := by
  cases r with
  | cons r1 r2 => cases r2; exact ⟨_, rfl, r1⟩
theorem vals2 {x y : V} {us : List Value} (r : Vals [x, y] us) : ∃ u w', us = [u, w'] ∧ RelV x u ∧ RelV y w' := by
  cases r with
  | cons r1 r2 =>
    cases r2 with
    | cons r3 r4 => cases r4; exact ⟨_, _, rfl, r1, r3⟩
theorem call_abs : CallR X (.builtin "abs") (fun xs H Q => ∃ i, xs = [.int i] ∧ Q (.int (if i < 0 then -i else i)) H) := by
  intro pins s σ H xs us Q I r h
  obtain ⟨i, rfl, q⟩ := h
  obtain ⟨u, rfl, t, rfl⟩ := vals1 r
  exact call_abs_int fun u tk => ⟨.int (if i < 0 then -i else i), H, I.tok _, ⟨_, rfl⟩, q⟩
/-- len of a str, a bytes, a list, a tuple -/
def LenV (K : PySem.W.Frag) (x : V) (H : Hp) (n : Nat) : Prop :=
  match x with
  | .str y => y.length ≤ sizeLine ∧ n = y.length
  | .byt y => y.size ≤ sizeLine ∧ n = y.size
  | .ref p => (∃ xs, SqL K H p xs ∧ n = xs.length) ∨ ∃ xs, SqT K H p xs ∧ n = xs.length
  | _ => False
end
end L2

namespace L2
open PySem PySem.Spec PyProof.Rows

/-! ### an instance, its attributes a map -/
structure ObjM (h : Heap) (x dx C : Addr) (mA : Str → Option Value) : Prop where
  obj : h.get? x = some (PySem.W.instObj C dx)
  ns : h.Ns1 dx mA
  ne : dx ≠ x

theorem lookIn_ns {h : Heap} {dx : Addr} {mA : Str → Option Value} (n : h.Ns1 dx mA) : ∃ od, h.get? dx = some od ∧ ∀ name, PySem.W.lookIn name od = some (mA name) := by
  obtain ⟨o, es, ep, ho, hd, hk, _, hm⟩ := n
  refine ⟨o, ho, fun name => ?_⟩
  have e := hm name
  unfold nsFind findBy at e
  rw [← Array.find?_toList] at e
  unfold PySem.W.lookIn
  rw [hd]
  dsimp only
  split
  · rename_i y q
    rw [q] at e
    exact congrArg some e
  · rename_i q
    rw [q] at e
    have a : es.toList.any (·.refKey) = false := by
      rw [List.any_eq_false]
      intro y hy
      obtain ⟨z, t, hkey⟩ := hk y (Array.mem_toList_iff.mp hy)
      simp [DictEntry.refKey, hkey]
    have a' : ¬ es.toList.any (·.refKey) = true := by rw [a]; exact Bool.false_ne_true
    rw [if_neg a']
    exact congrArg some e

theorem ObjM.look {h : Heap} {x dx C : Addr} {mA : Str → Option Value} (I : ObjM h x dx C mA) : ∃ od, PySem.W.InstAt h x (PySem.W.instObj C dx) C (some od) ∧ ∀ name, PySem.W.lookIn name od = some (mA name) :=
  let ⟨od, ho, hl⟩ := lookIn_ns I.ns
  ⟨od, ⟨I.obj, rfl, rfl, ho⟩, hl⟩

section
variable {prog : Program} {w : World} {A : Around} {E : Value → Shared → Prop} {s : Shared} {K : PySem.W.Frag} {x dx C f : Addr} {mA : Str → Option Value} {name : Str} {v : Value}

end

/-! ### the attributes as a list of pairs -/
def putF (f : Str) (v : V) : List (Str × V) → List (Str × V)
  | [] => [(f, v)]
  | (g, x) :: r => if g = f then (g, v) :: r else (g, x) :: putF f v r
section
variable {P : Program} {w : World} {H H' : Hp} {h h' : Heap} {a C dx : Addr} {fs fs' : List (Str × V)}
theorem ins_get (hok : HOk P w H h) (e : H a = some (.ins C dx fs)) : ∃ mA, ObjM h a dx C mA ∧ (∀ f, RelO (fs.lookup f) (mA f)) ∧ PySem.Within mA (fs.map (·.1)) ∧ fs.length ≤ 1000 ∧ H dx = some (.own a) := by
  obtain ⟨d, z, ne, ob, mA, n, r, q⟩ := (show ObjOk P w H h a (.ins C dx fs) from hok a _ e)
  exact ⟨mA, ⟨ob, n, ne⟩, r, q, z, d⟩
end

/-! ### what of the text a class must have -/
structure Cls (K : PySem.W.Frag) (C : Addr) : Prop where
  pg : PySem.W.plainGet K C Str.empty = true
  hd : PySem.W.hasDictIn K C = true
  po : PySem.W.plainOver K C = true
  sa : PySem.W.findIn K (.ref C) "__setattr__" = some (some (.builtin "object.__setattr__"))
theorem Cls.get {K : PySem.W.Frag} {C : Addr} (c : Cls K C) (f : Str) : PySem.W.plainGet K C f = true := c.pg
/-- no class of it has the name -/
def NoAttr (K : PySem.W.Frag) (C : Addr) (f : Str) : Prop := PySem.W.findIn K (.ref C) f = some none
/-- a constant of the class -/
structure Con (K : PySem.W.Frag) (C : Addr) (f : Str) (v : V) (u : Value) : Prop where
  at_ : PySem.W.findIn K (.ref C) f = some (some u)
  rel : RelV v u
  get : PySem.W.specialIn K u "__get__" = some none
  cp : PySem.W.copiedNames.contains f = false
/-- a method: a plain def of the class or of one above it -/
structure Meth (K : PySem.W.Frag) (C : Addr) (m : Str) (f : Addr) : Prop where
  at_ : PySem.W.findIn K (.ref C) m = some (some (.ref f))
  fn : PySem.W.isFn K (.ref f) = true
  kp : PySem.W.keepIn K (.ref f) = true

section
variable {X : Cx} {pins : List (Addr × Obj)} {σ : St} {H : Hp} {s : Shared} {a C dx : Addr} {fs : List (Str × V)} {f : Str} {v : V} {A : Around} {E : Value → Shared → Prop}

end

/-! ### readings and rules -/
/-- e.f, an attribute of the instance -/
def tFld (K : PySem.W.Frag) (ta : TE) (f : Str) : TE := fun σ H Q => ta σ H fun x H1 => ∃ a C dx fs v, x = .ref a ∧ H1 a = some (.ins C dx fs) ∧ Cls K C ∧ NoAttr K C f ∧ fs.lookup f = some v ∧ Q v H1
/-- e.f, a constant of the class -/
def tCon (K : PySem.W.Frag) (ta : TE) (f : Str) : TE := fun σ H Q => ta σ H fun x H1 => ∃ a C dx fs v u, x = .ref a ∧ H1 a = some (.ins C dx fs) ∧ Cls K C ∧ Con K C f v u ∧ fs.lookup f = none ∧ Q v H1
/-- e.f = value -/
def sFld (K : PySem.W.Frag) (ta tv : TE) (f : Str) : TS := fun D σ H => tv σ H fun y H1 => ta σ H1 fun x H2 => ∃ a C dx fs, x = .ref a ∧ H2 a = some (.ins C dx fs) ∧ Cls K C ∧ NoAttr K C f ∧ fs.length < 1000 ∧
  D.nx σ (upd H2 a (.ins C dx (putF f y fs)))
/-- an augmented operator on two values -/
def InOp (X : Cx) (op : Operator) (rd : V → V → Hp → VK → Prop) : Prop :=
  ∀ (pins : List (Addr × Obj)) (s : Shared) (σ : St) (H : Hp) (x y : V) (u v : Value) (Q : VK), Inv X pins σ H s → RelV x u → RelV y v → rd x y H Q → wpAny (model X.prog X.w) X.A (inplaceOp op u v) (EP X pins σ Q) X.xe s
/-- e.f op= value -/
def sFldAug (K : PySem.W.Frag) (ta tv : TE) (rd : V → V → Hp → VK → Prop) (f : Str) : TS := fun D σ H => ta σ H fun x H1 => ∃ a C dx fs v, x = .ref a ∧ H1 a = some (.ins C dx fs) ∧ Cls K C ∧ NoAttr K C f ∧ fs.lookup f = some v ∧
  tv σ H1 fun y H2 => rd v y H2 fun z H3 => ∃ dx' fs', H3 a = some (.ins C dx' fs') ∧ fs'.length < 1000 ∧ D.nx σ (upd H3 a (.ins C dx' (putF f z fs')))

section
variable {X : Cx} {o e value : Expr} {f : Str} {pos pos' tpos : Pos} {ta tv : TE}
def rAdd : V → V → Hp → VK → Prop := fun x y H Q => ∃ i j, x = .int i ∧ y = .int j ∧ Q (.int (i + j)) H
def rSub : V → V → Hp → VK → Prop := fun x y H Q => ∃ i j, x = .int i ∧ y = .int j ∧ Q (.int (i - j)) H
end

/-! ### isinstance -/
section
variable {X : Cx} {pins : List (Addr × Obj)} {σ : St} {H : Hp} {s : Shared} {A : Around} {E : Value → Shared → Prop} {Q : Value → Shared → Prop} {c : Value} {b : Bool}
/-- the type of a value, as the fragment's deciders take it; for an instance its class -/
inductive TyOf (K : PySem.W.Frag) (H : Hp) : V → Value → Prop where
  | non : TyOf K H .non (.type "NoneType")
  | bl (x : Bool) : TyOf K H (.bl x) (.type "bool")
  | int (i : Int) : TyOf K H (.int i) (.type "int")
  | str (x : Str) : TyOf K H (.str x) (.type "str")
  | flt (x : UInt64) : TyOf K H (.flt x) (.type "float")
  | lst {a : Addr} {xs : List V} (e : H a = some (.lst xs)) : TyOf K H (.ref a) (.type "list")
  | frz {a : Addr} {o : Obj} {xs : List V} (e : H a = some (.frz o (.lst xs))) : TyOf K H (.ref a) (.type "list")
  | tup {a : Addr} {xs : List V} (e : H a = some (.tup xs)) : TyOf K H (.ref a) (.type "tuple")
  | dK {a : Addr} {kvs : List (Key × V)} (e : H a = some (.dK kvs)) : TyOf K H (.ref a) (.type "dict")
  | dT {a : Addr} {kvs : List (List Key × V)} (e : H a = some (.dT kvs)) : TyOf K H (.ref a) (.type "dict")
  | ins {a C dx : Addr} {fs : List (Str × V)} (e : H a = some (.ins C dx fs)) (cl : Cls K C) (ha : PySem.W.findIn K (.ref C) "__class__" = some (some (.builtin "object.__class__")))
      (hn : PySem.W.specialIn K (.builtin "object.__class__") "__get__" = some (some (.builtin "getset_descriptor.__get__"))) (htk : PySem.W.takesIn K (.builtin "object.__class__") = some true)
      (hm : PySem.W.mroIn K C (.type "object") = some true) : TyOf K H (.ref a) (.ref C)
/-- isinstance(x, c) for one class c, a built-in or an own one: kitOne's answer -/
theorem isinst_ok {x : V} {u t : Value} (I : Inv X pins σ H s) (rx : RelV x u) (ty : TyOf X.K H x t) (e : PySem.W.kitOne X.K t c = some b) (h : ∀ tk, Q (.bool b) { s with toks := tk }) :
    wpAny (model X.prog X.w) A (call (.builtin "isinstance") [u, c]) Q E s := by
  cases ty with
  | non => cases (show u = Value.none from rx); exact PySem.W.kia_one PySem.W.kitx_none I.kIn True.intro e (fun z => nomatch z) h
  | bl y => cases (show u = Value.bool y from rx); exact PySem.W.kia_one PySem.W.kitx_bool I.kIn True.intro e (fun z => nomatch z) h
  | int i => obtain ⟨t, q⟩ := (show ∃ t, u = Value.int i t from rx); cases q; exact PySem.W.kia_one PySem.W.kitx_int I.kIn True.intro e (fun z => nomatch z) h
  | str y => obtain ⟨t, q⟩ := (show ∃ t, u = Value.str y t from rx); cases q; exact PySem.W.kia_one PySem.W.kitx_str I.kIn True.intro e (fun z => nomatch z) h
  | flt y => obtain ⟨t, q⟩ := (show ∃ t, u = Value.float y t from rx); cases q; exact PySem.W.kia_one PySem.W.kitx_float I.kIn True.intro e (fun z => nomatch z) h
  | @lst a xs ea =>
    cases (show u = Value.ref a from rx)
    obtain ⟨_, _, n, _, h1⟩ := (show ObjOk X.prog X.w H s.heap a (.lst xs) from I.hok a _ ea)
    exact PySem.W.kia_one PySem.W.kitx_list I.kIn ⟨_, h1, rfl⟩ e (fun z => nomatch z) h
  | @frz a ob xs ea =>
    cases (show u = Value.ref a from rx)
    obtain ⟨_, _, _, n, _, h1⟩ := (show ObjOk X.prog X.w H s.heap a (.frz ob (.lst xs)) from I.hok a _ ea)
    exact PySem.W.kia_one PySem.W.kitx_list I.kIn ⟨_, h1, rfl⟩ e (fun z => nomatch z) h
  | @tup a xs ea =>
    cases (show u = Value.ref a from rx)
    obtain ⟨_, _, _, p⟩ := (show ObjOk X.prog X.w H s.heap a (.tup xs) from I.hok a _ ea)
    obtain ⟨o, h1, h2, _⟩ := p
    exact PySem.W.kia_one PySem.W.kitx_tuple I.kIn ⟨o, h1, h2⟩ e (fun z => nomatch z) h
  | @dK a kvs ea =>
    cases (show u = Value.ref a from rx)
    obtain ⟨_, _, vs, _, p⟩ := (show ObjOk X.prog X.w H s.heap a (.dK kvs) from I.hok a _ ea)
    obtain ⟨o, es, ep, h1, h2, _⟩ := p
    exact PySem.W.kia_one PySem.W.kitx_dict I.kIn ⟨o, h1, h2.1⟩ e (fun z => nomatch z) h
  | @dT a kvs ea =>
    cases (show u = Value.ref a from rx)
    obtain ⟨_, _, xs, _, o, es, ep, h1, h2, _⟩ := (show ObjOk X.prog X.w H s.heap a (.dT kvs) from I.hok a _ ea)
    exact PySem.W.kia_one PySem.W.kitx_dict I.kIn ⟨o, h1, h2.1⟩ e (fun z => nomatch z) h
  | @ins a C dx fs ea cl ha hn htk hm =>
    cases (show u = Value.ref a from rx)
    obtain ⟨mA, O, _⟩ := ins_get I.hok ea
    obtain ⟨od, J, _⟩ := O.look
    exact PySem.W.kia_one (PySem.W.kitx_own (cl.get _) cl.hd ha hn htk hm) I.kIn J e (fun z => nomatch z) h
end
end L2

namespace L2
open PySem PySem.Spec PyProof.Rows

/-! ### room -/
structure Room (k : Nat) (A : Around) : Prop where
  hd : A.handled = none
  dp : A.depth + 3 * k + 5 < recursionLimit
  un : A.units + 16 * k + 200 < cLine
theorem Room.mono {j k : Nat} {A : Around} (r : Room k A) (h : j ≤ k) : Room j A := ⟨r.hd, by have := r.dp; omega, by have := r.un; omega⟩
theorem Room.deeper {k : Nat} {A : Around} (r : Room (k + 1) A) (env : Env) : Room k (A.deeper env) :=
  ⟨r.hd, by have := r.dp; show A.depth + 1 + 3 * k + 5 < _; omega, by have := r.un; show A.units + 3 + 16 * k + 200 < _; omega⟩
theorem Room.depth {k : Nat} {A : Around} (r : Room k A) : A.depth < recursionLimit := by have := r.dp; omega
theorem Room.units {k : Nat} {A : Around} (r : Room k A) : A.units + 64 < cLine := by have := r.un; omega
/-! ### argument lists and displays -/
def tNil : TA := fun _ H Q => Q [] H
def tCons (ta : TE) (tr : TA) : TA := fun σ H Q => ta σ H fun x H1 => tr σ H1 fun xs H2 => Q (x :: xs) H2
section
variable {X : Cx} {e : Expr} {es : List Expr} {te : TE} {t : TA} {pos : Pos}
theorem pa_nil : PA X [] tNil := fun _ _ _ _ H Q I h => Calls.spliced_nil ⟨[], H, I, .nil, h⟩
theorem pa_cons (ha : PE X e te) (hr : PA X es t) (hs : starEach (e :: es) X.env = (false, eval e X.env) :: starEach es X.env := by rfl) : PA X (e :: es) (tCons te t) := by
  intro pos pins s σ H Q I h
  rw [hs]
  show wpAny _ _ (spliced ((false, eval e X.env) :: backTo pos (starEach es X.env))) _ _ s
  refine Calls.spliced_cons (thn (ha pins s σ H _ I h) fun u s1 ⟨x, H1, I1, r1, q1⟩ => ?_)
  exact thn (hr pos pins s1 σ H1 _ I1 q1) fun us s2 ⟨xs, H2, I2, r2, q2⟩ => ⟨x :: xs, H2, I2, .cons r1 r2, q2⟩

/-- a tuple, a list of written items -/
def tTup (t : TA) : TE := fun σ H Q => t σ H fun xs H1 => xs.length ≤ sizeLine ∧ ∀ p, H1 p = none → Q (.ref p) (upd H1 p (.tup xs))
def tLst (t : TA) : TE := fun σ H Q => t σ H fun xs H1 => xs.length ≤ sizeLine ∧ ∀ p, H1 p = none → Q (.ref p) (upd H1 p (.lst xs))
theorem pe_tup {x1} (h : PA X es t) : PE X (.Tuple es x1 pos) (tTup t) := by
  intro pins s σ H Q I hq
  refine wpAny_Tuple_spliced (thn (h pos pins s σ H _ I hq) fun us s1 ⟨xs, H1, I1, r, z, q⟩ => ⟨by rw [← r.length]; exact z, ?_⟩)
  have hf : H1 s1.heap.objs.size = none := I1.hok.fresh (Nat.le_refl _)
  refine ⟨.ref s1.heap.objs.size, upd H1 s1.heap.objs.size (.tup xs), I1.laid (t' := s1.toks) (fun b u e => Heap.get?_push_of_some _ e) (Nat.le_refl _) ?_, rfl, q _ hf⟩
  exact ⟨z, us, r, ⟨_, Heap.get?_push_size _ rfl, rfl, _, rfl⟩⟩
theorem pe_lst (h : PA X es t) : PE X (.List es pos) (tLst t) := by
  intro pins s σ H Q I hq
  refine wpAny_List_spliced (thn (h pos pins s σ H _ I hq) fun us s1 ⟨xs, H1, I1, r, z, q⟩ => ⟨by rw [← r.length]; exact z, ?_⟩)
  have hf : H1 s1.heap.objs.size = none := I1.hok.fresh (Nat.le_refl _)
  refine ⟨.ref s1.heap.objs.size, upd H1 s1.heap.objs.size (.lst xs), I1.laid (t' := s1.toks) (fun b u e => Heap.get?_push_of_some _ e) (Nat.le_refl _) ?_, rfl, q _ hf⟩
  exact ⟨z, us, 0, r, Heap.get?_push_size _ rfl⟩
end

/-! ### what a def promises -/
/-- a def's promise: the bound arguments in the parameters' order, the heap, the wanted end, the wanted exception -/
abbrev Sp := List V → Hp → VK → XK → Prop
/-- how an exception lies behind a call (file 08 gives it): the callers' frames, abstract heap and state ahead of the call, the wish, the exception, the state -/
abbrev CXT := List Env → Hp → Shared → XK → Value → Shared → Prop

/-- the state at a call -/
structure Env0 (P : Program) (w : World) (K : PySem.W.Frag) (mg : Str → Option Value) (base : Heap) (A : Around) (outer : List Env) (s : Shared) (H : Hp) : Prop where
  frames : A.frames = some outer
  mod : Mod K mg base
  bs : ∀ b o, base.get? b = some o → s.heap.get? b = some o ∧ H b = none
  bsz : base.objs.size ≤ s.heap.objs.size
  funs : s.heap.FunFrames base outer
  frf : ∀ b ∈ frs outer, H b = none
  hok : HOk P w H s.heap
  bare : AllBare s.gens
/-- a call's end -/
def CE (outer : List Env) (P : Program) (w : World) (H : Hp) (s : Shared) (Q : VK) (u : Value) (s' : Shared) : Prop :=
  ∃ v H', s'.os = s.os ∧ AllBare s'.gens ∧ Un (frs outer) [] H H' s.heap s'.heap ∧ HOk P w H' s'.heap ∧ RelV v u ∧ Q v H'
def CR (CX : CXT) (outer : List Env) (P : Program) (w : World) (H : Hp) (s : Shared) (Q : VK) (E : XK) (r : Result) (s' : Shared) : Prop :=
  match r with
  | .ok (.ret u) => CE outer P w H s Q u s'
  | .ok _ => False
  | .error e => CX outer H s E e s'
structure FnOk (P : Program) (w : World) (K : PySem.W.Frag) (mg : Str → Option Value) (base : Heap) (CX : CXT) (k : Nat) (f : Addr) (fd : FuncData) (ps : List Str) (sp : Sp) : Prop where
  len : ∀ vs H Q E, sp vs H Q E → vs.length = ps.length
  run : ∀ (A : Around) (outer : List Env) (s : Shared) (H : Hp) (args : Args) (us : List Value) (vs : List V) (Q : VK) (E : XK), Room k A → Env0 P w K mg base A outer s H → BindsTo s fd args (ps.zip us) → Vals vs us → sp vs H Q E →
    codeAny (model P w) A (.call (.ref f) args) (CR CX outer P w H s Q E) s
section
variable {X : Cx} {pins : List (Addr × Obj)} {σ : St} {H : Hp} {s s' : Shared}
/-- from a body: what a callee wants -/
theorem Inv.env0 (I : Inv X pins σ H s) : Env0 X.prog X.w X.K X.mg X.base X.A X.stack s H :=
  ⟨I.ok.frames, I.ok.mod, I.bs, Nat.le_trans I.ok.bsz I.sz, I.stack, I.stkFree, I.hok, I.bare⟩
/-- behind a call -/
theorem Inv.after {Q : VK} {u : Value} (I : Inv X pins σ H s) (h : CE X.stack X.prog X.w H s Q u s') : EP X pins σ Q u s' := by
  obtain ⟨v, H', os, bare, un, hok, r, q⟩ := h
  obtain ⟨hh, g, d, t, os'⟩ := s'
  obtain rfl : os' = s.os := os
  exact ⟨v, H', I.call (h' := hh) (g' := g) (d' := d) (t' := t) (ch := []) un hok bare (fun b z => absurd z (by simp)), r, q⟩
end

/-! ### calls -/
/-- f(..): the written arguments, then the defaults dvs; E: what is wanted of an exception -/
def tCall (sp : Sp) (dvs : List V) (E : XK) (t : TA) : TE := fun σ H Q => t σ H fun vs H1 => sp (vs ++ dvs) H1 Q E
/-- o.m(..) of an instance of the class at C -/
def tMeth (C : Addr) (m : Str) (sp : Sp) (dvs : List V) (E : XK) (ta : TE) (t : TA) : TE := fun σ H Q => ta σ H fun x H1 => ∃ a dx fs, x = .ref a ∧ H1 a = some (.ins C dx fs) ∧ fs.lookup m = none ∧
  t σ H1 fun vs H2 => sp (x :: (vs ++ dvs)) H2 Q E
/-- C(..): a new instance and its dict, then __init__ -/
def tMake (C : Addr) (sp : Sp) (dvs : List V) (E : XK) (t : TA) : TE := fun σ H Q => t σ H fun vs H1 => ∀ x dx, H1 x = none → H1 dx = none → dx ≠ x →
  sp (.ref x :: (vs ++ dvs)) (upd (upd H1 dx (.own x)) x (.ins C dx [])) (fun v H2 => v = .non ∧ Q (.ref x) H2) E

/-- how the parameters are bound: us the positional arguments, kw the keywords' values by name, ds the defaults that fill up -/
def Binds (K : PySem.W.Frag) (fd : FuncData) (ps : List Str) (ds : List Value) : Prop :=
  ∀ (s : Shared) (us : List Value), K.In s.heap → (us ++ ds).length = ps.length → BindsTo s fd ⟨us, []⟩ (ps.zip (us ++ ds))
/-- every parameter is given -/
theorem Binds.all {K : PySem.W.Frag} {fd : FuncData} {ps : List Str} (h : ∀ us : List Value, us.length = ps.length → bindArgs fd ⟨us, []⟩ = pure (ps.zip us)) : Binds K fd ps [] := fun s us _ hl => by
  rw [List.append_nil] at hl ⊢
  exact .of_eq (h us hl)

/-- an exception of a callee reaches what this body wants of exceptions -/
def Passes (CX : CXT) (X : Cx) (E : XK) : Prop := ∀ (pins : List (Addr × Obj)) (σ : St) (H : Hp) (s : Shared) (e : Value) (s' : Shared), Inv X pins σ H s → CX X.stack H s E e s' → X.xe e s'

section
variable {X : Cx} {CX : CXT} {k : Nat} {f C : Addr} {fd : FuncData} {ps : List Str} {sp : Sp} {dvs : List V} {ds : List Value} {E : XK} {x m : Str} {p pos apos : Pos} {e o : Expr} {es : List Expr} {ta : TE} {t : TA}

/-- the callee runs -/
theorem run_fn {pins : List (Addr × Obj)} {σ : St} {H : Hp} {s : Shared} {Q : VK} {us : List Value} {vs : List V} (F : FnOk X.prog X.w X.K X.mg X.base CX k f fd ps sp) (hr : Room k X.A) (hb : Binds X.K fd ps ds) (hd : Vals dvs ds) (hx : Passes CX X E)
    (I : Inv X pins σ H s) (r : Vals vs us) (h : sp (vs ++ dvs) H Q E) : wpAny (model X.prog X.w) X.A (call (.ref f) us) (EP X pins σ Q) X.xe s := by
  have r2 : Vals (vs ++ dvs) (us ++ ds) := r.append hd
  have hl : (us ++ ds).length = ps.length := by rw [← r2.length]; exact F.len _ _ _ _ h
  refine wpAny_call (codeAny_mono (F.run X.A X.stack s H ⟨us, []⟩ (us ++ ds) (vs ++ dvs) Q E hr I.env0 (hb s us I.kIn hl) r2 h) fun r s' hq => ?_)
  cases r with
  | error e => exact hx pins σ H s e s' I hq
  | ok fl =>
    cases fl with
    | ret u => exact I.after hq
    | next => exact False.elim hq
    | brk => exact False.elim hq
    | cont => exact False.elim hq

theorem pe_call (F : FnOk X.prog X.w X.K X.mg X.base CX k f fd ps sp) (hr : Room k X.A) (hg : Gl X x) (hm : X.mg x = some (.ref f)) (hk : PySem.W.keepIn X.K (.ref f) = true) (hb : Binds X.K fd ps ds) (hd : Vals dvs ds) (hx : Passes CX X E)
    (ha : PA X (e :: es) t) (hdb : (x == ("__debug__" : Str)) = false := by decide) (he : starEach (e :: es) X.env = (false, eval e X.env) :: starEach es X.env := by rfl) (hpl : (backTo pos (starEach es X.env)).any (·.1) = false := by rfl) :
    PE X (.Call (.Name x p) (e :: es) [] pos) (tCall sp dvs E t) := by
  intro pins s σ H Q I h
  refine wpAny_Call_Name_kw (ld_glob I hg hm ?_ hdb)
  refine PySem.W.callWith_K (h₀ := X.base) I.ok.mod.kin hk (thn (ha pos pins s σ H _ I h) fun us s1 ⟨vs, H1, I1, r, q⟩ => ⟨I1.kIn, ?_⟩) he hpl
  exact run_fn F hr hb hd hx I1 r q
/-- what a class must have to be made -/
structure Mk (K : PySem.W.Frag) (C f : Addr) : Prop where
  makes : PySem.W.makesIn K C = true
  init : PySem.W.findIn K (.ref C) "__init__" = some (some (.ref f))
  fn : PySem.W.isFn K (.ref f) = true
  kp : PySem.W.keepIn K (.ref C) = true

end

/-! ### keywords -/
/-- the values of the keywords, from the left -/
def PK (X : Cx) (kws : List Keyword) (t : TA) : Prop :=
  ∀ (pos : Pos) (pins : List (Addr × Obj)) (s : Shared) (σ : St) (H : Hp) (Q : List V → Hp → Prop), Inv X pins σ H s → t σ H Q → wpAny (model X.prog X.w) X.A (evalAll ((backToKw pos (keywordEach kws X.env)).map (·.2))) (AP X pins σ Q) X.xe s
section
variable {X : Cx} {CX : CXT} {k : Nat} {f C : Addr} {fd : FuncData} {ps ks : List Str} {sp : Sp} {E : XK} {x m : Str} {p pos apos kpos : Pos} {e o : Expr} {es : List Expr} {kws : List Keyword} {te ta : TE} {t tk : TA} {nm : Option Str}
/-- how a call with keywords binds: g puts the positional values us and the keywords' values ws (names ks) in the parameters' order, defaults among them -/
structure KBinds (K : PySem.W.Frag) (fd : FuncData) (ps ks : List Str) (g : List Value → List Value → List Value) (gV : List V → List V → List V) : Prop where
  to : ∀ (s : Shared) (us ws : List Value), K.In s.heap → (g us ws).length = ps.length → BindsTo s fd ⟨us, ks.zip ws⟩ (ps.zip (g us ws))
  rel : ∀ {vs : List V} {us : List Value} {zs : List V} {ws : List Value}, Vals vs us → Vals zs ws → Vals (gV vs zs) (g us ws)
def tCallK (sp : Sp) (gV : List V → List V → List V) (E : XK) (t tk : TA) : TE := fun σ H Q => t σ H fun vs H1 => tk σ H1 fun zs H2 => sp (gV vs zs) H2 Q E
variable {g : List Value → List Value → List Value} {gV : List V → List V → List V}
end

/-! ### a def's body keeps its promise -/
/-- names: the parameters first -/
structure FnScope (N P : List Str) (sc : Scope) : Prop where
  kind : sc.kind = .function
  co : sc.isCoroutine = false
  gen : sc.isGenerator = false
  nd : N.Nodup
  pre : N.take P.length = P
  par : ∀ x ∈ P, sc.names.lookup x = some .local ∨ sc.names.lookup x = some .cell
  nofree : ∀ y ∈ sc.names, y.2 ≠ .free

theorem bindL_out {kindOf : Str → Option NameKind} {x : Str} : ∀ {binds : List (Str × Value)} {m : Str → Option Value}, (∀ v, (x, v) ∉ binds) → bindL kindOf binds m x = m x
  | [], _, _ => rfl
  | (n, v) :: r, m, h => by
    unfold bindL
    rw [bindL_out fun w hw => h w (List.mem_cons_of_mem _ hw)]
    split
    · have : x ≠ n := by rintro rfl; exact h v List.mem_cons_self
      simp [this]
    · rfl
theorem bindC_out {kindOf : Str → Option NameKind} {x : Str} : ∀ {binds : List (Str × Value)} {m : Str → Option Value}, (∀ v, (x, v) ∉ binds) → bindC kindOf binds m x = m x
  | [], _, _ => rfl
  | (n, v) :: r, m, h => by
    unfold bindC
    rw [bindC_out fun w hw => h w (List.mem_cons_of_mem _ hw)]
    split
    · rfl
    · have : x ≠ n := by rintro rfl; exact h v List.mem_cons_self
      simp [this]
theorem bindL_get {kindOf : Str → Option NameKind} {x : Str} {v : Value} : ∀ {P : List Str} {vs : List Value} {i : Nat} {m : Str → Option Value}, P.Nodup → P[i]? = some x → vs[i]? = some v → kindOf x = some .local →
    bindL kindOf (P.zip vs) m x = some v
  | [], _, _, _, _, h, _, _ => by simp at h
  | _ :: _, [], _, _, _, _, h, _ => by simp at h
  | p :: P, w :: vs, 0, m, nd, h1, h2, hk => by
    simp at h1 h2; subst h1; subst h2
    show bindL kindOf ((p, w) :: P.zip vs) m p = _
    unfold bindL
    rw [bindL_out fun v hv => (List.nodup_cons.mp nd).1 (List.of_mem_zip hv).1, if_pos hk]
    simp
  | p :: P, w :: vs, i + 1, m, nd, h1, h2, hk => by
    show bindL kindOf ((p, w) :: P.zip vs) m x = _
    unfold bindL
    exact bindL_get (i := i) (List.nodup_cons.mp nd).2 (by simpa using h1) (by simpa using h2) hk
theorem bindC_get {kindOf : Str → Option NameKind} {x : Str} {v : Value} : ∀ {P : List Str} {vs : List Value} {i : Nat} {m : Str → Option Value}, P.Nodup → P[i]? = some x → vs[i]? = some v → kindOf x ≠ some .local →
    bindC kindOf (P.zip vs) m x = some v
  | [], _, _, _, _, h, _, _ => by simp at h
  | _ :: _, [], _, _, _, _, h, _ => by simp at h
  | p :: P, w :: vs, 0, m, nd, h1, h2, hk => by
    simp at h1 h2; subst h1; subst h2
    show bindC kindOf ((p, w) :: P.zip vs) m p = _
    unfold bindC
    rw [bindC_out fun v hv => (List.nodup_cons.mp nd).1 (List.of_mem_zip hv).1, if_neg hk]
    simp
  | p :: P, w :: vs, i + 1, m, nd, h1, h2, hk => by
    show bindC kindOf ((p, w) :: P.zip vs) m x = _
    unfold bindC
    exact bindC_get (i := i) (List.nodup_cons.mp nd).2 (by simpa using h1) (by simpa using h2) hk

/-- the names' values at the entry -/
def start (N : List Str) (vs : List V) : St := vs.map some ++ List.replicate (N.length - vs.length) none

/-- the context of a def's body, at its entry; an exception leaves the frame, then lies as CX says -/
def cxOf (CX : CXT) (P : Program) (w : World) (K : PySem.W.Frag) (mg : Str → Option Value) (base : Heap) (N : List Str) (qual : Str) (scope : Scope) (f : Addr) (cd : Value) (A : Around) (outer : List Env) (s : Shared) (H : Hp) (E : XK) : Cx where
  prog := P
  w := w
  K := K
  mg := mg
  base := base
  A := A.deeper (envOfC qual scope s.heap.objs.size f cd)
  N := N
  s₀ := s
  H₀ := H
  env := envOfC qual scope s.heap.objs.size f cd
  outer := outer
  stack := envOfC qual scope s.heap.objs.size f cd :: outer
  ex := []
  calm := true
  fn := fun _ => true
  pn := []
  xe := fun e s' => wpAny (model P w) (A.deeper (envOfC qual scope s.heap.objs.size f cd)) (leaving (envOfC qual scope s.heap.objs.size f cd) e) (fun _ s'' => CX outer H s E e s'') (fun e' s'' => CX outer H s E e' s'') s'

theorem cell_has {sc : Scope} {n : Nat} {x : Str} (h : sc.names.lookup x = some .cell) : ∃ c, (cellsFrom n sc.names []).lookup x = some c := by
  have q := PySem.W.cellsFrom_some sc.names n [] (.inl h)
  exact Option.isSome_iff_exists.mp q

theorem inv_start {CX : CXT} {P : Program} {w : World} {K : PySem.W.Frag} {mg : Str → Option Value} {base : Heap} {N ps : List Str} {qual : Str} {scope : Scope} {f : Addr} {cd : Value} {A : Around} {outer : List Env} {s s1 : Shared} {H : Hp} {E : XK} {us : List Value} {vs : List V}
    (S : FnScope N ps scope) (hd : A.handled = none) (e0 : Env0 P w K mg base A outer s H) (hl : vs.length = ps.length) (r : Vals vs us)
    (x : InCallC s s.heap.objs.size (bindL (envOfC qual scope s.heap.objs.size f cd).kindOf (ps.zip us) fun _ => none) (cellsFrom (s.heap.objs.size + 1) scope.names []) (bindC (envOfC qual scope s.heap.objs.size f cd).kindOf (ps.zip us) fun _ => none) s1) :
    Inv (cxOf CX P w K mg base N qual scope f cd A outer s H E) [] (start N vs) H s1 := by
  have hpl : ps.length ≤ N.length := by have := congrArg List.length S.pre; rw [List.length_take] at this; omega
  obtain ⟨h1, tk, rfl, hk⟩ := x.done
  have noA : ∀ b : Addr, b ∉ (cxOf CX P w K mg base N qual scope f cd A outer s H E).ex := fun b z => absurd (show b ∈ ([] : List Addr) from z) (by simp)
  refine ⟨⟨e0.mod, S.kind, rfl, rfl, Nat.le_refl _, fun y z c h1 h2 => ?_, fun y hy => ?_, fun y c _ h => ?_, fun _ => hd, Around.frames_deeper e0.frames, .inr ⟨rfl, rfl⟩, fun b z => absurd z (noA b), e0.bs, e0.bsz, fun b _ _ => noA b, fun b z => absurd z (noA b), e0.funs, e0.frf⟩,
    rfl, e0.bare, Un.kept hk, ⟨_, x.toInCall.ns, fun i y v h1 h2 h3 => ?_⟩, fun y c h => ⟨_, x.cell y c h⟩, e0.hok.fresh (Nat.le_refl _), fun y c h => ?_, fun p hp => absurd (show p ∈ ([] : List (Addr × Obj)) from hp) (by simp), e0.hok.kept hk, ?_⟩
  · exact name_of_addr x.apart (PySem.mem_of_lookup h1) (PySem.mem_of_lookup h2)
  · have hy : scope.names.lookup y = some .cell ∨ scope.names.lookup y = some .free := hy
    rcases hy with hy | hy
    · exact cell_has hy
    · exact absurd rfl (S.nofree _ (PySem.mem_of_lookup hy))
  · exact Nat.le_of_lt (x.above y c (PySem.mem_of_lookup h))
  · have hi : i < vs.length := by
      unfold start at h2
      by_cases hi : i < vs.length
      · exact hi
      · rw [List.getElem?_append_right (by simpa using hi)] at h2
        rw [List.getElem?_replicate] at h2
        split at h2 <;> cases h2
    have ha : vs[i]? = some v := by
      unfold start at h2
      rw [List.getElem?_append_left (by simpa using hi), List.getElem?_map] at h2
      cases e : vs[i]? with
      | none => rw [e] at h2; cases h2
      | some a => rw [e] at h2; cases h2; rfl
    obtain ⟨u, hu, rv⟩ := r.get ha
    have hp : ps[i]? = some y := by
      rw [← S.pre, List.getElem?_take_of_lt (by omega)]; exact h1
    have ndP : ps.Nodup := by rw [← S.pre]; exact S.nd.sublist (List.take_sublist _ _)
    refine ⟨u, rv, ?_⟩
    rcases S.par y (List.mem_of_getElem? hp) with k | k
    · exact .inl ⟨k, bindL_get ndP hp hu k⟩
    · obtain ⟨c, e⟩ := cell_has (n := s.heap.objs.size + 1) k
      refine .inr ⟨.inl k, c, e, ?_⟩
      have q := x.cell y c e
      rw [bindC_get ndP hp hu (by show scope.names.lookup y ≠ _; rw [k]; decide)] at q
      exact q
  · exact e0.hok.fresh (Nat.le_of_lt (x.above y c (PySem.mem_of_lookup h)))
  · unfold start
    show _ = N.length
    rw [List.length_append, List.length_map, List.length_replicate]
    omega

/-- THE RULE: a def (or a method) of the text, by its body. The body's reading t is chosen for each entry; it is run at the parameters' values -/
theorem fn_of {CX : CXT} {P : Program} {w : World} {K : PySem.W.Frag} {mg : Str → Option Value} {base : Heap} {k : Nat} {f : Addr} {name qual : Str} {params : Arguments} {body : List Stmt} {scope : Scope} {dV kV doc pm cdv ct oc : Value} {an od : Option Addr}
    {osl : Array (Option Value)} {N ps : List Str} {sp : Sp} (lk : K.lookup f = some ⟨oc, od, .func (PySem.W.fnOf name qual params body scope dV kV doc pm an cdv ct), osl⟩) (hcd : PySem.W.codeIn K cdv qual = true) (S : FnScope N ps scope)
    (len : ∀ vs H Q E, sp vs H Q E → vs.length = ps.length)
    (hbody : ∀ (A : Around) (outer : List Env) (s : Shared) (H : Hp) (vs : List V) (Q : VK) (E : XK), Room k (A.deeper (envOfC qual scope s.heap.objs.size f cdv)) → sp vs H Q E →
      ∃ t, PSs (cxOf CX P w K mg base N qual scope f cdv A outer s H E) body t ∧ t { nx := fun _ H' => Q .non H', rt := Q } (start N vs) H) :
    FnOk P w K mg base CX (k + 1) f (PySem.W.fnOf name qual params body scope dV kV doc pm an cdv ct) ps sp := by
  refine ⟨len, fun A outer s H args us vs Q E hr e0 hb r hsp => ?_⟩
  have hl := len _ _ _ _ hsp
  have KX : K.In s.heap := e0.mod.kin.keeps fun b o e => (e0.bs b o e).1
  have lim : s.heap.NoLimit := e0.mod.nolimit.keeps fun b o e => (e0.bs b o e).1
  have hkind : ∀ y ∈ ps.zip us, scope.names.lookup y.1 = some .local ∨ (scope.names.lookup y.1 = some .cell ∧ ((cellsFrom (s.heap.objs.size + 1) scope.names []).lookup y.1).isSome = true) := fun ⟨n, v⟩ hy => by
    rcases S.par n (List.of_mem_zip hy).1 with q | q
    · exact .inl q
    · exact .inr ⟨q, PySem.W.cellsFrom_some _ _ _ (.inl q)⟩
  refine codeAny_call_function hr.depth (KX _ _ lk) rfl S.co S.gen rfl (PySem.W.codeRec_of KX hcd) (hb _ _ _ _ ?_)
  refine wpAny_newFunctionEnv_cells S.kind hkind fun env he s1 x => ?_
  subst he
  refine ⟨lim.keeps x.toInCall.keep, codeAny_func ?_⟩
  obtain ⟨t, ht, hq⟩ := hbody A outer s H vs Q E (hr.deeper _) hsp
  have I : Inv (cxOf CX P w K mg base N qual scope f cdv A outer s H E) [] (start N vs) H s1 := inv_start S hr.hd e0 hl r x
  refine wpAny_mono (ht [] s1 (start N vs) H _ I hq) (fun fl s' hs => ?_) fun e s' hs => hs
  have fin : ∀ {σ' : St} {H' : Hp} {v : V} {u : Value}, Inv (cxOf CX P w K mg base N qual scope f cdv A outer s H E) [] σ' H' s' → RelV v u → Q v H' → CE outer P w H s Q u s' :=
    fun {σ' H' v u} J rv q => ⟨v, H', J.os, J.bare, J.base, J.hok, rv, q⟩
  cases fl with
  | ret u =>
    obtain ⟨v, σ', H', J, rv, q⟩ := hs
    exact fin J rv q
  | next =>
    obtain ⟨σ', H', J, q⟩ := hs
    exact fin (v := V.non) (u := Value.none) J rfl q
  | brk =>
    obtain ⟨_, _, _, q⟩ := hs
    exact False.elim q
  | cont =>
    obtain ⟨_, _, _, q⟩ := hs
    exact False.elim q
end L2

namespace L2
open PySem PySem.Spec PyProof.Rows
section
variable {X : Cx} {x : Str} {p pos : Pos} {e : Expr} {es : List Expr} {t : TA} {id T : String} {r : List V → Hp → VK → Prop}

def tCB (r : List V → Hp → VK → Prop) (t : TA) : TE := fun σ H Q => t σ H fun vs H1 => r vs H1 Q
/-- f(e, ..), f a built-in function -/
theorem pe_callB (hc : CallR X (.builtin id) r) (hg : Gl X x) (hm : X.mg x = none) (hv : bootBuiltins x = some (.builtin id)) (ha : PA X (e :: es) t) (hn : x ≠ "__name__" := by decide) (hdb : (x == ("__debug__" : Str)) = false := by decide)
    (he : starEach (e :: es) X.env = (false, eval e X.env) :: starEach es X.env := by rfl) (hpl : (backTo pos (starEach es X.env)).any (·.1) = false := by rfl) : PE X (.Call (.Name x p) (e :: es) [] pos) (tCB r t) := by
  intro pins s σ H Q I h
  refine wpAny_Call_Name_kw (ld_blt I hg hm hv ?_ hn hdb)
  exact PyProof.Rows.callWith_builtin1 (thn (ha pos pins s σ H _ I h) fun us s1 ⟨vs, H1, I1, r1, q1⟩ => hc pins s1 σ H1 vs us Q I1 r1 q1) he hpl
/-- T(e, ..), T a built-in type -/
theorem pe_callTy (hc : CallR X (.type T) r) (hg : Gl X x) (hm : X.mg x = none) (hv : bootBuiltins x = some (.type T)) (ha : PA X (e :: es) t) (hn : x ≠ "__name__" := by decide) (hdb : (x == ("__debug__" : Str)) = false := by decide)
    (he : starEach (e :: es) X.env = (false, eval e X.env) :: starEach es X.env := by rfl) (hpl : (backTo pos (starEach es X.env)).any (·.1) = false := by rfl) : PE X (.Call (.Name x p) (e :: es) [] pos) (tCB r t) := by
  intro pins s σ H Q I h
  refine wpAny_Call_Name_kw (ld_blt I hg hm hv ?_ hn hdb)
  exact PyProof.Rows.callWith_type1 (thn (ha pos pins s σ H _ I h) fun us s1 ⟨vs, H1, I1, r1, q1⟩ => hc pins s1 σ H1 vs us Q I1 r1 q1) he hpl
end
end L2

namespace HT
open PySem PyProof.Rows

/-- t < u of tuples of ints -/
def lexLt : List Int → List Int → Bool
  | [], [] => false
  | [], _ :: _ => true
  | _ :: _, [] => false
  | x :: xs, y :: ys => if x = y then lexLt xs ys else decide (x < y)
section
open PySem.SeqAt
open PySem.AutoSeq1 (wpAny_loadPart')
open PySem.MeetsSeq PySem.MeetsSeq2 PySem.MeetsSeq3

end

section
variable {prog : Program} {w : World} {A : Around} {E : Value → Shared → Prop} {s : Shared}

/-- t + u, t not empty -/
theorem cat_tup {t b : Addr} {vs ws : List Value} {Q : Value → Shared → Prop} (ht : IsTup s.heap t vs.toArray) (hb : IsTup s.heap b ws.toArray) (hv : vs ≠ [])
    (h1 : ws = [] → Q (.ref t) s) (h2 : ws ≠ [] → Q (.ref s.heap.objs.size) { s with heap := s.heap.push { cls := .type "tuple", data := .seq (vs ++ ws).toArray } })
    (hsz : vs.length + ws.length ≤ sizeLine) : wpAny (model prog w) A (binaryOp .Add (.ref t) (.ref b)) Q E s := by
  obtain ⟨⟨cls, dd, data, sl⟩, ho, hc, n, hd⟩ := id ht
  obtain ⟨⟨cls2, dd2, data2, sl2⟩, ho2, hc2, n2, hd2⟩ := id hb
  simp only at hc hd hc2 hd2
  subst hc hd hc2 hd2
  have e : vs.toArray ++ ws.toArray = (vs ++ ws).toArray := by simp
  by_cases hw : ws = []
  · exact concat_meets ⟨_, ho, rfl⟩ ⟨_, ho2, rfl⟩ noFill_tuple_add seq_tuple_add PySem.F.slot_tuple_add PySem.F.entry_tuple_add (PySem.F.args_tuple_add_2 _ _)
      (tuple_addW1 t b vs.toArray ws.toArray n n2 dd dd2 sl sl2 (by simpa using hv) (by simp [hw])) ⟨ho, ho2, h1 hw⟩
  · refine concat_meets ⟨_, ho, rfl⟩ ⟨_, ho2, rfl⟩ noFill_tuple_add seq_tuple_add PySem.F.slot_tuple_add PySem.F.entry_tuple_add (PySem.F.args_tuple_add_2 _ _)
      (tuple_addW2 t b vs.toArray ws.toArray n n2 dd dd2 sl sl2 (by simpa using hv) (by simpa using hw) (by rw [List.size_toArray, List.size_toArray]; exact hsz)) ⟨ho, ho2, ?_⟩
    rw [e]
    exact h2 hw

/-! ### t[a:b], not the whole -/
/-- a slice's bound as a place among n (d where it is left out) -/
def sIx (n d : Nat) : Option Int → Nat
  | none => d
  | some v => if v < 0 then (v + (n : Int)).toNat else min v.toNat n
theorem sIx_nat (n d k : Nat) : sIx n d (some (k : Int)) = min k n := by
  show (if (k : Int) < 0 then ((k : Int) + (n : Int)).toNat else min (k : Int).toNat n) = min k n
  rw [if_neg (by omega), Int.toNat_natCast]
theorem sIx_le (n d : Nat) (hd : d ≤ n) (o : Option Int) : sIx n d o ≤ n := by
  cases o with
  | none => exact hd
  | some v =>
    show (if v < 0 then (v + (n : Int)).toNat else min v.toNat n) ≤ n
    by_cases hv : v < 0
    · rw [if_pos hv]; omega
    · rw [if_neg hv]; exact Nat.min_le_right _ _
theorem clip_eq (v : Int) (n d : Nat) : (if v < 0 then max (v + (n : Int)) 0 else min v (n : Int)) = ((sIx n d (some v) : Nat) : Int) := by
  show (if v < 0 then max (v + (n : Int)) 0 else min v (n : Int)) = (((if v < 0 then (v + (n : Int)).toNat else min v.toNat n) : Nat) : Int)
  by_cases hv : v < 0
  · simp only [if_pos hv]; omega
  · simp only [if_neg hv]; omega
theorem adjust_gen (lo hi : Option Int) (n : Nat) : Builtin.Slice.sliceAdjust lo hi 1 (n : Int) = (((sIx n 0 lo : Nat) : Int), ((sIx n n hi : Nat) : Int)) := by
  have h1 : ¬ ((1 : Int) < 0) := by omega
  unfold Builtin.Slice.sliceAdjust
  simp only [h1, if_false]
  refine Prod.ext ?_ ?_
  · cases lo with
    | none => rfl
    | some v => exact clip_eq v n 0
  · cases hi with
    | none => rfl
    | some v => exact clip_eq v n n
theorem places_gen (i j : Nat) : Builtin.Slice.slicePlaces (i : Int) (j : Int) 1 = j - i := by
  unfold Builtin.Slice.slicePlaces
  have h1 : (1 : Int) > 0 := by omega
  simp only [h1, if_true, Int.ediv_one]
  split <;> omega
theorem slicePart_ {v : Value} {o : Option Int} {Q : Option Int → Shared → Prop} (p : IsPart v o) (h : Q o s) : wpAny (model prog w) A (Builtin.Slice.slicePartIndex v) Q E s := by
  cases p with
  | none => exact slicePart_none h
  | int i t => exact slicePart_int h
theorem sliceApplied_gen {sl : Addr} {vl vu : Value} {lo hi : Option Int} {n : Nat} {Q : Int × Int × Nat → Shared → Prop} (hs : s.heap.IsSliceOf sl vl vu .none) (pl : IsPart vl lo) (pu : IsPart vu hi)
    (h : Q (((sIx n 0 lo : Nat) : Int), 1, sIx n n hi - sIx n 0 lo) s) : wpAny (model prog w) A (Builtin.Slice.sliceApplied (.ref sl) (pure (n : Int))) Q E s := by
  obtain ⟨os, hos, hcs, hds⟩ := id hs
  unfold Builtin.Slice.sliceApplied Builtin.Slice.sliceFields
  refine wpAny_bind (wpAny_bind (wpAny_field hos hds (x := vl) rfl (wpAny_bind (wpAny_field hos hds (x := vu) rfl (wpAny_bind (wpAny_field hos hds (x := .none) rfl (wpAny_pure ?_)))))))
  refine wpAny_bind (slicePart_none ?_)
  show wpAny _ _ (if ((1 : Int) == 0) = true then _ else _) _ _ s
  rw [if_neg (by decide)]
  refine wpAny_bind (slicePart_ pl (wpAny_bind (slicePart_ pu (wpAny_bind (wpAny_pure ?_)))))
  show wpAny _ _ (match Builtin.Slice.sliceAdjust lo hi 1 (n : Int) with | (lo, hi) => pure (lo, (1 : Int), Builtin.Slice.slicePlaces lo hi 1)) _ _ s
  rw [adjust_gen lo hi n]
  show wpAny _ _ (pure (((sIx n 0 lo : Nat) : Int), (1 : Int), Builtin.Slice.slicePlaces ((sIx n 0 lo : Nat) : Int) ((sIx n n hi : Nat) : Int) 1)) _ _ s
  rw [places_gen]
  exact wpAny_pure h
theorem pick_gen (xs : Array Value) (i k : Nat) : ((List.range k).filterMap fun (m : Nat) => xs[((i : Int) + (m : Int) * 1).toNat]?).toArray = ((xs.toList.drop i).take k).toArray := by
  have e : (fun (m : Nat) => xs[((i : Int) + (m : Int) * 1).toNat]?) = fun m => xs[i + m]? := by
    funext m
    have : ((i : Int) + (m : Int) * 1).toNat = i + m := by omega
    rw [this]
  rw [e]
  have := pick_run xs i k
  rw [List.filterMap_map] at this
  have e2 : ((fun x => xs[x]?) ∘ fun x => i + x) = fun m => xs[i + m]? := rfl
  rw [e2] at this
  rw [this]

theorem getItem_tuple_cut {t sl : Addr} {items : Array Value} {vl vu : Value} {lo hi : Option Int} {Q : Value → Shared → Prop} (ht : IsTup s.heap t items) (hs : s.heap.IsSliceOf sl vl vu .none) (pl : IsPart vl lo) (pu : IsPart vu hi)
    (hw : ¬ (sIx items.size 0 lo = 0 ∧ sIx items.size items.size hi = items.size))
    (h : Q (.ref s.heap.objs.size) { s with heap := s.heap.push { cls := .type "tuple", data := .seq ((items.toList.drop (sIx items.size 0 lo)).take (sIx items.size items.size hi - sIx items.size 0 lo)).toArray } })
    (hsz : items.size ≤ sizeLine) : wpAny (model prog w) A (getItem (.ref t) (.ref sl)) Q E s := by
  have htake : sizeOk (.seq ((items.toList.drop (sIx items.size 0 lo)).take (sIx items.size items.size hi - sIx items.size 0 lo)).toArray) := by
    show ((items.toList.drop (sIx items.size 0 lo)).take (sIx items.size items.size hi - sIx items.size 0 lo)).toArray.size ≤ sizeLine
    rw [List.size_toArray, List.length_take, List.length_drop, Array.length_toList]
    omega
  have hj : sIx items.size items.size hi ≤ items.size := sIx_le _ _ (Nat.le_refl _) hi
  obtain ⟨os, hos, hcs, hds⟩ := id hs
  have hTs : s.TypeIs (.ref sl) "slice" := ⟨os, hos, hcs⟩
  unfold getItem
  try with_reducible refine wpAny_holding ?_
  first | refine wpAny_bind (wpAny_pure ?_) | skip
  refine wpAny_bind (wpAny_sequenceKey ht.typeIs (by decide) ?_)
  refine wpAny_bind (wpAny_callSpecial?_slot (name := Str.ofString "__getitem__") ht.typeIs PyProof.Rows.slot_tuple_getitem
    (wpAny_call_entry PyProof.Rows.slot_tuple_getitem ht.typeIs entry_tuple_getitem ?_ (args_tuple_getitem _ _)))
  show wpAny _ _ (Builtin.Tuple.tupleItemsOf (.ref t) >>= _) _ _ s
  refine wpAny_bind (tupleItemsOf_ ht ?_)
  refine wpAny_bind (wpAny_typeOf hTs ?_)
  rw [if_pos (by decide)]
  refine wpAny_bind (sliceApplied_gen hs pl pu ?_)
  have hno : ¬ ((((sIx items.size 0 lo : Nat) : Int) == 0 && (1 : Int) == 1 && (sIx items.size items.size hi - sIx items.size 0 lo) == items.size) = true) := by
    intro q
    rw [Bool.and_eq_true, Bool.and_eq_true] at q
    have q1 : ((sIx items.size 0 lo : Nat) : Int) = 0 := eq_of_beq q.1.1
    have q2 : sIx items.size items.size hi - sIx items.size 0 lo = items.size := eq_of_beq q.2
    exact hw ⟨by omega, by omega⟩
  show wpAny _ _ (if (((sIx items.size 0 lo : Nat) : Int) == 0 && (1 : Int) == 1 && (sIx items.size items.size hi - sIx items.size 0 lo) == items.size) = true then _ else _) _ _ s
  rw [if_neg hno, pick_gen]
  first
    | exact wpAny_bind (m := Builtin.Tuple.tupleExact _) (wpAny_newObj_type (wpAny_pure ⟨_, rfl, wpAny_pure h⟩) htake)
    | exact wpAny_bind (m := Builtin.Tuple.tupleExact _) (wpAny_newObj_type (wpAny_bind (wpAny_pure (wpAny_pure ⟨_, rfl, wpAny_pure h⟩))) htake)
    | exact wpAny_bind (wpAny_bind (m := Builtin.Tuple.tupleExact _) (wpAny_newObj_type (wpAny_pure (wpAny_pure ⟨_, rfl, wpAny_pure h⟩)) htake))
    | exact wpAny_bind (wpAny_bind (m := Builtin.Tuple.tupleExact _) (wpAny_newObj_type (wpAny_pure ⟨_, rfl, wpAny_pure h⟩) htake))
end
end HT

namespace L2
open PySem PySem.Spec PyProof.Rows

/-! ### the parts of a slice -/
abbrev TO := St → Hp → (Option Int → Hp → Prop) → Prop
/-- a slice's part (left out, or an int) -/
def PO (X : Cx) (e : Option Expr) (t : TO) : Prop :=
  ∀ (pins : List (Addr × Obj)) (s : Shared) (σ : St) (H : Hp) (Q : Option Int → Hp → Prop), Inv X pins σ H s → t σ H Q →
    wpAny (model X.prog X.w) X.A (evalPart e X.env) (fun u s' => ∃ o H', Inv X pins σ H' s' ∧ IsPart u o ∧ Q o H') X.xe s
def tNoPart : TO := fun _ H Q => Q none H
def tPart (t : TE) : TO := fun σ H Q => t σ H fun x H1 => ∃ i, x = .int i ∧ Q (some i) H1

section
variable {X : Cx} {e : Expr} {te : TE} {lo hi : Option Expr} {tl th : TO} {pos p2 : Pos}

theorem po_none : PO X none tNoPart := by
  intro pins s σ H Q I h
  rw [evalPart_none]
  exact wpAny_pure ⟨none, H, I, .none, h⟩
theorem po_some (h : PE X e te) : PO X (some e) (tPart te) := by
  intro pins s σ H Q I hw
  rw [evalPart_some]
  refine thn (h pins s σ H _ I hw) fun u s1 ⟨x, H1, I1, r1, q1⟩ => ?_
  obtain ⟨i, rfl, q⟩ := q1
  obtain ⟨t, rfl⟩ := r1
  exact ⟨some i, H1, I1, .int i t, q⟩

/-- what a slice of a value is, by values: the slice object stands at sl -/
def SlR (X : Cx) (r : V → Option Int → Option Int → Hp → VK → Prop) : Prop :=
  ∀ (pins : List (Addr × Obj)) (s : Shared) (σ : St) (H : Hp) (x : V) (v vl vu : Value) (lo hi : Option Int) (sl : Addr) (Q : VK), Inv X pins σ H s → RelV x v → s.heap.IsSliceOf sl vl vu .none → IsPart vl lo → IsPart vu hi → r x lo hi H Q →
    ∃ T id, typeLookup (.type T) "__getitem__" = pure (some (.builtin id)) ∧ s.TypeIs v T ∧ wpAny (model X.prog X.w) X.A (getItem v (.ref sl)) (EP X pins σ Q) X.xe s
theorem SlR.or {r r' : V → Option Int → Option Int → Hp → VK → Prop} (h : SlR X r) (h' : SlR X r') : SlR X (fun x lo hi H Q => r x lo hi H Q ∨ r' x lo hi H Q) := by
  intro pins s σ H x v vl vu lo hi sl Q I rx hs pl pu q
  rcases q with q | q
  · exact h pins s σ H x v vl vu lo hi sl Q I rx hs pl pu q
  · exact h' pins s σ H x v vl vu lo hi sl Q I rx hs pl pu q
def tSl (r : V → Option Int → Option Int → Hp → VK → Prop) (te : TE) (tl th : TO) : TE := fun σ H Q => te σ H fun x H1 => tl σ H1 fun l H2 => th σ H2 fun u H3 => r x l u H3 Q
/-- a[lo:hi], any a -/
theorem pe_slice {r : V → Option Int → Option Int → Hp → VK → Prop} (hr : SlR X r) (he : PE X e te) (hl : PO X lo tl) (hu : PO X hi th) : PE X (.Subscript e (.Slice lo hi none p2) pos) (tSl r te tl th) := by
  intro pins s σ H Q I h
  refine Subscript_ (thn (he pins s σ H _ I h) fun v s1 ⟨x, H1, I1, r1, q1⟩ => ?_)
  refine wpAny_Slice (thn (hl pins s1 σ H1 _ I1 q1) fun vl s2 ⟨l, H2, I2, pl, q2⟩ => thn (hu pins s2 σ H2 _ I2 q2) fun vu s3 ⟨u, H3, I3, pu, q3⟩ => ?_)
  rw [evalPart_none]
  refine wpAny_pure ?_
  have I4 : Inv X pins σ H3 { s3 with heap := s3.heap.push { cls := .type "slice", data := .fields #[vl, vu, .none] } } := I3.kept (t' := s3.toks) fun b ob q => Heap.get?_push_of_some _ q
  obtain ⟨T, id, hT, ht, hg⟩ := hr pins { s3 with heap := s3.heap.push { cls := .type "slice", data := .fields #[vl, vu, .none] } } σ H3 x v vl vu l u s3.heap.objs.size Q I4 r1 (Heap.IsSliceOf.new ..) pl pu q3
  show wpAny (model X.prog X.w) X.A (subscriptTail e (.Slice lo hi none p2) v (.ref s3.heap.objs.size)) (EP X pins σ Q) X.xe { s3 with heap := s3.heap.push { cls := .type "slice", data := .fields #[vl, vu, .none] } }
  exact tail_any (ops := [.ref s3.heap.objs.size, v]) ht hT hg (by with_unfolding_all rfl)

/-- the items of xs[lo:hi] -/
def cutV (xs : List V) (lo hi : Option Int) : List V := (xs.drop (HT.sIx xs.length 0 lo)).take (HT.sIx xs.length xs.length hi - HT.sIx xs.length 0 lo)
theorem cutV_length (xs : List V) (lo hi : Option Int) : (cutV xs lo hi).length ≤ xs.length := by
  unfold cutV
  rw [List.length_take, List.length_drop]
  omega
/-- t[lo:hi], not the whole of it (the whole would be t itself) -/
def rSlT (K : PySem.W.Frag) : V → Option Int → Option Int → Hp → VK → Prop := fun x lo hi H Q => ∃ a xs, x = .ref a ∧ SqT K H a xs ∧
  ¬ (HT.sIx xs.length 0 lo = 0 ∧ HT.sIx xs.length xs.length hi = xs.length) ∧ ∀ p, H p = none → Q (.ref p) (upd H p (.tup (cutV xs lo hi)))
theorem sl_tup : SlR X (rSlT X.K) := by
  intro pins s σ H x v vl vu lo hi sl Q I rx hs pl pu h
  obtain ⟨a, xs, rfl, hx, hw, q⟩ := h
  cases rx
  obtain ⟨its, r, ht, hz⟩ := I.tuple hx
  have hlen : its.toArray.size = xs.length := by rw [List.size_toArray]; exact r.length.symm
  refine ⟨"tuple", _, PyProof.Rows.slot_tuple_getitem.lookup, ht.typeIs, ?_⟩
  refine HT.getItem_tuple_cut ht hs pl pu (by rw [hlen]; exact hw) ?_ (by rw [hlen]; exact hz)
  rw [hlen]
  refine ⟨.ref s.heap.objs.size, _, I.laid (t' := s.toks) (o := .tup (cutV xs lo hi)) (fun b ob q => Heap.get?_push_of_some _ q) (Nat.le_refl _) ?_, rfl, q _ (I.hok.fresh (Nat.le_refl _))⟩
  exact ⟨Nat.le_trans (cutV_length xs lo hi) hz, _, (r.drop (HT.sIx xs.length 0 lo)).take (HT.sIx xs.length xs.length hi - HT.sIx xs.length 0 lo), IsTup.new _ _⟩

/-! ### t < u, t + u -/
def rLtT (K : PySem.W.Frag) : R2 := fun x y H Q => ∃ a b ns ms, x = .ref a ∧ y = .ref b ∧ SqT K H a (ns.map V.int) ∧ SqT K H b (ms.map V.int) ∧ Q (.bl (HT.lexLt ns ms)) H
/-- t + u, t not empty: u empty gives t itself -/
def rCatT (K : PySem.W.Frag) : R2 := fun x y H Q => ∃ a b xs ys, x = .ref a ∧ y = .ref b ∧ SqT K H a xs ∧ SqT K H b ys ∧ xs ≠ [] ∧ xs.length + ys.length ≤ sizeLine ∧
  (ys = [] → Q (.ref a) H) ∧ (ys ≠ [] → ∀ p, H p = none → Q (.ref p) (upd H p (.tup (xs ++ ys))))
theorem Vals.nil_iff {xs : List V} {us : List Value} (r : Vals xs us) : us = [] ↔ xs = [] := by
  cases r with
  | nil => simp
  | cons _ _ => simp
theorem op_catT : OpR X (binaryOp .Add) (rCatT X.K) := by
  intro pins s σ H x y v u Q I rx ry h
  obtain ⟨a, b, xs, ys, rfl, rfl, ha, hb, hx, hz, q1, q2⟩ := h
  cases rx
  cases ry
  obtain ⟨its, r1, p1, _⟩ := I.tuple ha
  obtain ⟨its2, r2, p2, _⟩ := I.tuple hb
  refine HT.cat_tup p1 p2 (fun z => hx (r1.nil_iff.mp z)) (fun z => ⟨.ref a, H, I, rfl, q1 (r2.nil_iff.mp z)⟩) (fun z => ?_) (by rw [← r1.length, ← r2.length]; exact hz)
  refine ⟨.ref s.heap.objs.size, _, I.laid (t' := s.toks) (o := .tup (xs ++ ys)) (fun b ob q => Heap.get?_push_of_some _ q) (Nat.le_refl _) ?_, rfl, q2 (fun w => z (r2.nil_iff.mpr w)) _ (I.hok.fresh (Nat.le_refl _))⟩
  exact ⟨by rw [List.length_append]; exact hz, _, r1.append r2, IsTup.new _ _⟩
end
end L2

namespace L2
open PySem PySem.Spec PyProof.Rows

/-! ### places -/
/-- the place that an index of any sign means -/
def ixN (n : Nat) (i : Int) : Option Nat := if 0 ≤ i then (if i < n then some i.toNat else none) else if -(n : Int) ≤ i then some (i + n).toNat else none
def atI {α : Type} (xs : List α) (i : Int) : Option α := (ixN xs.length i).bind fun j => xs[j]?
theorem ixN_seq {n : Nat} {i : Int} {j : Nat} (h : ixN n i = some j) : seqIndex? i n = some j ∧ j < n ∧ -(n : Int) ≤ i ∧ i < n := by
  unfold ixN at h
  by_cases h0 : 0 ≤ i
  · rw [if_pos h0] at h
    by_cases h1 : i < n
    · rw [if_pos h1] at h
      have e : i.toNat = j := Option.some.inj h
      exact ⟨by rw [seqIndex_of h0 h1, e], by omega, by omega, h1⟩
    · rw [if_neg h1] at h; cases h
  · rw [if_neg h0] at h
    by_cases h1 : -(n : Int) ≤ i
    · rw [if_pos h1] at h
      have e : (i + n).toNat = j := Option.some.inj h
      exact ⟨by rw [seqIndex_neg (by omega) h1, e], by omega, h1, by omega⟩
    · rw [if_neg h1] at h; cases h
theorem atI_get {α : Type} {xs : List α} {i : Int} {v : α} (h : atI xs i = some v) : ∃ j, seqIndex? i xs.length = some j ∧ xs[j]? = some v ∧ j < xs.length ∧ -(xs.length : Int) ≤ i ∧ i < xs.length := by
  unfold atI at h
  cases e : ixN xs.length i with
  | none => rw [e] at h; cases h
  | some j =>
    rw [e] at h
    obtain ⟨h1, h2, h3, h4⟩ := ixN_seq e
    exact ⟨j, h1, h, h2, h3, h4⟩
theorem atI_nat {α : Type} {xs : List α} {j : Nat} {v : α} (h : xs[j]? = some v) : atI xs (j : Int) = some v := by
  have hj : j < xs.length := (List.getElem?_eq_some_iff.mp h).1
  have e : ixN xs.length (j : Int) = some j := by
    unfold ixN
    rw [if_pos (by omega), if_pos (by omega)]; simp
  unfold atI; rw [e]; exact h
/-! ### what may be subscripted -/
/-- what stands as an index of a plain subscript -/
def PlainIx (b : Expr) : Prop := ∀ o i, subscripted b false o i = operate [o, i] (getItem o i)
/-- a subscript by values -/
def IxR (X : Cx) (r : R2) : Prop :=
  ∀ (value slice : Expr) (pins : List (Addr × Obj)) (s : Shared) (σ : St) (H : Hp) (x y : V) (v u : Value) (Q : VK), Inv X pins σ H s → RelV x v → RelV y u → r x y H Q →
    subscripted slice false v u = operate [v, u] (getItem v u) → wpAny (model X.prog X.w) X.A (subscriptTail value slice v u) (EP X pins σ Q) X.xe s
/-- a call of a builtin's method by values: the receiver, the arguments -/
def MtR (X : Cx) (id : String) (r : V → List V → Hp → VK → Prop) : Prop :=
  ∀ (pins : List (Addr × Obj)) (s : Shared) (σ : St) (H : Hp) (x : V) (xs : List V) (v : Value) (us : List Value) (Q : VK), Inv X pins σ H s → RelV x v → Vals xs us → r x xs H Q →
    wpAny (model X.prog X.w) X.A (call (.builtin id) (v :: us)) (EP X pins σ Q) X.xe s
section
variable {X : Cx} {a b : Expr} {ta tb : TE} {pos : Pos}
/-- a[b] -/
theorem pe_ix {r : R2} (hr : IxR X r) (ha : PE X a ta) (hb : PE X b tb) (hs : PlainIx b) : PE X (.Subscript a b pos) (tOp r ta tb) := by
  intro pins s σ H Q I h
  exact Subscript_ (binT ha hb I h fun v u s2 x y H2 I2 rx ry q => hr a b pins s2 σ H2 x y v u Q I2 rx ry q (hs _ _))

def rIxL (K : PySem.W.Frag) : R2 := fun x y H Q => ∃ p xs i v, x = .ref p ∧ y = .int i ∧ SqL K H p xs ∧ atI xs i = some v ∧ Q v H
def rIxT (K : PySem.W.Frag) : R2 := fun x y H Q => ∃ p xs i v, x = .ref p ∧ y = .int i ∧ SqT K H p xs ∧ atI xs i = some v ∧ Q v H
def rIxS : R2 := fun x y H Q => ∃ z i c, x = .str z ∧ y = .int i ∧ z.length ≤ sizeLine ∧ atI z.cps.toList i = some c ∧ Q (.str ⟨#[c]⟩) H
theorem ix_list : IxR X (rIxL X.K) := by
  intro value slice pins s σ H x y v u Q I rx ry h hs
  obtain ⟨p, xs, i, z, rfl, rfl, hq, he, q⟩ := h
  cases rx
  obtain ⟨t, rfl⟩ := ry
  obtain ⟨its, r, pl, hz⟩ := I.list hq
  obtain ⟨j, h1, h2, h3, h4, h5⟩ := atI_get he
  obtain ⟨w, ew, rw'⟩ := r.get h2
  have hl := r.length
  have hn := line63
  have fin : EP X pins σ Q w s := ⟨z, H, I, rw', q⟩
  by_cases h0 : 0 ≤ i
  · have hj : i.toNat = j := by
      rw [seqIndex_of h0 h5] at h1
      exact Option.some.inj h1
    exact item_listR pl.isList h0 (by omega) (by rw [hj]; simpa using ew) fin hs
  · have hj : (i + (its.toArray.size : Int)).toNat = j := by
      rw [seqIndex_neg (by omega) h4] at h1
      rw [List.size_toArray, ← hl]
      exact Option.some.inj h1
    exact subscriptTail_builtinR (x := w) pl.isList.typeIs slot_list_getitem.lookup
      (wpAny_getItem_list_neg (Q := fun r s' => r = w ∧ EP X pins σ Q r s') pl.isList (by omega) (by rw [List.size_toArray] <;> omega) (by omega) (by rw [hj]; simpa using ew) ⟨rfl, fin⟩) hs
theorem ix_tup : IxR X (rIxT X.K) := by
  intro value slice pins s σ H x y v u Q I rx ry h hs
  obtain ⟨p, xs, i, z, rfl, rfl, hq, he, q⟩ := h
  cases rx
  obtain ⟨t, rfl⟩ := ry
  obtain ⟨its, r, pl, hz⟩ := I.tuple hq
  obtain ⟨j, h1, h2, h3, h4, h5⟩ := atI_get he
  obtain ⟨w, ew, rw'⟩ := r.get h2
  have hl := r.length
  have hn := line63
  have fin : EP X pins σ Q w s := ⟨z, H, I, rw', q⟩
  exact subscriptTail_builtinR (x := w) pl.typeIs slot_tuple_getitem.lookup
    (getItem_tuple (j := j) (Q := fun r s' => r = w ∧ EP X pins σ Q r s') pl (by omega) (by omega) (by rw [List.size_toArray, ← hl]; exact h1) (by simpa using ew) ⟨rfl, fin⟩) hs
/-- list, tuple or str -/
def rIx (K : PySem.W.Frag) : R2 := fun x y H Q => rIxL K x y H Q ∨ rIxT K x y H Q ∨ rIxS x y H Q
/-! ### xs[i] = v, any sign -/
/-- the list's object behind a store -/
theorem mapSeq_set (its : List Value) (n j : Nat) (u : Value) : Obj.mapSeq (·.setIfInBounds j u) { cls := .type "list", data := .seq its.toArray n } = { cls := .type "list", data := .seq (its.set j u).toArray n } := by
  simp [Obj.mapSeq]
theorem Inv.lst {pins : List (Addr × Obj)} {σ : St} {H : Hp} {s : Shared} {p : Addr} {xs : List V} (I : Inv X pins σ H s) (h : H p = some (.lst xs)) :
    ∃ (its : List Value) (n : Nat), Vals xs its ∧ s.heap.get? p = some { cls := .type "list", data := .seq its.toArray n } ∧ xs.length ≤ sizeLine := by
  obtain ⟨z, its, n, r, e⟩ := I.hok p _ h
  exact ⟨its, n, r, e, z⟩
/-- the list at p is written by an update of its object -/
theorem Inv.lstUpd {pins : List (Addr × Obj)} {σ : St} {H : Hp} {s : Shared} {p : Addr} {xs ys : List V} {its its' : List Value} {n n' : Nat} {f : Obj → Obj} (I : Inv X pins σ H s) (h : H p = some (.lst xs))
    (ho : s.heap.get? p = some { cls := .type "list", data := .seq its.toArray n }) (hf : f { cls := .type "list", data := .seq its.toArray n } = { cls := .type "list", data := .seq its'.toArray n' }) (r : Vals ys its') (hz : ys.length ≤ sizeLine) (t : Nat) :
    Inv X pins σ (upd H p (.lst ys)) { s with heap := s.heap.update p f, toks := t } := by
  have e : (s.heap.update p f).get? p = some { cls := .type "list", data := .seq its'.toArray n' } := by
    rw [Heap.get?_update_self f ho (by rw [hf] <;> rfl), hf]
  refine I.write (x := p) (e := p) (by rw [h]; trivial) (.inl rfl) (fun b u hb q => (Heap.get?_update_other _ _ (Ne.symm hb)).trans q) ⟨_, e⟩ ?_
  exact ⟨hz, its', n', r, e⟩
def rSetL : V → V → V → Hp → (Hp → Prop) → Prop := fun o i v H Q => ∃ p xs k j, o = .ref p ∧ i = .int k ∧ H p = some (.lst xs) ∧ ixN xs.length k = some j ∧ Q (upd H p (.lst (xs.set j v)))
theorem set_list : PSet X rSetL := by
  intro pins s σ H o i v ov iv u Q I ro ri rv h
  obtain ⟨p, xs, k, j, rfl, rfl, hp, hj, q⟩ := h
  cases ro
  obtain ⟨t, rfl⟩ := ri
  obtain ⟨its, n, r, ho, hz⟩ := I.lst hp
  obtain ⟨h1, h2, h3, h4⟩ := ixN_seq hj
  have hl := r.length
  have hn := line63
  have I' : Inv X pins σ (upd H p (.lst (xs.set j v))) { s with heap := s.heap.update p (Obj.mapSeq (·.setIfInBounds j u)) } :=
    I.lstUpd hp ho (mapSeq_set its n j u) (r.set rv j) (by rw [List.length_set]; exact hz) s.toks
  by_cases h0 : 0 ≤ k
  · have hk : k.toNat = j := by
      rw [seqIndex_of h0 h4] at h1
      exact Option.some.inj h1
    exact PySem.W.ki_setAt ho h0 (by omega) (by rw [List.size_toArray, ← hl]; exact h4) (by rw [hk]; exact ⟨_, I', q⟩)
  · have hk : (k + (its.toArray.size : Int)).toNat = j := by
      rw [seqIndex_neg (by omega) h3] at h1
      rw [List.size_toArray, ← hl]
      exact Option.some.inj h1
    exact PySem.W.ki_setBack ho (by omega) (by rw [List.size_toArray, ← hl]; exact h3) (by omega) (by rw [hk]; exact ⟨_, I', q⟩)

/-! ### slices -/
theorem slice_bounds (lo hi : Option Int) (n : Nat) : (sliceBounds lo hi none n).1 = ((HT.sIx n 0 lo : Nat) : Int) ∧ (sliceBounds lo hi none n).2.1 = ((HT.sIx n n hi : Nat) : Int) ∧ (sliceBounds lo hi none n).2.2 = 1 := by
  refine ⟨?_, ?_, rfl⟩
  · cases lo with
    | none => simp [sliceBounds, HT.sIx]
    | some i =>
      simp only [sliceBounds, HT.sIx, Option.getD_none, show (1 : Int) > 0 by decide, if_true]
      by_cases h : i < 0
      · simp only [h, if_true] <;> omega
      · simp only [h, if_false] <;> omega
  · cases hi with
    | none => simp [sliceBounds, HT.sIx]
    | some i =>
      simp only [sliceBounds, HT.sIx, Option.getD_none, show (1 : Int) > 0 by decide, if_true]
      by_cases h : i < 0
      · simp only [h, if_true] <;> omega
      · simp only [h, if_false] <;> omega
theorem slicePick_cut (its : List Value) (lo hi : Option Int) : slicePick its.toArray lo hi none = ((its.drop (HT.sIx its.length 0 lo)).take (HT.sIx its.length its.length hi - HT.sIx its.length 0 lo)).toArray := by
  obtain ⟨h1, h2, h3⟩ := slice_bounds lo hi its.toArray.size
  unfold slicePick
  rw [h1, h2, h3]
  simp only [sliceRange_one, pick_run, List.size_toArray] <;> rfl
/-- xs[lo:hi] of a list: a new list -/
def rSlL (K : PySem.W.Frag) : V → Option Int → Option Int → Hp → VK → Prop := fun x lo hi H Q => ∃ a xs, x = .ref a ∧ SqL K H a xs ∧ ∀ p, H p = none → Q (.ref p) (upd H p (.lst (cutV xs lo hi)))
theorem sl_list : SlR X (rSlL X.K) := by
  intro pins s σ H x v vl vu lo hi sl Q I rx hs pl pu h
  obtain ⟨a, xs, rfl, hx, q⟩ := h
  cases rx
  obtain ⟨its, r, ht, hz⟩ := I.list hx
  have hlen := r.length
  refine ⟨"list", _, slot_list_getitem.lookup, ht.isList.typeIs, ?_⟩
  refine wpAny_getItem_list_slice ht.isList hs pl pu .none (by simp) ?_ (by rw [List.size_toArray] <;> omega)
  rw [slicePick_cut, ← hlen]
  refine ⟨.ref s.heap.objs.size, _, I.laid (t' := s.toks) (o := .lst (cutV xs lo hi)) (fun b ob q => Heap.get?_push_of_some _ q) (Nat.le_refl _) ?_, rfl, q _ (I.hok.fresh (Nat.le_refl _))⟩
  exact ⟨Nat.le_trans (cutV_length xs lo hi) hz, _, 0, (r.drop (HT.sIx xs.length 0 lo)).take (HT.sIx xs.length xs.length hi - HT.sIx xs.length 0 lo), Heap.get?_push_size _ rfl⟩

/-! ### in, not in: flat items -/
def flatV : V → Bool
  | .non => true
  | .bl _ => true
  | .int _ => true
  | .str _ => true
  | _ => false
/-- == of flat values -/
def eqV : V → V → Bool
  | .non, .non => true
  | .bl a, .bl b => a == b
  | .bl a, .int b => (if a then 1 else 0) == b
  | .int a, .bl b => a == (if b then 1 else 0)
  | .int a, .int b => a == b
  | .str a, .str b => a == b
  | _, _ => false
/-- the items' answers, read off the values (a value's own answer does not lean on its token) -/
def eqU (x : V) (u : Value) : Bool := match u with
  | .none => eqV .non x
  | .bool b => eqV (.bl b) x
  | .int i _ => eqV (.int i) x
  | .str z _ => eqV (.str z) x
  | _ => false
def inV (x : V) (xs : List V) : Bool := xs.any fun y => eqV y x
/-- x in a list or tuple of flat items -/
def rIn (K : PySem.W.Frag) (neg : Bool) : R2 := fun x y H Q => ∃ p xs, y = .ref p ∧ (SqL K H p xs ∨ SqT K H p xs) ∧ flatV x = true ∧ xs.all flatV = true ∧ Q (.bl (if neg then !inV x xs else inV x xs)) H
/-! ### len, list(x), tuple(x) of any list or tuple that is read -/
theorem call_len_seq : CallR X (.builtin "len") (fun xs H Q => ∃ p ys, xs = [.ref p] ∧ (SqL X.K H p ys ∨ SqT X.K H p ys) ∧ Q (.int ys.length) H) := by
  intro pins s σ H xs us Q I r h
  obtain ⟨p, ys, rfl, hq, q⟩ := h
  obtain ⟨u, rfl, rx⟩ := vals1 r
  cases rx
  have hn := line63
  rcases hq with hq | hq
  · obtain ⟨its, r', pl, hz⟩ := I.list hq
    have hlen := r'.length
    exact Calls.call_len_list pl.isList (by simp only [List.size_toArray] <;> omega) ⟨.int ys.length, H, I.tok _, ⟨s.toks + 1, by rw [List.size_toArray, hlen]⟩, q⟩
  · obtain ⟨its, r', pl, hz⟩ := I.tuple hq
    have hlen := r'.length
    exact len_tuple pl (by simp only [List.size_toArray] <;> omega) ⟨.int ys.length, H, I.tok _, ⟨s.toks + 1, by rw [List.size_toArray, hlen]⟩, q⟩
theorem call_list_of : CallR X (.type "list") (fun xs H Q => ∃ p ys, xs = [.ref p] ∧ (SqL X.K H p ys ∨ SqT X.K H p ys) ∧ ∀ l, H l = none → Q (.ref l) (upd H l (.lst ys))) := by
  intro pins s σ H xs us Q I r h
  obtain ⟨p, ys, rfl, hq, q⟩ := h
  obtain ⟨u, rfl, rx⟩ := vals1 r
  cases rx
  have fin : ∀ (its : List Value), Vals ys its → ys.length ≤ sizeLine → ∀ (h' : Heap) (c' : Nat), (∀ b o', s.heap.get? b = some o' → h'.get? b = some o') →
      h'.get? s.heap.objs.size = some { cls := .type "list", dict := none, data := .seq its.toArray c', slots := #[] } → EP X pins σ Q (.ref s.heap.objs.size) { s with heap := h' } := fun its r' hz h' c' kp e =>
    ⟨.ref s.heap.objs.size, _, I.laid (t' := s.toks) kp (Nat.le_refl _) (show ObjOk X.prog X.w _ h' _ (.lst ys) from ⟨hz, its, c', r', e⟩), rfl, q _ (I.hok.fresh (Nat.le_refl _))⟩
  rcases hq with hq | hq
  · obtain ⟨its, r', pl, hz⟩ := I.list hq
    have hlen := r'.length
    obtain ⟨o, ho, hc, n, hd⟩ := pl.isList
    exact call_list_seq p (.inl rfl) ho hc hd (fun h' c' kp e => fin its r' hz h' c' kp e) (by simp only [List.size_toArray] <;> omega)
  · obtain ⟨its, r', pl, hz⟩ := I.tuple hq
    have hlen := r'.length
    obtain ⟨o, ho, hc, n, hd⟩ := pl
    exact call_list_seq p (.inr rfl) ho hc hd (fun h' c' kp e => fin its r' hz h' c' kp e) (by simp only [List.size_toArray] <;> omega)
theorem call_tuple_of : CallR X (.type "tuple") (fun xs H Q => ∃ p ys, xs = [.ref p] ∧ ((SqL X.K H p ys ∧ ∀ l, H l = none → Q (.ref l) (upd H l (.tup ys))) ∨ (SqT X.K H p ys ∧ Q (.ref p) H))) := by
  intro pins s σ H xs us Q I r h
  obtain ⟨p, ys, rfl, h⟩ := h
  obtain ⟨u, rfl, rx⟩ := vals1 r
  cases rx
  rcases h with ⟨hq, q⟩ | ⟨hq, q⟩
  · obtain ⟨its, r', pl, hz⟩ := I.list hq
    have hlen := r'.length
    refine call_tuple_list pl.isList (fun h' kp => ?_) (by simp only [List.size_toArray] <;> omega)
    have I1 : Inv X pins σ H { s with heap := h' } := I.kept (t' := s.toks) kp
    have I2 : Inv X pins σ (upd H h'.objs.size (.tup ys)) { s with heap := h'.push { cls := .type "tuple", data := .seq its.toArray } } :=
      I1.laid (t' := s.toks) (fun b o e => Heap.get?_push_of_some _ e) (Nat.le_refl _) (show ObjOk X.prog X.w _ _ _ (.tup ys) from ⟨hz, its, r', IsTup.new _ _⟩)
    exact ⟨.ref h'.objs.size, _, I2, rfl, q _ (I1.hok.fresh (Nat.le_refl _))⟩
  · obtain ⟨its, r', pl, hz⟩ := I.tuple hq
    exact call_tuple_same pl ⟨.ref p, H, I, rfl, q⟩

/-! ### the call of a builtin's method: o.m(..) -/
/-- the value is of that builtin type -/
def tyV (K : PySem.W.Frag) (T : String) (x : V) (H : Hp) : Prop := match x with
  | .str _ => T = "str"
  | .int _ => T = "int"
  | .ref p => (T = "list" ∧ ∃ xs, SqL K H p xs) ∨ (T = "tuple" ∧ ∃ o, K.lookup p = some o ∧ o.cls = .type "tuple" ∧ o.dict = none) ∨
      (T = "dict" ∧ ((∃ kvs, H p = some (.dK kvs)) ∨ ∃ kvs, H p = some (.dT kvs))) ∨ (T = "set" ∧ ∃ S n, H p = some (.set S n))
  | _ => False
theorem tyV_is {pins : List (Addr × Obj)} {σ : St} {H : Hp} {s : Shared} {T : String} {x : V} {v : Value} (I : Inv X pins σ H s) (r : RelV x v) (ty : tyV X.K T x H) :
    s.TypeIs v T ∧ ∀ a, v = .ref a → ∃ ob, s.heap.get? a = some ob ∧ ob.dict = none := by
  cases x with
  | str z =>
    obtain ⟨t, rfl⟩ := r
    cases (show T = "str" from ty)
    exact ⟨typeIs_str s z t, fun _ e => nomatch e⟩
  | int i =>
    obtain ⟨t, rfl⟩ := r
    cases (show T = "int" from ty)
    exact ⟨typeIs_int s i t, fun _ e => nomatch e⟩
  | ref p =>
    cases r
    rcases ty with ⟨rfl, xs, hq⟩ | ⟨rfl, o, hk, hc, hd⟩ | ⟨rfl, hk⟩ | ⟨rfl, S, n, hk⟩
    · obtain ⟨its, _, pl, _⟩ := I.list hq
      refine ⟨pl.isList.typeIs, fun a e => ?_⟩
      cases e
      obtain ⟨o, n, e, c, hd, _⟩ := pl
      exact ⟨o, e, hd⟩
    · refine ⟨⟨o, I.kIn p o hk, hc⟩, fun a e => ?_⟩
      cases e
      exact ⟨o, I.kIn _ o hk, hd⟩
    · have z : ∃ o, s.heap.get? p = some o ∧ o.ExactDict := by
        rcases hk with ⟨kvs, hk⟩ | ⟨kvs, hk⟩
        · obtain ⟨_, _, _, _, o, _, _, e, ex, _⟩ := I.hok p _ hk
          exact ⟨o, e, ex⟩
        · obtain ⟨_, _, _, _, o, _, _, e, ex, _⟩ := I.hok p _ hk
          exact ⟨o, e, ex⟩
      obtain ⟨o, e, ex⟩ := z
      refine ⟨⟨o, e, ex.1⟩, fun a e2 => ?_⟩
      cases e2
      exact ⟨o, e, ex.2.1⟩
    · obtain ⟨o, _, _, _, e, ex, _⟩ := I.hok p _ hk
      refine ⟨⟨o, e, ex.1⟩, fun a e2 => ?_⟩
      cases e2
      exact ⟨o, e, ex.2.1⟩
  | _ => exact False.elim ty
def tBM0 (K : PySem.W.Frag) (T : String) (r : V → List V → Hp → VK → Prop) (to : TE) : TE := fun σ H Q => to σ H fun x H1 => tyV K T x H1 ∧ r x [] H1 Q
def tBM (K : PySem.W.Frag) (T : String) (r : V → List V → Hp → VK → Prop) (to : TE) (t : TA) : TE := fun σ H Q => to σ H fun x H1 => tyV K T x H1 ∧ t σ H1 fun xs H2 => r x xs H2 Q
variable {o e : Expr} {es : List Expr} {to : TE} {t : TA} {name : Str} {apos cpos : Pos} {T id : String} {r : V → List V → Hp → VK → Prop}
theorem pe_bm0 (pa : PlainAttrs T) (slot : Slot T name id) (hty : typeOf (.builtin id) = pure (.type "method_descriptor")) (hm : MtR X id r) (ho : PE X o to)
    (hbase : attributeBase o name X.env (eval o X.env) = eval o X.env := by rfl) (hline : (apos.endLine == cpos.line) = true := by rfl) : PE X (.Call (.Attribute o name apos) [] [] cpos) (tBM0 X.K T r to) := by
  intro pins s σ H Q I h
  refine wpAny_Call_method0_late hbase hline (thn (ho pins s σ H _ I h) fun v s1 ⟨x, H1, I1, r1, ty, q1⟩ => ?_)
  obtain ⟨h1, h2⟩ := tyV_is I1 r1 ty
  exact ⟨T, id, pa, slot, hty, h1, h2, Calls.callWith_builtin rfl (PySem.evalArgs_none (hm pins s1 σ H1 x [] v [] Q I1 r1 .nil q1))⟩
theorem pe_bm (pa : PlainAttrs T) (slot : Slot T name id) (hty : typeOf (.builtin id) = pure (.type "method_descriptor")) (hm : MtR X id r) (ho : PE X o to) (ha : PA X (e :: es) t)
    (hbase : attributeBase o name X.env (eval o X.env) = eval o X.env := by rfl)
    (hfew : ((backTo cpos (starEach (e :: es) X.env)).all (fun x => !x.1) && (backToKw cpos (keywordEach [] X.env)).all (fun x => x.1.isSome)
      && decide ((e :: es).length + ([] : List Keyword).length + (if ([] : List Keyword).isEmpty then 0 else 1) < 30)) = true := by rfl)
    (hline : (apos.endLine == cpos.line) = true := by rfl) (hs : starEach (e :: es) X.env = (false, eval e X.env) :: starEach es X.env := by rfl) (hplain : (backTo cpos (starEach es X.env)).any (·.1) = false := by rfl) :
    PE X (.Call (.Attribute o name apos) (e :: es) [] cpos) (tBM X.K T r to t) := by
  intro pins s σ H Q I h
  refine wpAny_Call_method_late hbase hfew hline rfl (thn (ho pins s σ H _ I h) fun v s1 ⟨x, H1, I1, r1, ty, q1⟩ => ?_)
  obtain ⟨h1, h2⟩ := tyV_is I1 r1 ty
  refine ⟨T, id, pa, slot, hty, h1, h2, ?_⟩
  have hA := ha cpos pins s1 σ H1 _ I1 q1
  rw [hs] at hA ⊢
  refine Calls.callWith_builtin (by show (false || (backTo cpos (starEach es X.env)).any (·.1)) = false; rw [hplain] <;> rfl) (Calls.evalArgs_plain ?_)
  exact thn hA fun us s2 ⟨vs, H2, I2, r2, q2⟩ => hm pins s2 σ H2 x vs v us Q I2 r1 r2 q2
/- xs.append(e), list.index on a module's tuple .. are MtR facts of 06m -/
end
end L2

namespace L2
open PySem PySem.Spec PyProof.Rows

def MtM (X : Cx) (id : String) (r : V → List V → Hp → VK → Prop) : Prop :=
  ∀ (pins : List (Addr × Obj)) (s : Shared) (σ : St) (H : Hp) (x : V) (xs : List V) (v : Value) (us : List Value) (Q : VK), Inv X pins σ H s → RelV x v → Vals xs us → r x xs H Q →
    wpAny (model X.prog X.w) X.A (call (.builtin id) (v :: us)) (EP X pins σ Q) X.xe s

/-! ### lists of values -/
theorem Vals.one : ∀ {x : V} {us : List Value}, Vals [x] us → ∃ u, us = [u] ∧ RelV x u
  | _, _, .cons r .nil => ⟨_, rfl, r⟩
theorem Vals.two : ∀ {x y : V} {us : List Value}, Vals [x, y] us → ∃ u v, us = [u, v] ∧ RelV x u ∧ RelV y v
  | _, _, _, .cons r (.cons q .nil) => ⟨_, _, rfl, r, q⟩
theorem Vals.zero : ∀ {us : List Value}, Vals [] us → us = []
  | _, .nil => rfl
theorem Vals.dropLast {xs : List V} {us : List Value} (h : Vals xs us) : Vals xs.dropLast us.dropLast := by
  induction h with
  | nil => exact .nil
  | cons r t ih =>
    cases t with
    | nil => exact .nil
    | cons q t' => exact .cons r ih
theorem Vals.rep {xs : List V} {us : List Value} (h : Vals xs us) : ∀ k : Nat, Vals (List.replicate k xs).flatten (List.replicate k us).flatten
  | 0 => .nil
  | k + 1 => by
    rw [List.replicate_succ, List.replicate_succ, List.flatten_cons, List.flatten_cons]
    exact Vals.append h (Vals.rep h k)
theorem erase_last {α : Type} (l : List α) : l.eraseIdx (l.length - 1) = l.dropLast := by
  induction l with
  | nil => rfl
  | cons a r ih =>
    cases r with
    | nil => rfl
    | cons b r =>
      have e : (a :: b :: r).length - 1 = ((b :: r).length - 1) + 1 := by
        have h1 : (a :: b :: r).length = r.length + 2 := rfl
        have h2 : (b :: r).length = r.length + 1 := rfl
        omega
      rw [e, List.eraseIdx_cons_succ, ih]
      all_goals rfl
theorem foldl_rep (its : List Value) : ∀ (k : Nat) (acc : List Value),
    List.foldl (fun x1 x2 => x1 ++ x2) acc.toArray (List.replicate k its.toArray) = (acc ++ (List.replicate k its).flatten).toArray
  | 0, acc => by simp
  | k + 1, acc => by
    have e : acc.toArray ++ its.toArray = (acc ++ its).toArray := by simp
    have e2 : (acc ++ its) ++ (List.replicate k its).flatten = acc ++ (List.replicate (k + 1) its).flatten := by
      rw [List.replicate_succ, List.flatten_cons, List.append_assoc]
    rw [← e2, ← foldl_rep its k (acc ++ its), ← e, List.replicate_succ, List.foldl_cons]

section
variable {X : Cx} {pins : List (Addr × Obj)} {σ : St} {H : Hp} {s : Shared} {l b : Addr} {xs ys zs : List V}

/-! ### the two steps: a tracked list is rewritten, a new list is laid -/
theorem Inv.lset {its its' : List Value} {n : Nat} {f : Array Value → Array Value} {t' : Nat} (I : Inv X pins σ H s) (hH : H l = some (.lst xs))
    (e : s.heap.get? l = some { cls := .type "list", data := .seq its.toArray n }) (hf : f its.toArray = its'.toArray) (hv : Vals ys its') (hz : ys.length ≤ sizeLine) :
    Inv X pins σ (upd H l (.lst ys)) { s with heap := s.heap.update l (Obj.mapSeq f), toks := t' } := by
  have q := PySem.IsL.update e f
  rw [hf] at q
  refine I.write (x := l) (e := l) (by rw [hH]; exact trivial) (.inl rfl) (fun b' u hb hu => (Heap.get?_update_other s.heap (Obj.mapSeq f) (Ne.symm hb)).trans hu) ⟨_, q⟩ ?_
  exact ⟨hz, its', _, hv, q⟩
theorem Inv.lnew {its : List Value} {t' : Nat} (I : Inv X pins σ H s) (hv : Vals ys its) (hz : ys.length ≤ sizeLine) :
    Inv X pins σ (upd H s.heap.objs.size (.lst ys)) { s with heap := s.heap.push { cls := .type "list", data := .seq its.toArray }, toks := t' } :=
  I.laid (fun _ _ q => Heap.get?_push_of_some _ q) (Nat.le_refl _) ⟨hz, its, 0, hv, Heap.get?_push_size _ rfl⟩
theorem Inv.fresh (I : Inv X pins σ H s) : H s.heap.objs.size = none := I.hok.fresh (Nat.le_refl _)
theorem Inv.lstM (I : Inv X pins σ H s) (hH : H l = some (.lst xs)) : xs.length ≤ sizeLine ∧ ∃ (its : List Value) (n : Nat), Vals xs its ∧ xs.length = its.length ∧ s.heap.get? l = some { cls := .type "list", data := .seq its.toArray n } := by
  obtain ⟨z, its, n, r, e⟩ := I.hok l _ hH
  exact ⟨z, its, n, r, r.length, e⟩

theorem notLongL {n : Nat} (h : n ≤ sizeLine) : Builtin.List.listTooLong n = false := by
  unfold Builtin.List.listTooLong
  exact decide_eq_false (by omega)
end

section
variable {X : Cx}

/-! ### methods -/
def rAppend : V → List V → Hp → VK → Prop := fun x vs H Q => ∃ l xs y, x = .ref l ∧ vs = [y] ∧ H l = some (.lst xs) ∧ xs.length < sizeLine ∧ Q .non (upd H l (.lst (xs ++ [y])))
theorem mt_append : MtM X "list.append" rAppend := by
  intro pins s σ H x vs v us Q I rx rv h
  obtain ⟨l, xs, y, rfl, rfl, hH, hz, q⟩ := h
  cases rx
  obtain ⟨u, rfl, ru⟩ := rv.one
  obtain ⟨z, its, n, r, hl, e⟩ := I.lstM hH
  refine call_meets F.slot_list_append ⟨_, e, rfl⟩ F.entry_list_append (F.args_list_append_2 _ _) (PySem.list_append l its.toArray n u (by rw [List.size_toArray]; omega)) ⟨e, ?_⟩
  refine ⟨.non, _, I.lset (its' := its ++ [u]) hH e (by simp) (r.append (.cons ru .nil)) ?_, rfl, q⟩
  rw [List.length_append, List.length_singleton]
  omega

def rExtend : V → List V → Hp → VK → Prop := fun x vs H Q => ∃ l b xs zs, x = .ref l ∧ vs = [.ref b] ∧ H l = some (.lst xs) ∧ H b = some (.lst zs) ∧ xs.length + zs.length ≤ sizeLine ∧ Q .non (upd H l (.lst (xs ++ zs)))
def rPop : V → List V → Hp → VK → Prop := fun x vs H Q => ∃ l xs y, x = .ref l ∧ vs = [] ∧ H l = some (.lst xs) ∧ xs[xs.length - 1]? = some y ∧ Q y (upd H l (.lst xs.dropLast))
theorem mt_pop : MtM X "list.pop" rPop := by
  intro pins s σ H x vs v us Q I rx rv h
  obtain ⟨l, xs, y, rfl, rfl, hH, hy, q⟩ := h
  cases rx
  have hus := rv.zero
  subst hus
  obtain ⟨z, its, n, r, hl, e⟩ := I.lstM hH
  obtain ⟨u, hu, ru⟩ := r.get hy
  have hy' : its.toArray[its.toArray.size - 1]? = some u := by
    show its.toArray[its.length - 1]? = some u
    rw [← Array.getElem?_toList, ← hl]
    exact hu
  refine call_meets F.slot_list_pop ⟨_, e, rfl⟩ F.entry_list_pop (F.args_list_pop_1 _) (MeetsSeq.list_pop_last l its.toArray n u hy' (by rw [List.size_toArray]; omega)) ⟨e, ?_⟩
  refine ⟨y, _, I.lset (its' := its.dropLast) hH e ?_ r.dropLast ?_, ru, q⟩
  · show its.toArray.eraseIdxIfInBounds (its.toArray.size - 1) = its.dropLast.toArray
    rw [List.size_toArray, List.eraseIdxIfInBounds_toArray, erase_last]
  · rw [List.length_dropLast]
    omega

def rPopAt : V → List V → Hp → VK → Prop := fun x vs H Q => ∃ l xs i k y, x = .ref l ∧ vs = [.int i] ∧ H l = some (.lst xs) ∧ -(2 ^ 63) ≤ i ∧ i < 2 ^ 63 ∧ seqIndex? i xs.length = some k ∧ xs[k]? = some y ∧ Q y (upd H l (.lst (xs.eraseIdx k)))
def rReverse : V → List V → Hp → VK → Prop := fun x vs H Q => ∃ l xs, x = .ref l ∧ vs = [] ∧ H l = some (.lst xs) ∧ Q .non (upd H l (.lst xs.reverse))
def rClear : V → List V → Hp → VK → Prop := fun x vs H Q => ∃ l xs, x = .ref l ∧ vs = [] ∧ H l = some (.lst xs) ∧ Q .non (upd H l (.lst []))
theorem mt_clear : MtM X "list.clear" rClear := by
  intro pins s σ H x vs v us Q I rx rv h
  obtain ⟨l, xs, rfl, rfl, hH, q⟩ := h
  cases rx
  have hus := rv.zero
  subst hus
  obtain ⟨z, its, n, r, hl, e⟩ := I.lstM hH
  refine call_meets F.slot_list_clear ⟨_, e, rfl⟩ F.entry_list_clear (F.args_list_clear_1 _) (AutoSeq1.list_clear_list_0 l its.toArray n (by rw [List.size_toArray]; omega)) ⟨e, ?_⟩
  exact ⟨.non, _, I.lset (its' := []) (ys := []) hH e rfl .nil (Nat.zero_le _), rfl, q⟩

/-! ### list + list, list += list, list * int -/
def rCat : R2 := fun x y H Q => ∃ l b xs zs, x = .ref l ∧ y = .ref b ∧ H l = some (.lst xs) ∧ H b = some (.lst zs) ∧ xs.length + zs.length ≤ sizeLine ∧ ∀ p, H p = none → Q (.ref p) (upd H p (.lst (xs ++ zs)))
theorem op_cat : OpR X (binaryOp .Add) rCat := by
  intro pins s σ H x y v u Q I rx ry h
  obtain ⟨l, b, xs, zs, rfl, rfl, hH, hB, hz, q⟩ := h
  cases rx
  cases ry
  obtain ⟨z, its, n, r, hl, e⟩ := I.lstM hH
  obtain ⟨z2, its2, n2, r2, hl2, e2⟩ := I.lstM hB
  refine PySem.P.add_list e e2 ?_ (by rw [List.size_toArray, List.size_toArray]; omega)
  have ea : its.toArray ++ its2.toArray = (its ++ its2).toArray := by simp
  rw [ea]
  exact ⟨.ref _, _, I.lnew (t' := s.toks) (r.append r2) (by rw [List.length_append]; omega), rfl, q _ I.fresh⟩
/-- a list times an int (a negative one is nothing) -/
def rRep : R2 := fun x y H Q => ∃ l k xs, x = .ref l ∧ y = .int k ∧ H l = some (.lst xs) ∧ -(2 ^ 63) ≤ k ∧ k < 2 ^ 63 ∧ xs.length * k.toNat ≤ sizeLine ∧
  ∀ p, H p = none → Q (.ref p) (upd H p (.lst (List.replicate k.toNat xs).flatten))
theorem len_rep {α : Type} (xs : List α) (k : Nat) : (List.replicate k xs).flatten.length = k * xs.length := by
  induction k with
  | zero => simp
  | succ k ih => rw [List.replicate_succ, List.flatten_cons, List.length_append, ih, Nat.succ_mul, Nat.add_comm]
theorem op_rep : OpR X (binaryOp .Mult) rRep := by
  intro pins s σ H x y v u Q I rx ry h
  obtain ⟨l, k, xs, rfl, rfl, hH, h1, h2, hz, q⟩ := h
  cases rx
  obtain ⟨t, rfl⟩ := ry
  obtain ⟨z, its, n, r, hl, e⟩ := I.lstM hH
  have hlen : its.toArray.size * k.toNat ≤ sizeLine := by rw [List.size_toArray, ← hl]; exact hz
  have hcap : ¬ its.toArray.size * k.toNat > (2 ^ 63 - 1) / 8 := by
    have : (sizeLine : Nat) ≤ (2 ^ 63 - 1) / 8 := by decide
    omega
  have hfit : ¬ (!Builtin.List.listFitsIndex k) = true := by
    rw [fitsIndex_both h1 h2]
    exact Bool.false_ne_true
  have hlong : ¬ Builtin.List.listTooLong (its.toArray.size * k.toNat) = true := by
    rw [notLongL hlen]
    exact Bool.false_ne_true
  have hnew : List.foldl (fun x1 x2 => x1 ++ x2) #[] (List.replicate (if its.toArray.isEmpty = true then 0 else k.toNat) its.toArray) = (List.replicate k.toNat its).flatten.toArray := by
    have f0 : ∀ m : Nat, List.foldl (fun x1 x2 => x1 ++ x2) #[] (List.replicate m its.toArray) = (List.replicate m its).flatten.toArray := fun m => by
      have := foldl_rep its m []
      rw [List.nil_append] at this
      exact this
    rw [f0]
    cases its with
    | nil => simp
    | cons a r' => rw [if_neg (by simp)]
  refine wpAny_binaryOp_repeat_ref (T := "list") (U := "int") (by decide) ⟨_, e, rfl⟩ (fun s' => typeIs_int s' k t) noFill_list_mul F.fills_int_mul F.slot_int_rmul repeat_list F.slot_int_index.lookup
    (call_meets F.slot_int_rmul (typeIs_int s k t) F.entry_int_rmul (F.args_int_rmul_2 _ _) (int___rmul___int_list k t l its.toArray n)
      ⟨e, rfl, ⟨_, e, rfl⟩, call_meets F.slot_list_mul ⟨_, e, rfl⟩ F.entry_list_mul (F.args_list_mul_2 _ _) (AutoListH.list___mul___list_int_3 l its.toArray n k t hfit hcap hlong) ⟨e, ?_⟩⟩)
  rw [hnew]
  exact ⟨.ref _, _, I.lnew (t' := s.toks) (r.rep k.toNat) (by rw [len_rep, Nat.mul_comm]; exact hz), rfl, q _ I.fresh⟩

/-! ### del xs[i] -/
end

/-! ### xs[a:b] = ys -/
section
variable {prog : Program} {w : World} {A : Around} {E : Value → Shared → Prop} {s : Shared}
set_option maxRecDepth 100000 in
end

section
variable {X : Cx}
end
end L2

namespace Att
open PySem PySem.W PySem.Calls PyProof.Rows

/-! ### the script -/
theorem ints_of_wellAll {P : Params} {h : Heap} : ∀ (ns : List Int) (vs : List Value), WellAll P h vs (ns.map WData.int) → IntsAre vs ns := by
  intro ns
  induction ns with
  | nil =>
    intro vs w
    rw [List.map_nil] at w
    cases w
    exact .nil
  | cons n ns ih =>
    intro vs w
    rw [List.map_cons] at w
    cases w with
    | cons a b =>
      cases a
      exact .cons _ _ (ih _ b)

theorem script_of {l : OpenLaw} {n : Nat} (hn : l.most = some n) {P : Params} {h : Heap} {args : List WData} {vals : List Value}
    (hpre : l.row.toRowW.claim.pre args = true) (hwl : WellAll P h vals args) :
    ∃ a vs ns, vals = [Value.ref a] ∧ args = [WData.list (ns.map WData.int)] ∧ h.get? a = some { cls := .type "list", data := .seq vs.toArray } ∧ IntsAre vs ns ∧ ns.length ≤ n := by
  have hsh : WShape.hasAll [] args [.list .int] = true := (pre_splitW hpre).1
  have hc : l.pre.holds [] { args := args } = true := (pre_splitW hpre).2
  obtain ⟨d, r, rfl, h1, h2⟩ := hasAllW_cons hsh
  obtain rfl := hasAllW_nil h2
  obtain ⟨xs, rfl, h3⟩ := hasW_list h1
  obtain ⟨ns, rfl⟩ := items_int h3
  have hlen : ns.length ≤ n := by
    unfold OpenLaw.pre at hc
    have h4 : (WTm.not (.lt (.lit (.int (n : Int))) (.len (.arg 0)))).holds [] { args := [.list (ns.map .int)] } = true := by
      have h4 := (holds_andW hc).1
      rw [hn] at h4
      exact h4
    have h5 := condW_of h4 (w_not (w_lt w_lit (w_len_list (w_arg rfl))))
    rw [List.length_map] at h5
    refine Nat.le_of_not_lt fun q => ?_
    have q' : (n : Int) < ((ns.length : Nat) : Int) := by omega
    first
      | (rw [decide_eq_true q'] at h5; exact absurd h5 (by decide))
      | (simp at h5; omega)
  cases hwl with
  | cons w1 w2 =>
    cases w2
    cases w1 with
    | list ho hall => exact ⟨_, _, ns, rfl, rfl, ho, ints_of_wellAll ns _ hall, hlen⟩

theorem post_true (l : OpenLaw) (args : List WData) : l.row.toRowW.claim.post args (.bool true) args = true :=
  postW_of (r := l.row.toRowW) (X := (true == true))
    (show WShape.has [] (.bool true) .bool = true by first | rfl | decide | simp [WShape.has, WShape.arms, WShape.armsAll])
    (show (WTm.eq .res (.lit (.bool true))).value [] { args := args, res := some (.bool true), after := args } = some (.bool (true == true)) from w_eq_bool (w_res rfl) w_lit) rfl

/-! ### the attachment: holds_open's last premise (the goal 'hc' behind k_head) from a wpAny of the law's body -/
/-- the same from a codeAny of the CALL (for a layer whose function contracts speak of calls) -/
theorem attach_call {l : OpenLaw} {n : Nat} {q : Program} {loose : List Str} {XP : (Str → Option Value) → Heap → Prop} {YP : World → Heap → Prop} {d : DefRec}
    (hn : l.most = some n) (hdf : d.params.defaults = [])
    (call : ∀ (w : World) (s₀ s₁ : Shared) (mg mb : Str → Option Value) (fa : Addr) (o : Obj) (pm cd doc : Value) (a : Addr) (vs : List Value) (ns : List Int),
      Ground q loose [] XP w s₀ mg mb s₁.heap → YP w s₁.heap →
      s₁.heap.get? fa = some o → o.data = .func (docDef d.name d.params d.body d.scope pm cd doc) → s₁.heap.CodeRec cd d.name → mg d.name = some (.ref fa) →
      s₁.heap.get? a = some { cls := .type "list", data := .seq vs.toArray } → IntsAre vs ns → ns.length ≤ n → s₁.gens = #[] →
      codeAny (model l.prog w) callerA (.call (.ref fa) ⟨[.ref a], []⟩) (fun r s' => r = .ok (.ret (.bool true)) ∧ OldK s₁.heap s'.heap ∧ s'.os = s₁.os ∧ AllBare s'.gens) s₁) :
    WalkO q loose XP YP l.row.toRowW d [] (fun f vs => PySem.call f vs) := by
  intro w s₀ s₁ mg mb G Y fa o pm cd doc dV kV ho hd hcd hD hmg hg args vals as hpre hlay hrd hwl hlo
  obtain rfl : dV = .none := Dflts.none hD hdf
  obtain rfl : kV = .none := Dflts.noKw hD
  obtain ⟨a, vs, ns, rfl, rfl, hobj, hints, hlen⟩ := script_of hn hpre hwl
  refine enter_call (codeAny_mono (call w s₀ s₁ mg mb fa o pm cd doc a vs ns G Y ho (fd_plain hd) hcd hmg hobj hints hlen hg) fun r s' hq => ?_)
  obtain ⟨rfl, h2, h3, h4⟩ := hq
  exact ⟨.inl ⟨.bool true, .bool true, [], rfl, fun _ => rfl, .bool true, post_true l _, fun _ => ⟨List.Pairwise.nil, fun _ hm => (nomatch hm)⟩⟩, h2, h3, h4⟩

/-! ### rules over ANY heap (no ledger) from facts about the written part K: the library's own take a ledger (News) for what they write -/
section
variable {prog : Program} {w : World} {A : Around} {E : Value → Shared → Prop} {s : Shared} {K : Frag}

/-! the whole heap as the ledger: makes every rule that writes through a ledger a rule over any heap -/
def noObjs (h : Heap) : Heap := { h with objs := #[] }
def ledger (h : Heap) (L d : Addr) : List (Addr × Obj) := (List.range h.objs.size).filterMap fun a => if a = L ∨ a = d then none else (h.get? a).map fun o => (a, o)
end
end Att

namespace L2
open PySem PySem.Spec PyProof.Rows

theorem vals_ints : ∀ {vs : List Value} {ns : List Int}, IntsAre vs ns → Vals (ns.map V.int) vs
  | _, _, .nil => .nil
  | _, _, .cons n t h => .cons ⟨t, rfl⟩ (vals_ints h)

/-- nothing is tracked but the script, known to the object (or it is an object of the module) -/
def Only (H : Hp) : Prop := ∀ b, H b = none ∨ ∃ o xs, H b = some (.frz o (.lst xs))

/-- THE HEAD: the law's promise, at the heap behind the top. F, the promise of the law's def, may use that base is part of the heap (so K.In base, base.Ns mainGlobals mg stand in Mod) -/
theorem law_call {P : Program} {w : World} {K : PySem.W.Frag} {mg mb : Str → Option Value} {CX : CXT} {k : Nat} {fa a : Addr} {fd : FuncData} {x : Str} {sp : Sp} {s₁ : Shared} {vs : List Value} {ns : List Int}
    (KX : K.In s₁.heap) (hns : s₁.heap.Ns mainGlobals mg) (hb : s₁.heap.Ns builtinsNs mb) (hbb : ∀ x : Str, x ≠ "__name__" → mb x = bootBuiltins x) (hlim : s₁.heap.NoLimit) (hsee : s₁.heap.NoSeer) (hg : s₁.gens = #[])
    (ha : s₁.heap.get? a = some { cls := .type "list", data := .seq vs.toArray }) (hi : IntsAre vs ns) (hl : ns.length ≤ sizeLine) (hr : Room k callerA)
    (F : ∀ base : Heap, K.In base → base.Ns mainGlobals mg → FnOk P w K mg base CX k fa fd [x] sp) (hbind : ∀ (s : Shared) (u : Value), BindsTo s fd ⟨[u], []⟩ [(x, u)])
    (hsp : ∀ H : Hp, Only H → SqL K H a (ns.map V.int) → sp [.ref a] H (fun v _ => v = .bl true) fun _ _ _ => False)
    (hCX : ∀ H e s', CX [] H s₁ (fun _ _ _ => False) e s' → False) :
    codeAny (model P w) callerA (.call (.ref fa) ⟨[.ref a], []⟩) (fun r s' => r = .ok (.ret (.bool true)) ∧ OldK s₁.heap s'.heap ∧ s'.os = s₁.os ∧ AllBare s'.gens) s₁ := by
  have rv := vals_ints hi
  have lenV := hi.length
  -- from an abstract heap in which nothing but the script may be tracked
  have core : ∀ H : Hp, Only H → SqL K H a (ns.map V.int) → HOk P w H s₁.heap → (∀ b, H b ≠ none → b = a) → (H a ≠ none → K.lookup a = none) →
      codeAny (model P w) callerA (.call (.ref fa) ⟨[.ref a], []⟩) (fun r s' => r = .ok (.ret (.bool true)) ∧ OldK s₁.heap s'.heap ∧ s'.os = s₁.os ∧ AllBare s'.gens) s₁ := by
    intro H hO hS hok hA hK
    have base_of : ∀ {b : Addr} {o : Obj}, s₁.heap.get? b = some o → H b = none → (hidT s₁.heap H).get? b = some o := fun e n => hidT_get e n
    have noA : ∀ {b : Addr} {o : Obj} {es : Array DictEntry} {ep : Nat}, s₁.heap.get? b = some o → o.data = .dict es ep → H b = none := fun {b o es ep} e d => by
      cases q : H b with
      | none => rfl
      | some u =>
        have e' : b = a := hA b (by rw [q]; simp)
        subst e'
        rw [ha] at e; cases e
        have d' : Data.seq vs.toArray _ = Data.dict es ep := d
        cases d'
    have nsK : ∀ {b : Addr} {m : Str → Option Value}, s₁.heap.Ns b m → (hidT s₁.heap H).Ns b m := fun {b m} ⟨o, es, ep, e, d, r⟩ => ⟨o, es, ep, base_of e (noA e d), d, r⟩
    have hKb : K.In (hidT s₁.heap H) := fun b o e => base_of (KX b o e) (by
      cases q : H b with
      | none => rfl
      | some u =>
        have e' : b = a := hA b (by rw [q]; simp)
        subst e'
        rw [hK (by rw [q]; simp)] at e; cases e)
    have seerK : (hidT s₁.heap H).NoSeer := ⟨let ⟨mc, x, y⟩ := hsee.statics; ⟨mc, nsK x, y⟩, let ⟨mm, x, y⟩ := hsee.mods; ⟨mm, nsK x, y⟩, let ⟨mi, x, y⟩ := hsee.imp; ⟨mi, nsK x, y⟩, by
      obtain ⟨mg', bm, ob, x, y, z, u, v⟩ := hsee.main
      refine ⟨mg', bm, ob, nsK x, y, base_of z ?_, u, v⟩
      cases q : H bm with
      | none => rfl
      | some o =>
        have e' : bm = a := hA bm (by rw [q]; simp)
        subst e'
        rw [ha] at z
        cases z
        have u' : Value.type "list" = Value.type "module" := u
        exact absurd u' (by decide)⟩
    have hM : Mod K mg (hidT s₁.heap H) := ⟨hKb, nsK hns, ⟨mb, nsK hb, hbb⟩, let ⟨mc, h1, h2⟩ := hlim; ⟨mc, nsK h1, h2⟩, seerK⟩
    have e0 : Env0 P w K mg (hidT s₁.heap H) callerA [] s₁ H := ⟨rfl, hM, fun b o e => of_hidT e, Nat.le_of_eq (hidT_size _ _), trivial, fun b hb => absurd (show b ∈ ([] : List Addr) from hb) (by simp), hok, .of_eq hg⟩
    refine codeAny_mono ((F _ hKb (nsK hns)).run callerA [] s₁ H ⟨[.ref a], []⟩ [.ref a] [.ref a] _ _ hr e0 (hbind s₁ (.ref a)) (.cons rfl .nil) (hsp H hO hS)) fun r s' h => ?_
    cases r with
    | error e => exact (hCX H e s' h).elim
    | ok fl =>
      cases fl with
      | next => exact False.elim h
      | brk => exact False.elim h
      | cont => exact False.elim h
      | ret u =>
        obtain ⟨v, H', os, bare, un, hok', r', q⟩ := h
        have q' : v = .bl true := q
        subst q'
        obtain rfl : u = Value.bool true := r'
        refine ⟨rfl, OldK.of_keep fun b o e => ?_, os, bare⟩
        cases q : H b with
        | none => exact un.keep b o e q (by intro z; exact absurd (show b ∈ ([] : List Addr) from z) (by simp)) (by simp)
        | some u =>
          rcases hO b with z | ⟨ob, xs, z⟩
          · rw [q] at z; cases z
          · have z2 := un.frzs b ob _ z
            obtain ⟨e1, _⟩ := hok b _ z
            obtain ⟨e2, _⟩ := hok' b _ z2
            rw [e] at e1; cases e1
            exact e2
  cases hk : K.lookup a with
  | some o =>
    -- the script is one of the module's own objects
    have e := KX a o hk
    rw [ha] at e
    cases e
    refine core (fun _ => none) (fun _ => .inl rfl) (.inr ⟨_, vs.toArray, _, hk, rfl, rfl, rfl, by rw [List.size_toArray, lenV]; exact hl, by simpa using rv⟩) (fun b u z => by have z' : (none : Option HO) = some u := z; cases z') (fun b z => absurd rfl z) fun z => absurd rfl z
  | none =>
    refine core (fun b => if b = a then some (.frz { cls := .type "list", data := .seq vs.toArray } (.lst (ns.map V.int))) else none) (fun b => ?_) (.inl (.inr ⟨{ cls := .type "list", data := .seq vs.toArray }, if_pos rfl⟩)) (fun b u z => ?_) (fun b z => ?_) fun _ => hk
    · by_cases hb : b = a
      · exact .inr ⟨_, _, if_pos hb⟩
      · exact .inl (if_neg hb)
    · by_cases hb : b = a
      · have z' := (if_pos hb).symm.trans z
        cases z'
        subst hb
        exact ⟨ha, by rw [List.length_map]; exact hl, vs, _, rv, ha⟩
      · have z' := (if_neg hb).symm.trans z
        cases z'
    · by_cases hb : b = a
      · exact hb
      · exact absurd (if_neg hb) z
end L2

namespace L2
open PySem PySem.Spec PyProof.Rows

abbrev KOf {K : PySem.W.Frag} {h : Heap} (_ : K.In h) : PySem.W.Frag := K

/-- the goal that k_head leaves (case hc), from the law's promise. F gives the function object fd (K's own) once, then the promise over every base -/
theorem walk_of {l : PySem.W.OpenLaw} {n k : Nat} {q : Program} {loose : List Str} {XP : (Str → Option Value) → Heap → Prop} {YP : World → Heap → Prop} {d : DefRec} {K : Params → PySem.W.Frag} {CX : World → CXT} {sp : World → Sp} {x : Str}
    (hI : importsNone q = true) (hn : l.most = some n) (hn2 : n ≤ sizeLine) (hdf : d.params.defaults = []) (hr : Room k callerA)
    (hY : ∀ (w : World) (h : Heap), YP w h → (K w.params).In h)
    (F : ∀ (w : World) (mg : Str → Option Value) (fa : Addr) (h : Heap), (K w.params).In h → h.Ns mainGlobals mg → mg d.name = some (.ref fa) →
      ∃ fd : FuncData, (∀ (s : Shared) (u : Value), BindsTo s fd ⟨[u], []⟩ [(x, u)]) ∧
        ∀ base : Heap, (K w.params).In base → base.Ns mainGlobals mg → FnOk l.prog w (K w.params) mg base (CX w) k fa fd [x] (sp w))
    (hsp : ∀ (w : World) (H : Hp) (a : Addr) (ns : List Int), ns.length ≤ n → Only H → SqL (K w.params) H a (ns.map V.int) → sp w [.ref a] H (fun v _ => v = .bl true) fun _ _ _ => False)
    (hCX : ∀ (w : World) (H : Hp) (s : Shared) (e : Value) (s' : Shared), CX w [] H s (fun _ _ _ => False) e s' → False) :
    PySem.W.WalkO q loose XP YP l.row.toRowW d [] (fun f vs => PySem.call f vs) := by
  refine Att.attach_call hn hdf fun w s₀ s₁ mg mb fa o pm cd doc a vs ns G Y ho hd hcd hmg hobj hints hlen hg => ?_
  have KX := hY w _ Y
  obtain ⟨fd, hb, hF⟩ := F w mg fa _ KX G.T.g hmg
  exact law_call KX G.T.g G.T.b G.T.builtins G.T.nolimit (G.T.seer hI) hg hobj hints (Nat.le_trans hlen hn2) hr hF hb (fun H hO hS => hsp w H a ns hlen hO hS) fun H e s' => hCX w H s₁ e s'
end L2

/-! SHORT WORDS over the layer: a def of the text, its body, what a loop and a test want. -/
namespace L2
open PySem PySem.Spec PyProof.Rows

/-! ### the text by places -/
/-- the j-th statement of a class's body -/
def inClass (s : Stmt) (j : Nat) : Stmt := match s with
  | .ClassDef _ _ _ body _ _ _ _ _ _ _ => body.getD j (.Pass ⟨0, 0, 0, 0⟩)
  | _ => .Pass ⟨0, 0, 0, 0⟩
def defArgs (s : Stmt) : Arguments := match s with
  | .FunctionDef _ a _ _ _ _ _ _ _ _ => a
  | _ => { posonlyargs := [], args := [], vararg := none, kwonlyargs := [], kw_defaults := [], kwarg := none, defaults := [] }
def defBody (s : Stmt) : List Stmt := match s with
  | .FunctionDef _ _ b _ _ _ _ _ _ _ => b
  | _ => []
def defScope (s : Stmt) : Scope := match s with
  | .FunctionDef _ _ _ _ _ _ sc _ _ _ => sc
  | _ => { kind := .function, names := [], isGenerator := false, isCoroutine := false }

/-! ### no exception leaves a def -/
abbrev CX0 : CXT := fun _ _ _ _ _ _ => False
abbrev E0 : XK := fun _ _ _ => False
theorem pass0 {X : Cx} : Passes CX0 X E0 := fun _ _ _ _ _ _ _ h => h.elim

/-! ### a def (or method) of the text as it stands behind the top -/
structure Fun (K : PySem.W.Frag) (x qual : Str) (st : Stmt) (f : Addr) (fd : FuncData) : Prop where
  ex : ∃ (oc : Value) (od : Option Addr) (kV doc pm : Value) (an : Option Addr) (cdv ct : Value) (osl : Array (Option Value)),
    fd = PySem.W.fnOf x qual (defArgs st) (defBody st) (defScope st) .none kV doc pm an cdv ct ∧ K.lookup f = some ⟨oc, od, .func fd, osl⟩ ∧ PySem.W.codeIn K cdv qual = true
  kp : PySem.W.keepIn K (.ref f) = true
section
variable {P : Program} {w : World} {K : PySem.W.Frag} {mg : Str → Option Value} {base : Heap}
/-- THE RULE for a def: its body as a term of rules, and the reading of that term -/
theorem Fun.ok {x qual : Str} {st : Stmt} {f : Addr} {fd : FuncData} {N ps : List Str} {k : Nat} {sp : Sp} (F : Fun K x qual st f fd) (S : FnScope N ps (defScope st)) (len : ∀ vs H Q E, sp vs H Q E → vs.length = ps.length)
    (hbody : ∀ (cdv : Value) (A : Around) (outer : List Env) (s : Shared) (H : Hp) (vs : List V) (Q : VK) (E : XK), Room k (A.deeper (envOfC qual (defScope st) s.heap.objs.size f cdv)) → sp vs H Q E →
      ∃ t, PSs (cxOf CX0 P w K mg base N qual (defScope st) f cdv A outer s H E).nox (defBody st) t ∧ t { nx := fun _ H' => Q .non H', rt := Q } (start N vs) H) : FnOk P w K mg base CX0 (k + 1) f fd ps sp := by
  obtain ⟨oc, od, kV, doc, pm, an, cdv, ct, osl, rfl, lk, hcd⟩ := F.ex
  refine fn_of lk hcd S len fun A outer s H vs Q E hr hsp => ?_
  obtain ⟨t, h, q⟩ := hbody cdv A outer s H vs Q E hr hsp
  exact ⟨t, h.nox, q⟩
/-- how its arguments bind (no defaults): h is «fun _ _ _ _ _ _ us hl => match us, hl with | [_, _], _ => rfl», one _ a parameter -/
theorem Fun.binds {x qual : Str} {st : Stmt} {f : Addr} {fd : FuncData} {ps : List Str} (F : Fun K x qual st f fd)
    (h : ∀ (kV doc pm : Value) (an : Option Addr) (cdv ct : Value) (us : List Value), us.length = ps.length → bindArgs (PySem.W.fnOf x qual (defArgs st) (defBody st) (defScope st) .none kV doc pm an cdv ct) ⟨us, []⟩ = pure (ps.zip us)) : Binds K fd ps [] := by
  obtain ⟨oc, od, kV, doc, pm, an, cdv, ct, osl, rfl, lk, hcd⟩ := F.ex
  exact .all (h kV doc pm an cdv ct)
theorem fun_mk {x qual : Str} {st : Stmt} {f : Addr} {oc : Value} {od an : Option Addr} {osl : Array (Option Value)} {kV doc pm cdv ct : Value} (l : K.lookup f = some ⟨oc, od, .func (PySem.W.fnOf x qual (defArgs st) (defBody st) (defScope st) .none kV doc pm an cdv ct), osl⟩)
    (c : PySem.W.codeIn K cdv qual = true) (k : PySem.W.keepIn K (.ref f) = true) : Fun K x qual st f (PySem.W.fnOf x qual (defArgs st) (defBody st) (defScope st) .none kV doc pm an cdv ct) := ⟨⟨oc, od, kV, doc, pm, an, cdv, ct, osl, rfl, l, c⟩, k⟩
end
theorem small1000 {n : Nat} (h : n ≤ 1000) : n < sizeLine := Nat.lt_of_le_of_lt h (by decide)

/-! ### expressions in short: the name that stands in the i-th slot -/
section
variable {X : Cx}
theorem pv (i : Nat) {x : Str} {pos : Pos} (hN : X.N[i]? = some x := by rfl) (hv : Vis X.env.scope x := by first | exact Or.inl rfl | exact Or.inr (Or.inl rfl) | exact Or.inr (Or.inr rfl)) (hd : (x == ("__debug__" : Str)) = false := by decide)
    (hcd : (x == ("__classdict__" : Str)) = false := by decide) : PE X (.Name x pos) (tVar i) := pe_var hN hv hd hcd
end

/-! ### tests -/
theorem iteF {A B : Prop} (h : B) : if false = true then A else B := by
  rw [if_neg Bool.false_ne_true]
  exact h
theorem iteT {A B : Prop} (h : A) : if true = true then A else B := by
  rw [if_pos rfl]
  exact h
theorem ite2 {c A B : Prop} [Decidable c] (h1 : c → A) (h2 : ¬ c → B) : if c then A else B := by
  by_cases h : c
  · rw [if_pos h]
    exact h1 h
  · rw [if_neg h]
    exact h2 h
/-! ### heaps -/
/-- all that was tracked is as it was -/
def Same (H H' : Hp) : Prop := ∀ b o, H b = some o → H' b = some o
theorem Same.refl (H : Hp) : Same H H := fun _ _ h => h
theorem Same.trans {H H1 H2 : Hp} (a : Same H H1) (b : Same H1 H2) : Same H H2 := fun c o h => b c o (a c o h)
theorem Same.free {H H' : Hp} (e : Same H H') {l : Addr} (h : H' l = Option.none) : H l = Option.none := by
  cases q : H l with
  | none => rfl
  | some o =>
    rw [e l o q] at h
    cases h
theorem Same.seq {K : PySem.W.Frag} {H H' : Hp} {a : Addr} {xs : List V} (e : Same H H') (h : SqL K H a xs) : SqL K H' a xs := by
  rcases h with (h | ⟨o, h⟩) | h
  · exact .inl (.inl (e _ _ h))
  · exact .inl (.inr ⟨o, e _ _ h⟩)
  · exact .inr h

end L2

namespace L2
open PySem PySem.Spec PyProof.Rows
/-! ### lists of pairs as tables -/
section
variable {κ : Type} [DecidableEq κ]
def valV (kvs : List (κ × V)) (k : κ) : Option V := (kvs.find? fun kv => decide (kv.1 = k)).map (·.2)
/-- in its place, or at the end -/
def putK (kvs : List (κ × V)) (k : κ) (v : V) : List (κ × V) :=
  if (kvs.any fun kv => decide (kv.1 = k)) = true then kvs.map (fun kv => if kv.1 = k then (kv.1, v) else kv) else kvs ++ [(k, v)]
def dropK (kvs : List (κ × V)) (k : κ) : List (κ × V) := kvs.filter fun kv => decide (kv.1 ≠ k)

end


/-! ### a tracked dict, its keys ints and texts or tuples of these -/
/-- raw entries of a dict with tuple keys -/
abbrev KT (H : Hp) : List (List Key × V) → List (List Key × Addr × Value) → Prop := Paired fun p q => p.1 = q.1 ∧ H q.2.1 = some (.tup (p.1.map kV)) ∧ RelV p.2 q.2.2
section
variable {P : Program} {w : World} {H : Hp} {h : Heap} {a : Addr}
end

/-- what the dict at a holds at the key y -/
def DGet (H : Hp) (a : Addr) (y : V) (r : Option V) : Prop :=
  (∃ kvs k, Rd H a (.dK kvs) ∧ y = kV k ∧ r = valV kvs k) ∨ ∃ kvs k b, Rd H a (.dT kvs) ∧ y = .ref b ∧ H b = some (.tup (k.map kV)) ∧ r = valV kvs k
/-- the heap behind a[y] = v -/
def DPut (H : Hp) (a : Addr) (y v : V) (H' : Hp) : Prop :=
  (∃ kvs k, H a = some (.dK kvs) ∧ y = kV k ∧ kvs.length < sizeLine ∧ H' = upd H a (.dK (putK kvs k v))) ∨
  ∃ kvs k b, H a = some (.dT kvs) ∧ y = .ref b ∧ H b = some (.tup (k.map kV)) ∧ kvs.length < sizeLine ∧ H' = upd H a (.dT (putK kvs k v))
section
variable {X : Cx} {pins : List (Addr × Obj)} {σ : St} {H : Hp} {s : Shared} {a : Addr} {y v : V} {u r : Value} {o : Option V} {A : Around} {E : Value → Shared → Prop}

end

section
variable {X : Cx} {pins : List (Addr × Obj)} {σ : St} {H : Hp} {s : Shared} {a : Addr} {kvs : List (Key × V)} {k : Key} {u : Value} {A : Around} {E : Value → Shared → Prop}
end


/-! ### readings and rules -/
/-- the element of a subscription, not a slice -/
def NoSl (i : Expr) : Prop := ∀ ov iv, subscripted i false ov iv = operate [ov, iv] (getItem ov iv)
/-- d[y] -/
def tDGet (td ty : TE) : TE := fun σ H Q => td σ H fun x H1 => ty σ H1 fun y H2 => ∃ a v, x = .ref a ∧ DGet H2 a y (some v) ∧ Q v H2
/-- y in d, y not in d -/
def tDIn (ty td : TE) : TE := fun σ H Q => ty σ H fun y H1 => td σ H1 fun x H2 => ∃ a o, x = .ref a ∧ DGet H2 a y o ∧ Q (.bl o.isSome) H2
def tDNotIn (ty td : TE) : TE := fun σ H Q => ty σ H fun y H1 => td σ H1 fun x H2 => ∃ a o, x = .ref a ∧ DGet H2 a y o ∧ Q (.bl (!o.isSome)) H2
/-- d[y] = v -/
def sDPut (td ty tv : TE) : TS := fun D σ H => tv σ H fun v H1 => td σ H1 fun x H2 => ty σ H2 fun y H3 => ∃ a H4, x = .ref a ∧ DPut H3 a y v H4 ∧ D.nx σ H4
/-- d[y] op= v -/
def sDAug (td ty tv : TE) (rd : V → V → Hp → VK → Prop) : TS := fun D σ H => td σ H fun x H1 => ty σ H1 fun y H2 => ∃ a v, x = .ref a ∧ DGet H2 a y (some v) ∧
  tv σ H2 fun y2 H3 => rd v y2 H3 fun z H4 => ∃ H5, DPut H4 a y z H5 ∧ D.nx σ H5
/-- del d[y] -/
def sDDel (td ty : TE) : TS := fun D σ H => td σ H fun x H1 => ty σ H1 fun y H2 => ∃ a kvs k, x = .ref a ∧ H2 a = some (.dK kvs) ∧ y = kV k ∧ (valV kvs k).isSome = true ∧ D.nx σ (upd H2 a (.dK (dropK kvs k)))

section
variable {X : Cx} {o i e value : Expr} {pos pos' tpos : Pos} {td ty tv : TE}
end


/-! ### displays -/
/-- {}, to be a dict of the kind that is wanted -/
def tDNewK : TE := fun _ H Q => ∀ p, H p = none → Q (.ref p) (upd H p (.dK []))
def tDNewT : TE := fun _ H Q => ∀ p, H p = none → Q (.ref p) (upd H p (.dT []))
section
variable {X : Cx} {pos : Pos}
end

/-- the pairs of a display, from the left -/
def tPairs : List (TE × TE) → St → Hp → (List (V × V) → Hp → Prop) → Prop
  | [], _, H, Q => Q [] H
  | (tk, tv) :: r, σ, H, Q => tk σ H fun x H1 => tv σ H1 fun y H2 => tPairs r σ H2 fun ps H3 => Q ((x, y) :: ps) H3
abbrev VV : List (V × V) → List (Value × Value) → Prop := Paired fun p q => RelV p.1 q.1 ∧ RelV p.2 q.2
def PPs (X : Cx) (pos : Pos) (keys : List (Option Expr)) (values : List Expr) (trs : List (TE × TE)) : Prop :=
  ∀ (pins : List (Addr × Obj)) (s : Shared) (σ : St) (H : Hp) (Q : List (V × V) → Hp → Prop), Inv X pins σ H s → tPairs trs σ H Q →
    wpAny (model X.prog X.w) X.A (evalPairs (pairTrees keys values X.env pos)) (fun vs s' => ∃ ps H', Inv X pins σ H' s' ∧ VV ps vs ∧ Q ps H') X.xe s
def mergeK (kvs more : List (Key × V)) : List (Key × V) := more.foldl (fun acc kv => putK acc kv.1 kv.2) kvs
/-- {k: v, ..} with keys ints and texts; the new dict stands empty while the pairs are made -/
def tDisp (trs : List (TE × TE)) : TE := fun σ H Q => ∀ p, H p = none → tPairs trs σ (upd H p (.dK [])) fun ps H2 => H2 p = some (.dK []) ∧ ∃ kvs : List (Key × V), ps = kvs.map (fun kv => (kV kv.1, kv.2)) ∧ kvs.length ≤ 15 ∧ Q (.ref p) (upd H2 p (.dK (mergeK [] kvs)))
/-! ### methods -/
/-- a method call o.m(e) of a built-in, with one argument: what must be seen of the text -/
structure M1 (X : Cx) (o : Expr) (m : Str) (apos : Pos) (e : Expr) (cpos : Pos) : Prop where
  base : attributeBase o m X.env (eval o X.env) = eval o X.env
  few : ((backTo cpos (starEach [e] X.env)).all (fun x => !x.1) && (backToKw cpos (keywordEach [] X.env)).all (fun x => x.1.isSome)
    && decide (([e] : List Expr).length + ([] : List Keyword).length + (if ([] : List Keyword).isEmpty then 0 else 1) < 30)) = true
  line : (apos.endLine == cpos.line) = true
  trees : backTo cpos (starEach [e] X.env) = [(false, eval e X.env)]
structure M2 (X : Cx) (o : Expr) (m : Str) (apos : Pos) (e f : Expr) (cpos : Pos) : Prop where
  base : attributeBase o m X.env (eval o X.env) = eval o X.env
  few : ((backTo cpos (starEach [e, f] X.env)).all (fun x => !x.1) && (backToKw cpos (keywordEach [] X.env)).all (fun x => x.1.isSome)
    && decide (([e, f] : List Expr).length + ([] : List Keyword).length + (if ([] : List Keyword).isEmpty then 0 else 1) < 30)) = true
  line : (apos.endLine == cpos.line) = true
  trees : backTo cpos (starEach [e, f] X.env) = [(false, eval e X.env), (false, eval f X.env)]

/-- a is a dict, whatever its keys -/
def IsD (H : Hp) (a : Addr) : Prop := (∃ kvs, Rd H a (.dK kvs)) ∨ ∃ kvs, Rd H a (.dT kvs)
section
variable {X : Cx} {pins : List (Addr × Obj)} {σ : St} {H : Hp} {s : Shared} {a : Addr} {y d : V} {u r : Value} {o : Option V} {A : Around} {E : Value → Shared → Prop}
end

def tDGet1 (td ty : TE) : TE := fun σ H Q => td σ H fun x H1 => ∃ a, x = .ref a ∧ IsD H1 a ∧ ty σ H1 fun y H2 => ∃ o, DGet H2 a y o ∧ Q (o.getD .non) H2
def tDGet2 (td ty tx : TE) : TE := fun σ H Q => td σ H fun x H1 => ∃ a, x = .ref a ∧ IsD H1 a ∧ ty σ H1 fun y H2 => tx σ H2 fun z H3 => ∃ o, DGet H3 a y o ∧ Q (o.getD z) H3
/-- d.pop(k): there; d.pop(k, x): there or not -/
def tDPop1 (td ty : TE) : TE := fun σ H Q => td σ H fun x H1 => ∃ a, x = .ref a ∧ IsD H1 a ∧ ty σ H1 fun y H2 => ∃ kvs k v, H2 a = some (.dK kvs) ∧ y = kV k ∧ valV kvs k = some v ∧ Q v (upd H2 a (.dK (dropK kvs k)))
def tDPop2 (td ty tx : TE) : TE := fun σ H Q => td σ H fun x H1 => ∃ a, x = .ref a ∧ IsD H1 a ∧ ty σ H1 fun y H2 => tx σ H2 fun z H3 => ∃ kvs k, H3 a = some (.dK kvs) ∧ y = kV k ∧
  (∀ v, valV kvs k = some v → Q v (upd H3 a (.dK (dropK kvs k)))) ∧ (valV kvs k = none → Q z H3)
section
variable {X : Cx} {o e f : Expr} {apos cpos : Pos} {td ty tx : TE}
end

/-! ### dict(d): a copy -/
section
variable {X : Cx} {pins : List (Addr × Obj)} {σ : St} {H : Hp} {s : Shared} {a : Addr} {kvs : List (Key × V)} {A : Around} {E : Value → Shared → Prop}
end


section
variable {X : Cx} {pins : List (Addr × Obj)} {σ : St} {H : Hp} {s : Shared} {a : Addr} {y : V} {u : Value} {A : Around} {E : Value → Shared → Prop}
end
end L2


/-! numbers: the mathematics -/
namespace Nm
/-- the measure that both defs divide by -/
def msr (a b : Int) : Int := if b < 0 then -(Int.gcd a b : Int) else (Int.gcd a b : Int)
theorem gcd_pos {a b : Int} (hb : b ≠ 0) : 0 < Int.gcd a b := Nat.pos_of_ne_zero fun h => hb (Int.gcd_eq_zero_iff.mp h).2
theorem msr_ne {a b : Int} (hb : b ≠ 0) : msr a b ≠ 0 := by
  have := gcd_pos (a := a) hb
  unfold msr; split <;> omega
theorem fdiv_neg_dvd {a g : Int} (h : g ∣ a) : a.fdiv (-g) = -(a / g) := by
  obtain ⟨k, rfl⟩ := h
  by_cases hg : g = 0
  · subst hg; simp
  · rw [Int.mul_ediv_cancel_left _ hg, show g * k = -g * -k by rw [Int.neg_mul_neg], Int.mul_fdiv_cancel_left _ (by omega)]
theorem fdiv_dvd {a g : Int} (h : g ∣ a) : a.fdiv g = a / g := by
  obtain ⟨k, rfl⟩ := h
  by_cases hg : g = 0
  · subst hg; simp
  · rw [Int.mul_ediv_cancel_left _ hg, Int.mul_fdiv_cancel_left _ hg]
theorem top_msr {a b : Int} (hb : b ≠ 0) : a.fdiv (msr a b) = (Rat.divInt a b).num := by
  rw [Rat.num_divInt, Int.gcd_comm b a]
  have d : (Int.gcd a b : Int) ∣ a := Int.gcd_dvd_left ..
  unfold msr
  split
  · rename_i h
    rw [fdiv_neg_dvd d, Int.sign_eq_neg_one_of_neg h, Int.neg_mul, Int.one_mul, Int.neg_ediv_of_dvd d]
  · rw [fdiv_dvd d, Int.sign_eq_one_of_pos (by omega), Int.one_mul]
theorem bottom_msr {a b : Int} (hb : b ≠ 0) : b.fdiv (msr a b) = (Rat.divInt a b).den := by
  rw [Rat.den_divInt, if_neg hb, Int.gcd_comm b a]
  have d : (Int.gcd a b : Int) ∣ b := Int.gcd_dvd_right ..
  rw [Int.natCast_ediv]
  unfold msr
  split
  · rename_i h
    rw [fdiv_neg_dvd d, ← Int.neg_ediv_of_dvd d, Int.ofNat_natAbs_of_nonpos (by omega)]
  · rw [fdiv_dvd d, Int.natAbs_of_nonneg (by omega)]
/-- one turn of the search for the common measure -/
theorem gcd_turn (x y : Int) : Int.gcd y (x % y) = Int.gcd x y := by
  have e : x % y + y * (x / y) = x := Int.emod_add_mul_ediv x y
  have h : Int.gcd (x % y + y * (x / y)) y = Int.gcd (x % y) y := Int.gcd_add_mul_left_left ..
  rw [e] at h
  rw [h, Int.gcd_comm]
theorem abs_if (i : Int) : (if i < 0 then -i else i) = (i.natAbs : Int) := by split <;> omega
theorem num_mul (q : Rat) : ((q.num : Int) : Rat) = q * ((q.den : Int) : Rat) := by
  have hd : ((q.den : Nat) : Int) ≠ 0 := by have := q.den_pos; omega
  have h1 : q = (q.num : Rat) / ((q.den : Int) : Rat) := by
    have := Rat.num_divInt_den q
    rw [Rat.divInt_eq_div] at this
    exact this.symm
  have h0 : (((q.den : Int)) : Rat) ≠ 0 := fun z => hd (by exact_mod_cast z)
  conv => rhs; lhs; rw [h1]
  rw [Rat.div_mul_cancel h0]
theorem den_ne (q : Rat) : ((q.den : Nat) : Int) ≠ 0 := by have := q.den_pos; omega
theorem cast_ne {a : Int} (h : a ≠ 0) : (a : Rat) ≠ 0 := fun z => h (by exact_mod_cast z)
theorem div_eq {t b : Int} {q : Rat} (hb : b ≠ 0) (h : (t : Rat) = q * (b : Rat)) : Rat.divInt t b = q := by
  rw [Rat.divInt_eq_div, h, Rat.mul_div_cancel (cast_ne hb)]
theorem plus_eq (p q : Rat) : Rat.divInt (p.num * q.den + q.num * p.den) (p.den * q.den) = p + q :=
  div_eq (Int.mul_ne_zero (den_ne p) (den_ne q)) (by rw [Rat.intCast_add, Rat.intCast_mul, Rat.intCast_mul, Rat.intCast_mul, num_mul p, num_mul q]; grind)
theorem minus_eq (p q : Rat) : Rat.divInt (p.num * q.den - q.num * p.den) (p.den * q.den) = p - q :=
  div_eq (Int.mul_ne_zero (den_ne p) (den_ne q)) (by rw [Rat.intCast_sub, Rat.intCast_mul, Rat.intCast_mul, Rat.intCast_mul, num_mul p, num_mul q]; grind)
theorem times_eq (p q : Rat) : Rat.divInt (p.num * q.num) (p.den * q.den) = p * q :=
  div_eq (Int.mul_ne_zero (den_ne p) (den_ne q)) (by rw [Rat.intCast_mul, Rat.intCast_mul, num_mul p, num_mul q]; grind)
theorem pow_add (x : Rat) (m : Nat) : ∀ n : Nat, x ^ (m + n) = x ^ m * x ^ n
  | 0 => by rw [Nat.add_zero, Rat.pow_zero]; grind
  | n + 1 => by rw [← Nat.add_assoc, Rat.pow_succ, Rat.pow_succ, pow_add x m n]; grind
end Nm

/-! curves: the mathematics -/
namespace Cv
/-- the height at x -/
def ev : List Rat → Rat → Rat
  | [], _ => 0
  | q :: r, x => q + x * ev r x
/-- without the noughts at the end -/
def strip : List Rat → List Rat
  | [] => []
  | q :: r => if strip r = [] ∧ q = 0 then [] else q :: strip r
theorem ev_strip (x : Rat) : ∀ qs, ev (strip qs) x = ev qs x
  | [] => rfl
  | q :: r => by
    have ih := ev_strip x r
    unfold strip
    split
    · rename_i h
      rw [h.1] at ih
      show (0 : Rat) = q + x * ev r x
      rw [← ih, h.2]; show (0 : Rat) = 0 + x * 0; grind
    · show q + x * ev (strip r) x = _
      rw [ih]; rfl
theorem strip_length : ∀ qs, (strip qs).length ≤ qs.length
  | [] => Nat.le_refl _
  | q :: r => by
    have ih := strip_length r
    unfold strip
    split
    · exact Nat.zero_le _
    · exact Nat.succ_le_succ ih
theorem strip_last : ∀ qs, strip qs ≠ [] → (strip qs)[(strip qs).length - 1]? ≠ some 0
  | [], h => absurd rfl h
  | q :: r, h => by
    have ih := strip_last r
    unfold strip at h ⊢
    split at h
    · exact absurd rfl h
    · rename_i hc
      rw [if_neg hc]
      by_cases e : strip r = []
      · rw [e]
        intro z
        have z' : q = 0 := by simpa using z
        exact hc ⟨e, z'⟩
      · have hl : 0 < (strip r).length := List.length_pos_iff.mpr e
        rw [List.length_cons, show (strip r).length + 1 - 1 = ((strip r).length - 1) + 1 by omega, List.getElem?_cons_succ]
        exact ih e
theorem strip_mem : ∀ qs q, q ∈ strip qs → q ∈ qs
  | [], _, h => h
  | p :: r, q, h => by
    unfold strip at h
    split at h
    · cases h
    · rcases List.mem_cons.mp h with e | e
      · exact e ▸ List.mem_cons_self
      · exact List.mem_cons_of_mem _ (strip_mem r q e)
/-- what the loop from the end finds -/
theorem take_strip : ∀ (qs : List Rat) (w : Nat), (∀ j q, w ≤ j → qs[j]? = some q → q = 0) → (w = 0 ∨ ∃ q, qs[w - 1]? = some q ∧ q ≠ 0) → qs.take w = strip qs
  | [], w, _, _ => by simp [strip]
  | p :: r, 0, h, _ => by
    have ih := take_strip r 0 (fun j q _ e => h (j + 1) q (by omega) (by simpa using e)) (.inl rfl)
    have hp : p = 0 := h 0 p (Nat.le_refl _) rfl
    unfold strip
    rw [← ih, if_pos ⟨rfl, hp⟩]; rfl
  | p :: r, w + 1, h, h2 => by
    have hz : ∀ j q, w ≤ j → r[j]? = some q → q = 0 := fun j q hj e => h (j + 1) q (by omega) (by simpa using e)
    by_cases hw : w = 0
    · subst hw
      have ih := take_strip r 0 hz (.inl rfl)
      rcases h2 with z | ⟨q, e, hq⟩
      · exact absurd z (by omega)
      · have e' : p = q := by simpa using e
        subst e'
        unfold strip
        rw [← ih, if_neg (fun z => hq z.2)]; rfl
    · have ih := take_strip r w hz (by
        rcases h2 with z | ⟨q, e, hq⟩
        · exact absurd z (by omega)
        · refine .inr ⟨q, ?_, hq⟩
          rw [show w + 1 - 1 = (w - 1) + 1 by omega, List.getElem?_cons_succ] at e
          exact e)
      have hne : strip r ≠ [] := by
        rw [← ih]
        rcases h2 with z | ⟨q, e, hq⟩
        · exact absurd z (by omega)
        · rw [show w + 1 - 1 = (w - 1) + 1 by omega, List.getElem?_cons_succ] at e
          intro z
          have hl : 0 < (r.take w).length := by
            rw [List.length_take]
            have := (List.getElem?_eq_some_iff.mp e).1
            omega
          rw [z] at hl; simp at hl
      unfold strip
      rw [← ih, if_neg (fun z => hne (by rw [← ih]; exact z.1))]; rfl
/-- by powers -/
def pw : List Rat → Rat → Rat → Rat
  | [], _, _ => 0
  | q :: r, x, p => q * p + pw r x (p * x)
theorem ev_scale (c x : Rat) : ∀ qs, ev (qs.map (· * c)) x = ev qs x * c
  | [] => by show (0 : Rat) = 0 * c; grind
  | q :: r => by
    show q * c + x * ev (r.map (· * c)) x = (q + x * ev r x) * c
    rw [ev_scale c x r]; grind
theorem ev_snoc (x q : Rat) : ∀ l : List Rat, ev (l ++ [q]) x = ev l x + q * x ^ l.length
  | [] => by show q + x * 0 = 0 + q * x ^ 0; rw [Rat.pow_zero]; grind
  | p :: r => by
    show p + x * ev (r ++ [q]) x = (p + x * ev r x) + q * x ^ (r.length + 1)
    rw [ev_snoc x q r, Rat.pow_succ]; grind
theorem strip_zeros : ∀ (qs : List Rat) (n : Nat), strip (qs ++ List.replicate n 0) = strip qs
  | [], 0 => rfl
  | [], n + 1 => by
    have ih := strip_zeros [] n
    show strip (0 :: List.replicate n 0) = []
    unfold strip
    have e : strip (List.replicate n 0) = [] := by simpa [strip] using ih
    rw [if_pos ⟨e, rfl⟩]
  | q :: r, n => by
    have ih := strip_zeros r n
    show strip (q :: (r ++ List.replicate n 0)) = strip (q :: r)
    unfold strip
    rw [ih]
theorem ev_set (x d : Rat) : ∀ (l : List Rat) (i : Nat) (v : Rat), l[i]? = some v → ev (l.set i (v + d)) x = ev l x + d * x ^ i
  | [], _, _, h => by simp at h
  | q :: r, 0, v, h => by
    have e : q = v := by simpa using h
    subst e
    show (q + d) + x * ev r x = (q + x * ev r x) + d * x ^ 0
    rw [Rat.pow_zero]; grind
  | q :: r, i + 1, v, h => by
    show q + x * ev (r.set i (v + d)) x = (q + x * ev r x) + d * x ^ (i + 1)
    rw [ev_set x d r i v (by simpa using h), Rat.pow_succ]; grind
theorem ev_zeros (x : Rat) : ∀ n, ev (List.replicate n 0) x = 0
  | 0 => rfl
  | n + 1 => by
    show (0 : Rat) + x * ev (List.replicate n 0) x = 0
    rw [ev_zeros x n]; grind
/-- whole tops -/
def evI (ts : List Int) (x : Rat) : Rat := ev (ts.map fun t : Int => (t : Rat)) x
theorem evI_set (x : Rat) (l : List Int) (i : Nat) (v d : Int) (h : l[i]? = some v) : evI (l.set i (v + d)) x = evI l x + (d : Rat) * x ^ i := by
  unfold evI
  rw [List.map_set, Rat.intCast_add]
  exact ev_set x _ _ i _ (by rw [List.getElem?_map, h]; rfl)
theorem evI_zeros (x : Rat) (n : Nat) : evI (List.replicate n 0) x = 0 := by
  unfold evI
  rw [List.map_replicate]
  exact ev_zeros x n
theorem evI_take_succ (x : Rat) (l : List Int) (i : Nat) (v : Int) (h : l[i]? = some v) : evI (l.take (i + 1)) x = evI (l.take i) x + (v : Rat) * x ^ i := by
  have hi : i < l.length := (List.getElem?_eq_some_iff.mp h).1
  unfold evI
  rw [List.take_add_one, h]
  show ev ((l.take i ++ [v]).map _) x = _
  rw [List.map_append]
  show ev (_ ++ [(v : Rat)]) x = _
  rw [ev_snoc, List.length_map, List.length_take, Nat.min_eq_left (by omega)]
/-! ### a curve that is nought at more places than it has numbers -/
/-- what is left when the curve, less its height at c, is divided by x - c -/
def quot (c : Rat) : List Rat → List Rat
  | [] => []
  | [_] => []
  | _ :: b :: l => ev (b :: l) c :: quot c (b :: l)
theorem quot_ev (c x : Rat) : ∀ l : List Rat, ev l x = ev l c + (x - c) * ev (quot c l) x
  | [] => by show (0 : Rat) = 0 + _ * 0; grind
  | [a] => by show a + x * 0 = a + c * 0 + (x - c) * 0; grind
  | a :: b :: l => by
    have h := quot_ev c x (b :: l)
    show a + x * ev (b :: l) x = a + c * ev (b :: l) c + (x - c) * (ev (b :: l) c + x * ev (quot c (b :: l)) x)
    rw [h]; grind
theorem quot_length (c : Rat) : ∀ l : List Rat, (quot c l).length = l.length - 1
  | [] => rfl
  | [_] => rfl
  | _ :: b :: l => by
    show (quot c (b :: l)).length + 1 = _
    rw [quot_length c (b :: l)]
    simp
theorem ev_none (x : Rat) : ∀ l : List Rat, (∀ q ∈ l, q = 0) → ev l x = 0
  | [], _ => rfl
  | a :: l, h => by
    show a + x * ev l x = 0
    rw [h a List.mem_cons_self, ev_none x l fun q hq => h q (List.mem_cons_of_mem _ hq)]
    grind
theorem ident : ∀ (n : Nat) (l : List Rat), l.length ≤ n → ∀ s : Nat, (∀ k : Nat, s ≤ k → ev l (k : Rat) = 0) → ∀ q ∈ l, q = 0
  | 0, l, hl, _, _ => by
    have e : l = [] := List.eq_nil_of_length_eq_zero (by omega)
    rw [e]
    exact fun q h => nomatch h
  | n + 1, [], _, _, _ => fun q h => nomatch h
  | n + 1, a :: t, hl, s, h => by
    have hs := h s (Nat.le_refl _)
    have hq : ∀ q ∈ quot (s : Rat) (a :: t), q = 0 := ident n _ (by rw [quot_length]; simp at hl ⊢; omega) (s + 1) fun k hk => by
      have e := quot_ev (s : Rat) (k : Rat) (a :: t)
      rw [h k (by omega), hs] at e
      have e2 : ((k : Rat) - (s : Rat)) * ev (quot (s : Rat) (a :: t)) (k : Rat) = 0 := by grind
      rcases Rat.mul_eq_zero.mp e2 with z | z
      · have z2 : (k : Rat) = (s : Rat) := by grind
        have z3 : k = s := by exact_mod_cast z2
        omega
      · exact z
    have hall : ∀ x, ev (a :: t) x = 0 := fun x => by
      rw [quot_ev (s : Rat) x (a :: t), hs, ev_none x _ hq]; grind
    have ha : a = 0 := by
      have := hall 0
      show a = 0
      have e : ev (a :: t) 0 = a + 0 * ev t 0 := rfl
      rw [e] at this
      grind
    have ht : ∀ q ∈ t, q = 0 := ident n t (by simp at hl; omega) 1 fun k hk => by
      have e := hall (k : Rat)
      have e1 : ev (a :: t) (k : Rat) = a + (k : Rat) * ev t (k : Rat) := rfl
      rw [e1, ha] at e
      have e2 : (k : Rat) * ev t (k : Rat) = 0 := by grind
      rcases Rat.mul_eq_zero.mp e2 with z | z
      · have z3 : k = 0 := by exact_mod_cast z
        omega
      · exact z
    intro q hq'
    rcases List.mem_cons.mp hq' with z | z
    · rw [z]; exact ha
    · exact ht q z
/-- the difference, number by number -/
def dif : List Rat → List Rat → List Rat
  | [], m => m.map (· * (-1))
  | a :: l, m => (a - m.headD 0) :: dif l m.tail
theorem ev_head (x : Rat) (m : List Rat) : ev m x = m.headD 0 + x * ev m.tail x := by
  cases m with
  | nil => show (0 : Rat) = 0 + x * 0; grind
  | cons b m => rfl
theorem dif_ev (x : Rat) : ∀ l m : List Rat, ev (dif l m) x = ev l x - ev m x
  | [], m => by
    show ev (m.map (· * (-1))) x = 0 - ev m x
    rw [ev_scale]; grind
  | a :: l, m => by
    show (a - m.headD 0) + x * ev (dif l m.tail) x = (a + x * ev l x) - ev m x
    rw [dif_ev x l m.tail, ev_head x m]; grind
theorem dif_none : ∀ l m : List Rat, l.length = m.length → (∀ q ∈ dif l m, q = 0) → l = m
  | [], [], _, _ => rfl
  | [], _ :: _, e, _ => nomatch e
  | _ :: _, [], e, _ => nomatch e
  | a :: l, b :: m, e, h => by
    have h1 : a - b = 0 := h _ List.mem_cons_self
    have h2 := dif_none l m (by simpa using e) fun q hq => h q (List.mem_cons_of_mem _ hq)
    rw [h2, show a = b by grind]
/-- two lists of one length that come to the same everywhere are one -/
theorem same_of (l m : List Rat) (e : l.length = m.length) (h : ∀ x, ev l x = ev m x) : l = m :=
  dif_none l m e (ident _ _ (Nat.le_refl _) 0 fun k _ => by rw [dif_ev, h]; grind)
end Cv

/-! own layer, part 1: a list comprehension -/
namespace L2
open PySem PySem.Spec PyProof.Rows

/-! ### the cells that a comprehension closes over -/
theorem closure_ok {env : Env} : ∀ (names : List (Str × NameKind)) (acc : List (Str × Addr)), (∀ x ∈ names, x.2 = .free → ∃ c, env.cells.lookup x.1 = some c) →
    ∃ cl : List (Str × Addr), (forIn (m := Sem) names acc fun x r => do
        if x.2 == .free then pure (ForInStep.yield ((x.1, ← cellOf env x.1) :: r)) else pure (ForInStep.yield r)) = pure cl ∧
      (∀ p ∈ cl, p ∈ acc ∨ env.cells.lookup p.1 = some p.2) ∧ (∀ p ∈ acc, p ∈ cl) ∧ ∀ x ∈ names, x.2 = .free → ∃ c, (x.1, c) ∈ cl
  | [], acc, _ => ⟨acc, rfl, fun _ h => .inl h, fun _ h => h, fun _ h => nomatch h⟩
  | x :: r, acc, h => by
    by_cases hk : x.2 = .free
    · obtain ⟨c, hc⟩ := h x List.mem_cons_self hk
      obtain ⟨cl, e, h1, h2, h3⟩ := closure_ok r ((x.1, c) :: acc) fun y hy => h y (List.mem_cons_of_mem _ hy)
      refine ⟨cl, ?_, fun p hp => ?_, fun p hp => h2 p (List.mem_cons_of_mem _ hp), fun y hy hf => ?_⟩
      · rw [List.forIn_cons]
        have z : (x.2 == NameKind.free) = true := by rw [hk]; rfl
        have cell : cellOf env x.1 = pure c := by unfold cellOf; rw [hc]
        simp only [z, if_true, cell]
        exact e
      · rcases h1 p hp with q | q
        · rcases List.mem_cons.mp q with rfl | q
          · exact .inr hc
          · exact .inl q
        · exact .inr q
      · rcases List.mem_cons.mp hy with rfl | hy
        · exact ⟨c, h2 _ List.mem_cons_self⟩
        · exact h3 y hy hf
    · obtain ⟨cl, e, h1, h2, h3⟩ := closure_ok r acc fun y hy => h y (List.mem_cons_of_mem _ hy)
      refine ⟨cl, ?_, h1, h2, fun y hy hf => ?_⟩
      · rw [List.forIn_cons]
        have z : (x.2 == NameKind.free) = false := by
          cases e : x.2 <;> first | rfl | exact absurd e hk
        simp only [z, Bool.false_eq_true, if_false]
        exact e
      · rcases List.mem_cons.mp hy with rfl | hy
        · exact absurd hf hk
        · exact h3 y hy hf
theorem lookup_of_mem {x : Str} {c : Addr} : ∀ {cl : List (Str × Addr)}, (x, c) ∈ cl → ∃ c', cl.lookup x = some c'
  | [], h => nomatch h
  | (y, d) :: r, h => by
    by_cases e : x = y
    · subst e; exact ⟨d, by simp⟩
    · rcases List.mem_cons.mp h with q | q
      · cases q; exact absurd rfl e
      · obtain ⟨c', q'⟩ := lookup_of_mem q
        refine ⟨c', ?_⟩
        have : (x == y) = false := by simpa using e
        rw [List.lookup_cons, this]
        exact q'
theorem closureFor_ok {scope : Scope} {env : Env} (h : ∀ x ∈ scope.names, x.2 = .free → ∃ c, env.cells.lookup x.1 = some c) :
    ∃ cl : List (Str × Addr), closureFor scope env = pure cl ∧ (∀ x c, cl.lookup x = some c → env.cells.lookup x = some c) ∧ ∀ x ∈ scope.names, x.2 = .free → ∃ c, cl.lookup x.1 = some c := by
  obtain ⟨cl, e, h1, _, h3⟩ := closure_ok scope.names [] h
  refine ⟨cl, ?_, fun x c q => ?_, fun x hx hf => ?_⟩
  · unfold closureFor
    simp only [bind_pure]
    exact e
  · rcases h1 _ (PySem.mem_of_lookup q) with z | z
    · exact nomatch z
    · exact z
  · obtain ⟨c, hc⟩ := h3 x hx hf
    exact lookup_of_mem hc

/-- what stands in the block's table: a name that was free -/
theorem lookup_relabel_free {env : Env} : ∀ {names : List (Str × NameKind)} {x : Str}, names.lookup x = some .free →
    (names.map fun (n, k) => if (k == NameKind.free && env.scope.kind == .function && env.kindOf n == some .cell) then (n, NameKind.cell) else (n, k)).lookup x = some .cell ∨
    (names.map fun (n, k) => if (k == NameKind.free && env.scope.kind == .function && env.kindOf n == some .cell) then (n, NameKind.cell) else (n, k)).lookup x = some .free
  | [], _, h => by simp at h
  | (n, k) :: r, x, h => by
    have ih := @lookup_relabel_free env r x
    show List.lookup x ((if (k == NameKind.free && env.scope.kind == .function && env.kindOf n == some .cell) = true then (n, NameKind.cell) else (n, k)) :: _) = _ ∨ List.lookup x ((if (k == NameKind.free && env.scope.kind == .function && env.kindOf n == some .cell) = true then (n, NameKind.cell) else (n, k)) :: _) = _
    cases hx : x == n with
    | true =>
      simp only [List.lookup_cons, hx] at h
      cases h
      by_cases hc : (NameKind.free == NameKind.free && env.scope.kind == .function && env.kindOf n == some .cell) = true
      · rw [if_pos hc]; simp [List.lookup_cons, hx]
      · rw [if_neg hc]; simp [List.lookup_cons, hx]
    | false =>
      simp only [List.lookup_cons, hx] at h
      by_cases hc : (k == NameKind.free && env.scope.kind == .function && env.kindOf n == some .cell) = true
      · rw [if_pos hc]; simp only [List.lookup_cons, hx]; exact ih h
      · rw [if_neg hc]; simp only [List.lookup_cons, hx]; exact ih h
/-- a name of the block that has a cell was free -/
theorem relabel_free {env : Env} {x : Str} : ∀ {names : List (Str × NameKind)}, (∀ y ∈ names, y.2 ≠ .cell) →
    ((names.map fun (n, k) => if (k == NameKind.free && env.scope.kind == .function && env.kindOf n == some .cell) then (n, NameKind.cell) else (n, k)).lookup x = some .cell ∨
     (names.map fun (n, k) => if (k == NameKind.free && env.scope.kind == .function && env.kindOf n == some .cell) then (n, NameKind.cell) else (n, k)).lookup x = some .free) → (x, NameKind.free) ∈ names
  | [], _, h => by simp at h
  | (n, k) :: r, hc, h => by
    have ih := @relabel_free env x r fun y hy => hc y (List.mem_cons_of_mem _ hy)
    have hk : k ≠ .cell := hc (n, k) List.mem_cons_self
    change List.lookup x ((if (k == NameKind.free && env.scope.kind == .function && env.kindOf n == some .cell) = true then (n, NameKind.cell) else (n, k)) :: _) = _ ∨ List.lookup x ((if (k == NameKind.free && env.scope.kind == .function && env.kindOf n == some .cell) = true then (n, NameKind.cell) else (n, k)) :: _) = _ at h
    cases hx : x == n with
    | true =>
      have e : x = n := by simpa using hx
      subst e
      by_cases hq : (k == NameKind.free && env.scope.kind == .function && env.kindOf x == some .cell) = true
      · have : k = .free := by
          cases k <;> first | rfl | (simp at hq)
        subst this; exact List.mem_cons_self
      · rw [if_neg hq] at h
        simp only [List.lookup_cons, hx] at h
        rcases h with h | h
        · cases h; exact absurd rfl hk
        · cases h; exact List.mem_cons_self
    | false =>
      refine List.mem_cons_of_mem _ (ih ?_)
      by_cases hq : (k == NameKind.free && env.scope.kind == .function && env.kindOf n == some .cell) = true
      · rw [if_pos hq] at h; simpa only [List.lookup_cons, hx] using h
      · rw [if_neg hq] at h; simpa only [List.lookup_cons, hx] using h

/-! ### the block -/
/-- the context of a comprehension's block: its names are the target's, then those that it closes over -/
def cxComp (X : Cx) (N : List Str) (scope : Scope) (cl : List (Str × Addr)) (C : Addr) (s : Shared) (H : Hp) (fp : List Addr) : Cx :=
  { prog := X.prog, w := X.w, K := X.K, mg := X.mg, base := X.base, A := X.A, N := N, s₀ := s, H₀ := H, env := compEnvC scope cl C X.env, outer := X.stack, stack := X.stack, ex := fp,
    fn := fun _ => false, calm := X.calm, pn := [], xe := fun _ _ => False }
/-- the block's slots: nt for the target, then the outer ones at js -/
def cS (nt : Nat) (js : List Nat) (σ : St) : St := List.replicate nt none ++ js.map fun i => σ.getD i none
abbrev lstO (ys : List Value) : Obj := { cls := .type "list", data := .seq ys.toArray ys.length }

theorem compLoop_any {prog : Program} {w : World} {A : Around} {R : Result → Shared → Prop} {s : Shared} {elt target iter : Expr} {ifs : List Expr} {scope : Scope} {pos : Pos} {it acc : Value} {env : Env} (I : Nat → Shared → Prop)
    (turn : ∀ n s, I n s → wpAny (model prog w) A (pyNext it) (fun r s₁ => match r with
      | none => R (.ok .next) s₁
      | some v => wpAny (model prog w) A (letOwnedTupleGo target it v) (fun _ s₁' => wpAny (model prog w) A (assign target env v) (fun _ s₂ =>
          wpAny (model prog w) A (forIn ifs true fun c r => if r = true then do let ok ← isTrue c env (eval c env); pure (ForInStep.yield ok) else pure (ForInStep.yield r)) (fun ok s₃ =>
            if ok = true then wpAny (model prog w) A (eval elt env) (fun x s₄ =>
              wpAny (model prog w) A (call (.builtin "list.append") [acc, x]) (fun _ s₅ => ∃ m, m < n ∧ I m s₅) (fun _ _ => False) s₄) (fun _ _ => False) s₃
            else ∃ m, m < n ∧ I m s₃) (fun _ _ => False) s₂) (fun _ _ => False) s₁') (fun _ _ => False) s₁) (fun _ _ => False) s)
    (n : Nat) (h : I n s) :
    codeAny (model prog w) A (.compLoop (.ListComp elt [⟨target, iter, ifs, 0⟩] scope pos) 0 it acc env) R s := by
  refine codeAny_loop rfl I (fun n s hI => ?_) n h
  show wpAny _ A ((compTurn (.ListComp elt [⟨target, iter, ifs, 0⟩] scope pos) 0 it acc env).onRaise (fun x => do noteFrame x env; theTreesLotGoes x)) _ _ s
  refine wpAny_noted ?_
  rw [compTurn_list]
  refine wpAny_bind (wpAny_standAt (wpAny_bind (wpAny_mono (turn n s hI) (fun r s₁ h₁ => ?_) fun _ _ h' => h'.elim)))
  cases r with
  | none => exact wpAny_pure h₁
  | some v =>
    refine wpAny_bind (wpAny_mono h₁ (fun _ s₁' h₁' => ?_) fun _ _ h' => h'.elim)
    refine wpAny_bind (wpAny_mono h₁' (fun _ s₂ h₂ => wpAny_bind (wpAny_mono h₂ (fun ok s₃ h₃ => ?_) fun _ _ h' => h'.elim)) fun _ _ h' => h'.elim)
    cases ok with
    | false => exact wpAny_pure ⟨rfl, h₃⟩
    | true =>
      exact wpAny_bind (wpAny_bind (wpAny_mono h₃ (fun x s₄ h₄ => wpAny_bind (wpAny_mono h₄ (fun _ s₅ h₅ => wpAny_pure (wpAny_pure ⟨rfl, h₅⟩)) fun _ _ h' => h'.elim)) fun _ _ h' => h'.elim))

/-- the tests of a clause -/
def PTs (X : Cx) (ifs : List Expr) (t : TT) : Prop :=
  ∀ (pins : List (Addr × Obj)) (s : Shared) (σ : St) (H : Hp) (Q : Bool → Hp → Prop), Inv X pins σ H s → t σ H Q →
    wpAny (model X.prog X.w) X.A (forIn ifs true fun c r => if r = true then do let ok ← isTrue c X.env (eval c X.env); pure (ForInStep.yield ok) else pure (ForInStep.yield r)) (TP X pins σ Q) X.xe s
def tYes : TT := fun _ H Q => Q true H
theorem pts_nil {X : Cx} : PTs X [] tYes := fun _ _ _ H _ I h => wpAny_tests_nil ⟨H, I, h⟩
/-- what a comprehension's n turns are to keep -/
structure LcW (J : It) (n nt : Nat) (js : List Nat) (σ : St) (g : TG) (tc : TT) (te : TE) (Fin : List V → Hp → Prop) (W : Nat → List V → Hp → Prop) : Prop where
  go : ∀ i zs H, i < n → W i zs H → J.go i H ∧ zs.length < sizeLine
  step : ∀ i zs H x H', i < n → W i zs H → J.yld i H x H' → g x (cS nt js σ) H' fun σ2 H2 => tc σ2 H2 fun b H3 => if b = true then te σ2 H3 fun y H4 => W (i + 1) (zs ++ [y]) H4 else W (i + 1) zs H3
  stop : ∀ zs H, W n zs H → J.stop n H ∧ zs.length ≤ sizeLine ∧ Fin zs H
@[irreducible] def tLC (wi : TI) (nt : Nat) (js : List Nat) (g : TG) (tc : TT) (te : TE) : TE := fun σ H Q => wi σ H fun J H1 =>
  ∃ (n : Nat) (W : Nat → List V → Hp → Prop), W 0 [] H1 ∧ LcW J n nt js σ g tc te (fun zs H' => ∀ p, H' p = none → Q (.ref p) (upd H' p (.lst zs))) W

theorem lc_of {wi : TI} {nt : Nat} {js : List Nat} {g : TG} {tc : TT} {te : TE} {σ : St} {H : Hp} {Q : VK}
    (h : wi σ H fun J H1 => ∃ (n : Nat) (W : Nat → List V → Hp → Prop), W 0 [] H1 ∧ LcW J n nt js σ g tc te (fun zs H' => ∀ p, H' p = none → Q (.ref p) (upd H' p (.lst zs))) W) : tLC wi nt js g tc te σ H Q := by
  unfold tLC; exact h
theorem lc_to {wi : TI} {nt : Nat} {js : List Nat} {g : TG} {tc : TT} {te : TE} {σ : St} {H : Hp} {Q : VK} (h : tLC wi nt js g tc te σ H Q) :
    wi σ H fun J H1 => ∃ (n : Nat) (W : Nat → List V → Hp → Prop), W 0 [] H1 ∧ LcW J n nt js σ g tc te (fun zs H' => ∀ p, H' p = none → Q (.ref p) (upd H' p (.lst zs))) W := by
  unfold tLC at h; exact h

/-- what the block's names need -/
structure CompOk (X : Cx) (N : List Str) (nt : Nat) (js : List Nat) (scope : Scope) : Prop where
  kind : scope.kind = .function
  nocell : ∀ y ∈ scope.names, y.2 ≠ .cell
  names : ∀ y ∈ scope.names, y.2 = .local → scope.names.lookup y.1 = some .local
  free : ∀ y ∈ scope.names, y.2 = .free → X.env.kindOf y.1 = some .cell ∨ X.env.kindOf y.1 = some .free
  len : N.length = nt + js.length
  outer : ∀ j i, js[j]? = some i → ∃ x, N[nt + j]? = some x ∧ X.N[i]? = some x ∧ scope.names.lookup x = some .free

/-- .. by looking -/
def compOkB (NX : List Str) (sc : Scope) (N : List Str) (nt : Nat) (js : List Nat) (scope : Scope) : Bool :=
  decide (scope.kind = .function) && scope.names.all (fun y => decide (y.2 ≠ .cell)) && scope.names.all (fun y => decide (y.2 ≠ .local) || decide (scope.names.lookup y.1 = some .local)) &&
  scope.names.all (fun y => decide (y.2 ≠ .free) || (decide (sc.names.lookup y.1 = some .cell) || decide (sc.names.lookup y.1 = some .free))) && decide (N.length = nt + js.length) &&
  (List.range js.length).all fun j => match js[j]?, N[nt + j]? with
    | some i, some x => decide (NX[i]? = some x) && decide (scope.names.lookup x = some .free)
    | _, _ => false
theorem CompOk.look {X : Cx} {NX N : List Str} {sc scope : Scope} {nt : Nat} {js : List Nat} (hN : X.N = NX) (hs : X.env.scope = sc) (h : compOkB NX sc N nt js scope = true) : CompOk X N nt js scope := by
  unfold compOkB at h
  simp only [Bool.and_eq_true, List.all_eq_true, Bool.or_eq_true, decide_eq_true_eq] at h
  obtain ⟨⟨⟨⟨⟨h1, h2⟩, h3⟩, h4⟩, h5⟩, h6⟩ := h
  refine ⟨h1, h2, fun y hy hl => (h3 y hy).resolve_left fun z => z hl, fun y hy hf => ?_, h5, fun j i e => ?_⟩
  · have q := (h4 y hy).resolve_left fun z => z hf
    rw [← hs] at q
    exact q
  · have hj : j < js.length := (List.getElem?_eq_some_iff.mp e).1
    have q := h6 j (List.mem_range.mpr hj)
    rw [e] at q
    cases en : N[nt + j]? with
    | none => rw [en] at q; cases q
    | some x =>
      rw [en] at q
      simp only [Bool.and_eq_true, decide_eq_true_eq] at q
      exact ⟨x, rfl, by rw [hN]; exact q.1, q.2⟩

section
variable {X : Cx} {N : List Str} {nt : Nat} {js : List Nat} {scope : Scope} {cl : List (Str × Addr)}
theorem HOk.track {P : Program} {w : World} {H : Hp} {h : Heap} {a : Addr} {o : HO} (x : HOk P w H h) (hn : H a = none) (new : ObjOk P w (upd H a o) h a o) : HOk P w (upd H a o) h := fun b u e => by
  by_cases hb : b = a
  · subst hb; rw [upd_same] at e; cases e; exact new
  · rw [upd_ne hb] at e
    exact (x b u e).stay (fun c v _ q => q) (fun c q => by rw [upd_ne (ne_of_none q hn)]; exact q) fun c xs q => by rw [upd_ne (ne_of_none q hn)]; exact q

/-- the block's entry -/
theorem inv_comp {pins : List (Addr × Obj)} {σ : St} {H : Hp} {s : Shared} {C D : Addr} {h' : Heap} {tk : Nat} {fp : List Addr} {m : Str → Option Value} (I : Inv X pins σ H s) (ok : CompOk X N nt js scope)
    (hcl : ∀ x c, cl.lookup x = some c → X.env.cells.lookup x = some c) (hcl2 : ∀ x ∈ scope.names, x.2 = .free → ∃ c, cl.lookup x.1 = some c)
    (hf : ∀ b ∈ fp, FpOk X pins H b) (ho : ∀ b ∈ fp, ∃ o, s.heap.get? b = some o ∧ ∀ v, o.data ≠ .cell v)
    (hD : s.heap.objs.size ≤ D) (hC : s.heap.objs.size ≤ C) (hDC : D ≠ C) (k : ∀ b o, s.heap.get? b = some o → h'.get? b = some o) (hn : h'.Ns C m) (hd : h'.get? D = some (lstO [])) :
    Inv (cxComp X N scope cl C s H fp) [(D, lstO [])] (cS nt js σ) H { s with heap := h', toks := tk } := by
  have lt : ∀ b ∈ fp, b < s.heap.objs.size := fun b hb => by obtain ⟨o, e, _⟩ := ho b hb; exact Heap.lt_size e
  have frlt : ∀ b ∈ frs X.stack, b < s.heap.objs.size := fun b hb => by
    obtain ⟨_, o, e, _⟩ := I.stack.mem hb
    exact Heap.lt_size e
  refine ⟨⟨I.ok.mod, ok.kind, I.ok.glob, I.ok.blt, hC, fun x y c h1 h2 => I.ok.inj x y c (hcl x c h1) (hcl y c h2), fun x hx => ?_, fun x c hx => absurd hx Bool.false_ne_true, I.ok.hd, I.ok.frames, .inl rfl, fun b hb => ⟨?_, fun x c e => (hf b hb).2.2.2.2.1 x c (hcl x c e)⟩, I.bs,
      Nat.le_trans I.ok.bsz I.sz, fun b o e hb => ?_, fun b hb hs => ?_, I.stack, I.stkFree⟩, rfl, I.bare, Un.kept k, ⟨m, hn, fun j x v h1 h2 h3 => ?_⟩, fun x c e => ?_, I.hok.fresh hC, fun x c e => I.freeC x c (hcl x c e), fun p hp => ?_, I.hok.kept k, ?_⟩
  · obtain ⟨c, hc⟩ := hcl2 (x, .free) (relabel_free ok.nocell hx) rfl
    exact ⟨c, hc⟩
  · exact Nat.ne_of_lt (Nat.lt_of_lt_of_le (lt b hb) hC)
  · rcases (hf b hb).2.2.2.1 with z | z
    · exact I.ok.noex b o e z
    · exact absurd (Nat.lt_of_lt_of_le (Heap.lt_size e) (Nat.le_trans I.ok.bsz z)) (Nat.lt_irrefl _)
  · rcases List.mem_cons.mp (I.stkSub b hs) with z | z
    · exact (hf b hb).2.1 z
    · exact (hf b hb).2.2.1 z
  · change N[j]? = some x at h1
    unfold cS at h2
    by_cases hj : j < nt
    · rw [List.getElem?_append_left (by simpa using hj), List.getElem?_replicate] at h2
      rw [if_pos hj] at h2; cases h2
    · rw [List.getElem?_append_right (by simpa using Nat.not_lt.mp hj), List.length_replicate, List.getElem?_map] at h2
      cases ei : js[j - nt]? with
      | none => rw [ei] at h2; cases h2
      | some i =>
        rw [ei] at h2
        obtain ⟨y, e1, e2, e3⟩ := ok.outer _ i ei
        rw [show nt + (j - nt) = j by omega, h1] at e1
        cases e1
        have hv : σ[i]? = some (some v) := by
          simp only [Option.map_some, Option.some.injEq] at h2
          rw [List.getD_eq_getElem?_getD] at h2
          cases eσ : σ[i]? with
          | none => rw [eσ] at h2; cases h2
          | some z => rw [eσ] at h2; simp at h2; rw [h2]
        obtain ⟨m₀, _, hl⟩ := I.loc
        have kf := ok.free (x, .free) (PySem.mem_of_lookup e3) rfl
        obtain ⟨u, r, l⟩ := hl i x v e2 hv (kf.elim (fun z => .inr (.inl z)) fun z => .inr (.inr z))
        refine ⟨u, r, .inr ⟨lookup_relabel_free e3, ?_⟩⟩
        rcases l with ⟨kl, _⟩ | ⟨_, c, ec, ⟨oc, hoc, hod⟩⟩
        · rcases kf with z | z <;> (rw [z] at kl; cases kl)
        · obtain ⟨c', hc'⟩ := hcl2 (x, .free) (PySem.mem_of_lookup e3) rfl
          have e' := hcl x c' hc'
          rw [ec] at e'
          cases e'
          exact ⟨c, hc', oc, k _ _ hoc, hod⟩
  · obtain ⟨v, oc, hoc, hod⟩ := I.cell x c (hcl x c e)
    exact ⟨v, oc, k _ _ hoc, hod⟩
  · have e : p = (D, lstO []) := by
      have hp' : p ∈ [(D, lstO [])] := hp
      simpa using hp'
    subst e
    refine ⟨hd, I.hok.fresh hD, hDC, fun hb => absurd (Nat.lt_of_lt_of_le (frlt D hb) hD) (Nat.lt_irrefl _), fun v z => by cases z⟩
  · show (cS nt js σ).length = N.length
    unfold cS
    rw [List.length_append, List.length_replicate, List.length_map, ok.len]
end
end L2

/-! own layer, part 2: a list comprehension runs -/
namespace L2
open PySem PySem.Spec PyProof.Rows

/-- the target's store leaves the other slots -/
def Stays (g : TG) (nt : Nat) : Prop := ∀ x σ H Q, g x σ H Q → g x σ H fun σ2 H2 => (σ2.length = σ.length ∧ σ2.drop nt = σ.drop nt) ∧ Q σ2 H2
theorem stays_name {i nt : Nat} (h : i < nt) : Stays (gName i) nt := fun x σ H Q q => ⟨⟨List.length_set, by
  apply List.ext_getElem?
  intro k
  rw [List.getElem?_drop, List.getElem?_drop, List.getElem?_set_ne (by omega)]⟩, q⟩

section
variable {X : Cx} {N : List Str} {nt : Nat} {js : List Nat} {scope : Scope} {elt iter tg : Expr} {ifs : List Expr} {pos : Pos} {g : TG} {tc : TT} {te : TE} {wi : TI}

theorem cS_weak {σ σ2 : St} (hl : σ2.length = (cS nt js σ).length) (hd : σ2.drop nt = (cS nt js σ).drop nt) : ∀ (i : Nat) v, (cS nt js σ)[i]? = some (some v) → σ2[i]? = some (some v) := fun i v e => by
  by_cases hi : i < nt
  · unfold cS at e
    rw [List.getElem?_append_left (by simpa using hi), List.getElem?_replicate, if_pos hi] at e
    cases e
  · have q : ((cS nt js σ).drop nt)[i - nt]? = some (some v) := by rw [List.getElem?_drop, show nt + (i - nt) = i by omega]; exact e
    rw [← hd, List.getElem?_drop, show nt + (i - nt) = i by omega] at q
    exact q

set_option maxHeartbeats 4000000 in
theorem comp_run {pins : List (Addr × Obj)} {σ : St} {H : Hp} {s₂ : Shared} {cl : List (Str × Addr)} {J : It} {fp : List Addr} {it : Addr} {tn : Nat → Heap → Prop} {E : Value → Shared → Prop} {Fin : List V → Hp → Prop} {W : Nat → List V → Hp → Prop} {nn : Nat}
    {RR : Value → Addr → Result → Shared → Prop} (hcalm : X.calm = true) (ok : CompOk X N nt js scope)
    (hcl : ∀ x c, cl.lookup x = some c → X.env.cells.lookup x = some c) (hcl2 : ∀ x ∈ scope.names, x.2 = .free → ∃ c, cl.lookup x.1 = some c)
    (hg : ∀ cl C s H fp, PG (cxComp X N scope cl C s H fp) tg g) (hk : Stays g nt) (hc : ∀ cl C s H fp, PTs (cxComp X N scope cl C s H fp) ifs tc) (he : ∀ cl C s H fp, PE (cxComp X N scope cl C s H fp) elt te)
    (I : Inv X pins σ H s₂) (T : Turn X.prog X.w X.K tg J fp it tn) (st : tn 0 s₂.heap) (hf : ∀ b ∈ fp, FpOk X pins H b) (w0 : W 0 [] H) (lw : LcW J nn nt js σ g tc te Fin W)
    (hRR : ∀ D C s' H' zs m, Inv X pins σ (upd H' D (.lst zs)) s' → s'.heap.Ns C m → H' D = none → (upd H' D (.lst zs)) C = none → C ≠ X.env.locals → X.s₀.heap.objs.size ≤ C → (∀ x c, X.env.cells.lookup x = some c → c ≠ C) →
      (∀ p ∈ X.pn ++ pins, p.1 ≠ C) → Fin zs H' → RR (.ref D) C (.ok .next) s') :
    wpAny (model X.prog X.w) X.A (newList []) (fun acc s₃ => wpAny (model X.prog X.w) X.A (newFunctionEnv scope X.env.globals cl [] X.env.qual none .none (some X.env)) (fun cenv s₄ =>
      codeAny (model X.prog X.w) X.A (.compStart (.ListComp elt [⟨tg, iter, ifs, 0⟩] scope pos) 0 (.ref it) acc { cenv with scope := relabel scope X.env }) (RR acc cenv.locals) s₄) E s₃) E s₂ := by
  refine wpAny_newObj_type (wpAny_newFunctionEnv ok.nocell (by intro y hy; simp at hy) (fun h₁ hns₁ hsb₁ => ?_) ok.kind)
  dsimp only at hns₁ hsb₁ ⊢
  generalize hH2 : s₂.heap.push { cls := .type "list", dict := none, data := .seq ([] : List Value).toArray } = H2 at hns₁ hsb₁ ⊢
  have hC : H2.objs.size = s₂.heap.objs.size + 1 := by rw [← hH2, Heap.size_push]
  have hDC : s₂.heap.objs.size ≠ H2.objs.size := by rw [hC]; exact Nat.ne_of_lt (Nat.lt_succ_self _)
  have hCle : s₂.heap.objs.size ≤ H2.objs.size := by rw [hC]; exact Nat.le_succ _
  have below : ∀ b, b < s₂.heap.objs.size → b ≠ H2.objs.size ∧ b ≠ s₂.heap.objs.size := fun b hb => ⟨by rw [hC]; exact Nat.ne_of_lt (Nat.lt_succ_of_lt hb), Nat.ne_of_lt hb⟩
  have old : ∀ b o, s₂.heap.get? b = some o → h₁.get? b = some o := fun b o e => hsb₁.extBut b o (below b (Heap.lt_size e)).1 (Heap.get?_push_of_some _ (hH2 ▸ Heap.get?_push_of_some _ e))
  have hacc : h₁.get? s₂.heap.objs.size = some (lstO []) := hsb₁.extBut _ _ hDC (Heap.get?_push_of_some _ (hH2 ▸ Heap.get?_push_size _ rfl))
  have ho := T.obj 0 _ st
  have lt : ∀ b ∈ fp, b < s₂.heap.objs.size := fun b hb => by obtain ⟨o, e, _⟩ := ho b hb; exact Heap.lt_size e
  have loop : ∀ s₃ : Shared, s₃ = { s₂ with heap := h₁, toks := s₂.toks + ([] : List (Str × Value)).length } →
      codeAny (model X.prog X.w) X.A (.compLoop (.ListComp elt [⟨tg, iter, ifs, 0⟩] scope pos) 0 (.ref it) (.ref s₂.heap.objs.size) (compEnvC scope cl H2.objs.size X.env)) (RR (.ref s₂.heap.objs.size) H2.objs.size) s₃ := by
    rintro s₃ rfl
    have I0 : Inv (cxComp X N scope cl H2.objs.size s₂ H fp) [(s₂.heap.objs.size, lstO [])] (cS nt js σ) H { s₂ with heap := h₁, toks := s₂.toks + ([] : List (Str × Value)).length } :=
      inv_comp I ok hcl hcl2 hf ho (Nat.le_refl _) hCle hDC old hns₁ hacc
    have fpy : ∀ {H' : Hp} {ys : List Value}, (∀ b ∈ fp, H' b = none) → ∀ b ∈ fp, FpOk (cxComp X N scope cl H2.objs.size s₂ H fp) [(s₂.heap.objs.size, lstO ys)] H' b := fun {H' ys} hn b hb =>
      ⟨hn b hb, (below b (lt b hb)).1, I0.ok.exfs b hb, .inl hb, (I0.ok.exf b hb).2, fun p hp => by
        have hp' : p ∈ [(s₂.heap.objs.size, lstO ys)] := hp
        have e : p = (s₂.heap.objs.size, lstO ys) := by simpa using hp'
        rw [e]; exact Ne.symm (below b (lt b hb)).2⟩
    refine compLoop_any (fun n s' => ∃ i zs ys H', n = nn - i ∧ i ≤ nn ∧ Inv (cxComp X N scope cl H2.objs.size s₂ H fp) [(s₂.heap.objs.size, lstO ys)] (cS nt js σ) H' s' ∧ Vals zs ys ∧ tn i s'.heap ∧ (∀ b ∈ fp, H' b = none) ∧ W i zs H') ?_ nn
      ⟨0, [], [], H, rfl, Nat.zero_le _, I0, .nil, T.keep 0 _ _ st (fun b _ o e => old b o e), fun b hb => (hf b hb).1, w0⟩
    rintro n s' ⟨i, zs, ys, H', hn0, hile, I', rv, st', fr', w'⟩
    by_cases hlt : i < nn
    case neg =>
      have hie : i = nn := by omega
      rw [hie] at w' st'
      obtain ⟨stop, zl, fin⟩ := lw.stop zs H' w'
      refine thn (T.done (cxComp X N scope cl H2.objs.size s₂ H fp) rfl rfl rfl hcalm nn _ s' _ H' (fun _ _ => False) I' (fpy fr') st' stop) fun r s4 ⟨hr, I4⟩ => ?_
      subst hr
      have zD := (I4.pin (s₂.heap.objs.size, lstO ys) (List.mem_append_right _ (List.mem_singleton.mpr rfl)))
      have u := I4.base
      have u2 : Un (frs X.stack) fp H (upd H' s₂.heap.objs.size (.lst zs)) s₂.heap s4.heap :=
        ⟨u.keep, u.slot, fun b o q n hx => by rw [upd_ne (Nat.ne_of_lt (Heap.lt_size q))]; exact u.free b o q n hx, u.there, fun b xs q => by rw [upd_ne (ne_of_none (u.tups b xs q) zD.2.1)]; exact u.tups b xs q,
         fun b o xs q => by rw [upd_ne (ne_of_none (u.frzs b o xs q) zD.2.1)]; exact u.frzs b o xs q, fun b ps q => by
           obtain ⟨more, e⟩ := u.tbls b ps q
           exact ⟨more, by rw [upd_ne (ne_of_none e zD.2.1)]; exact e⟩⟩
      have hok2 : HOk X.prog X.w (upd H' s₂.heap.objs.size (.lst zs)) s4.heap := HOk.track I4.hok zD.2.1 ⟨zl, ys, _, rv, zD.1⟩
      have I5 : Inv X pins σ (upd H' s₂.heap.objs.size (.lst zs)) s4 := I.call' I4.os u2 hok2 I4.bare fun b hb => ⟨(hf b hb).2.2.2.1, (hf b hb).2.1, (hf b hb).2.2.2.2.1, (hf b hb).2.2.2.2.2⟩
      obtain ⟨m, hn, _⟩ := I4.loc
      refine hRR _ _ s4 H' zs m I5 hn zD.2.1 ?_ ?_ (Nat.le_trans I.sz hCle) ?_ ?_ fin
      · rw [upd_ne (Ne.symm hDC)]; exact I4.free
      · exact Nat.ne_of_gt (Nat.lt_of_lt_of_le I.lt hCle)
      · intro x c e z
        obtain ⟨v, q⟩ := I.cell x c e
        exact absurd (Nat.lt_of_lt_of_le q.lt (by rw [z]; exact hCle)) (Nat.lt_irrefl _)
      · intro p hp z
        exact absurd (Nat.lt_of_lt_of_le (Heap.lt_size (I.pin p hp).1) (by rw [z]; exact hCle)) (Nat.lt_irrefl _)
    case pos =>
      obtain ⟨go, zl⟩ := lw.go i zs H' hlt w'
      have step := lw.step i zs H'
      refine thn (T.item (cxComp X N scope cl H2.objs.size s₂ H fp) rfl rfl rfl hcalm i _ s' _ H' (fun _ _ => False) I' (fpy fr') st' go) fun r s4 ⟨u, hr, h4⟩ => ?_
      subst hr
      refine thn h4 fun _ s5 ⟨x, H5, I5, r5, y5, st5, fr5⟩ => ?_
      have I5' := I5.pinned (fpy fr5) (T.obj _ _ st5)
      refine thn (hg cl _ s₂ H fp _ s5 _ H5 x u _ I5' r5 (hk _ _ _ _ (step x H5 hlt w' y5))) fun _ s6 ⟨σ6, H6, I6, ⟨hl6, hd6⟩, q6⟩ => ?_
      refine thn (hc cl _ s₂ H fp _ s6 σ6 H6 _ I6 q6) fun okb s7 ⟨H7, I7, q7⟩ => ?_
      have frs' : ∀ {H8 : Hp} {σ8 : St} {s8 : Shared}, Inv (cxComp X N scope cl H2.objs.size s₂ H fp) ([(s₂.heap.objs.size, lstO ys)] ++ pinsAt fp s5.heap) σ8 H8 s8 → tn (i + 1) s8.heap ∧ ∀ b ∈ fp, H8 b = none := fun {H8 σ8 s8} I8 =>
        ⟨T.keep _ _ _ st5 fun b hb o e => (I8.pin (b, o) (List.mem_append_right _ (List.mem_append_right _ (mem_pinsAt hb e)))).1, fun b hb => by
          obtain ⟨o, e, d⟩ := T.obj _ _ st5 b hb
          exact (I8.pin (b, o) (List.mem_append_right _ (List.mem_append_right _ (mem_pinsAt hb e)))).2.1⟩
      cases okb with
      | false =>
        rw [if_neg Bool.false_ne_true] at q7 ⊢
        obtain ⟨a1, a2⟩ := frs' I7
        exact ⟨nn - (i + 1), by omega, i + 1, zs, ys, H7, rfl, hlt, I7.unpinned.weak (by rw [hl6]) (cS_weak hl6 hd6), rv, a1, a2, q7⟩
      | true =>
        rw [if_pos rfl] at q7 ⊢
        refine thn (he cl _ s₂ H fp _ s7 σ6 H7 _ I7 q7) fun v s8 ⟨y, H8, I8, r8, q8⟩ => ?_
        have zD := (I8.pin (s₂.heap.objs.size, lstO ys) (List.mem_append_right _ (List.mem_append_left _ (List.mem_singleton.mpr rfl))))
        have ylen : ys.length < sizeLine := by rw [← rv.length]; exact zl
        obtain ⟨a1, a2⟩ := frs' I8
        refine append_at (hsz := by rw [List.size_toArray]; exact Nat.le_of_lt ylen) zD.1 fun h9 hs9 hD9 => ?_
        have I8u : Inv (cxComp X N scope cl H2.objs.size s₂ H fp) [] (cS nt js σ) H8 s8 := (I8.pins_of (pins' := []) fun p hp => nomatch hp).weak (by rw [hl6]) (cS_weak hl6 hd6)
        have I9 : Inv (cxComp X N scope cl H2.objs.size s₂ H fp) [] (cS nt js σ) H8 { s8 with heap := h9 } := I8u.turned (t' := s8.toks) (it := s₂.heap.objs.size) (fun b o hb e => hs9.extBut b o hb e) zD.2.1 hDC (.inr (Nat.le_refl _))
          (fun x c e z => by
            obtain ⟨v, q⟩ := I.cell x c (hcl x c e)
            exact absurd (Nat.lt_of_lt_of_le q.lt (by rw [z]; exact Nat.le_refl _)) (Nat.lt_irrefl _)) (fun p hp => nomatch hp)
        refine ⟨nn - (i + 1), by omega, i + 1, zs ++ [y], ys ++ [v], H8, rfl, hlt, I9.pins_of (fun p hp => ?_), rv.snoc r8, T.keep _ _ _ a1 fun b hb o e => hs9.extBut b o (below b (lt b hb)).2 e, a2, q8⟩
        have e : p = (s₂.heap.objs.size, lstO (ys ++ [v])) := by simpa using hp
        subst e
        refine ⟨?_, zD.2.1, hDC, zD.2.2.2.1, fun v z => by cases z⟩
        rw [hD9]
        show some ({ cls := .type "list", data := .seq (ys.toArray.push v) (ys.length + 1) } : Obj) = some { cls := .type "list", data := .seq (ys ++ [v]).toArray (ys ++ [v]).length }
        rw [List.length_append, List.length_singleton, List.push_toArray]
  exact codeAny_compStart_list (loop _ rfl) (T.self _ 0 _ _ _ (T.keep 0 _ _ st (fun b _ o e => old b o e)) (loop _ rfl))

/-- [elt for tg in iter if ..] as a value -/
theorem pe_lc (hcalm : X.calm = true) (ok : CompOk X N nt js scope) (hi : PI X tg iter wi) (hg : ∀ cl C s H fp, PG (cxComp X N scope cl C s H fp) tg g) (hk : Stays g nt) (hc : ∀ cl C s H fp, PTs (cxComp X N scope cl C s H fp) ifs tc)
    (he : ∀ cl C s H fp, PE (cxComp X N scope cl C s H fp) elt te) (hs : ∀ x, foldedSetIterable iter X.env x = pure x := by intro _; rfl) : PE X (.ListComp elt [⟨tg, iter, ifs, 0⟩] scope pos) (tLC wi nt js g tc te) := by
  intro pins s σ H Q I h
  obtain ⟨cl, hclos, hcl, hcl2⟩ := closureFor_ok (scope := scope) (env := X.env) fun x hx hf => I.ok.has x.1 (ok.free x hx hf)
  rw [eval_ListComp]
  refine wpAny_comprehension_free (use := none) rfl hs hclos ok.kind ok.names ?_
  refine thn (hi pins s σ H _ I (lc_to h)) fun v s1 h1 => thn h1 fun itv s2 h2 => ?_
  obtain ⟨it, fp, tn, J, H2, e, I2, T, st2, f2, nn, W, w0, lw⟩ := h2
  subst e
  refine comp_run (RR := fun acc C => compPost (model X.prog X.w) X.A X.xe none (EP X pins σ Q) acc C) hcalm ok hcl hcl2 hg hk hc he I2 T st2 f2 w0 lw ?_
  intro D C s' H' zs m I3 hn hDn hCn hCL hC0 hCc hCp fin
  exact ⟨m, hn, fun h'' hs'' => ⟨.ref D, _, I3.turned (t' := s'.toks) (it := C) (fun b o hb e => hs''.extBut b o hb e) hCn hCL (.inr hC0) hCc hCp, rfl, fin D hDn⟩⟩

/-- name = [..], where the store and the leaving of the block change places -/
theorem ps_lc {i : Nat} {y : Str} {py spos : Pos} (hcalm : X.calm = true) (hN : X.N.Nodup) (hi' : X.N[i]? = some y) (hy : X.env.kindOf y = some .local) (ok : CompOk X N nt js scope) (hi : PI X tg iter wi) (hg : ∀ cl C s H fp, PG (cxComp X N scope cl C s H fp) tg g) (hk : Stays g nt)
    (hc : ∀ cl C s H fp, PTs (cxComp X N scope cl C s H fp) ifs tc) (he : ∀ cl C s H fp, PE (cxComp X N scope cl C s H fp) elt te)
    (hsw : swapsWith (.ListComp elt [⟨tg, iter, ifs, 0⟩] scope pos) (some (.Name y py)) spos.line X.env = pure true) (hs : ∀ x, foldedSetIterable iter X.env x = pure x := by intro _; rfl) :
    PS X (.Assign [.Name y py] (.ListComp elt [⟨tg, iter, ifs, 0⟩] scope pos) spos) (tAsg (tLC wi nt js g tc te) (gName i)) := by
  intro pins s σ H D₀ I h
  obtain ⟨cl, hclos, hcl, hcl2⟩ := closureFor_ok (scope := scope) (env := X.env) fun x hx hf => I.ok.has x.1 (ok.free x hx hf)
  rw [exec_Assign_Name_used _ _ _ _ hsw]
  refine wpAny_bind (wpAny_standAt (wpAny_bind ?_))
  show wpAny _ X.A (do let _ ← comprehension (.ListComp elt [⟨tg, iter, ifs, 0⟩] scope pos) scope X.env _ (newList []) false (eval iter X.env) (some (assign (.Name y py) X.env))) _ _ s
  refine wpAny_bind (wpAny_mono (wpAny_comprehension_free (use := some (assign (.Name y py) X.env)) (Q := fun _ s' => SP X pins D₀ .next s') rfl hs hclos ok.kind ok.names
    (thn (hi pins s σ H _ I (lc_to (show tLC wi nt js g tc te σ H fun x H1 => gName i x σ H1 D₀.nx from h))) fun v s1 h1 => thn h1 fun itv s2 h2 => ?_)) (fun _ s' hq => wpAny_pure (wpAny_pure hq)) fun _ _ e => e)
  obtain ⟨it, fp, tn, J, H2, e, I2, T, st2, f2, nn, W, w0, lw⟩ := h2
  subst e
  refine comp_run (RR := fun acc C => compPost (model X.prog X.w) X.A X.xe (some (assign (.Name y py) X.env)) (fun _ s' => SP X pins D₀ .next s') acc C) hcalm ok hcl hcl2 hg hk hc he I2 T st2 f2 w0 lw ?_
  intro D C s' H' zs m I3 hn hDn hCn hCL hC0 hCc hCp fin
  show wpAny _ X.A (assign (.Name y py) X.env (.ref D)) _ _ _
  refine wpAny_assign_Name (store_ok2 (v := .ref D) I3 hN hi' (.inl hy) rfl (fun s3 I4 hsb => ?_) (.inr hy))
  obtain ⟨a, hsb, ha⟩ := hsb
  have haC : C ≠ a := by
    rcases ha with z | z
    · rw [z]; exact hCL
    · exact Ne.symm (hCc y a z)
  refine ⟨m, hn.sameBut hsb haC, fun h'' hs'' => ?_⟩
  exact ⟨_, _, I4.turned (t' := s3.toks) (it := C) (fun b o hb e => hs''.extBut b o hb e) hCn hCL (.inr hC0) hCc hCp, fin D hDn⟩
end

end L2

/-! own layer, part 3: more operations -/
namespace L2
open PySem PySem.Spec PyProof.Rows

/-! ### sizes: an int of at most n bits -/
def Bd (n : Nat) (x : Int) : Prop := x.natAbs < 2 ^ n
theorem Bd.bits {n : Nat} {x : Int} (h : Bd n x) : Builtin.Int.intBits x ≤ n := PySem.intBits_le_iff.mpr h
/-- a product is small enough -/
def MulOk (i j : Int) : Prop := ∃ m n, Bd m i ∧ Bd n j ∧ m + n ≤ 134217728
theorem MulOk.ok {i j : Int} (h : MulOk i j) : IntMulOk i j := by
  obtain ⟨m, n, h1, h2, h3⟩ := h
  exact PySem.IntMulOk.of_le h1.bits h2.bits h3
def rIsB : R2 := fun x y H Q => ∃ a b, x = .bl a ∧ y = .bl b ∧ Q (.bl (decide (a = b))) H
def rIsNB : R2 := fun x y H Q => ∃ a b, x = .bl a ∧ y = .bl b ∧ Q (.bl (!decide (a = b))) H
section
variable {X : Cx}
/-- // by any number but nought: the frames have room for _pylong, and nobody sees it -/
theorem op_fdivX {k : Nat} (hr : Room k X.A) (hT : X.prog.given.tree = none) (hk : 32 ≤ k := by decide)
    (hst : ∃ (env : Env) (l : List Env), X.stack = env :: l ∧ env.scope.isGenerator = false ∧ env.scope.isCoroutine = false ∧ env.builtins = builtinsNs ∧ env.globals = mainGlobals := by exact ⟨_, _, rfl, rfl, rfl, rfl, rfl⟩) :
    OpR X (binaryOp .FloorDiv) (rI (fun _ j => j ≠ 0) fun i j => .int (i.fdiv j)) := by
  intro pins s σ H x y v u Q I rx ry h
  obtain ⟨i, j, rfl, rfl, hc, q⟩ := h
  obtain ⟨t, rfl⟩ := rx
  obtain ⟨t', rfl⟩ := ry
  obtain ⟨env, l, e1, e2, e3, e4, e5⟩ := hst
  have hd : X.A.depth + Builtin.pylongFrames < recursionLimit := by
    have := hr.dp
    have e : Builtin.pylongFrames ≤ 101 := by decide
    omega
  refine floordiv_int hc ⟨.int (i.fdiv j), H, I.tok _, ⟨_, rfl⟩, q⟩ (.inr (PySem.PylongRoom.of I.nolimit hd (PySem.SeerAt.of (I.ok.mod.seer.keeps I.bk) hT (by rw [I.ok.frames, e1]) e2 e3 e4 e5)))
end

/-! ### a def of the text, as a caller takes it -/
structure Fd (P : Program) (w : World) (K : PySem.W.Frag) (mg : Str → Option Value) (base : Heap) (n : Nat) (x : Str) (ps : List Str) (sp : Sp) : Prop where
  ex : ∃ (f : Addr) (fd : FuncData), FnOk P w K mg base CX0 n f fd ps sp ∧ Binds K fd ps [] ∧ PySem.W.keepIn K (.ref f) = true ∧ mg x = some (.ref f)
theorem pe_fn {X : Cx} {n k : Nat} {x : Str} {ps : List Str} {sp : Sp} {e : Expr} {es : List Expr} {t : TA} {p pos : Pos} (F : Fd X.prog X.w X.K X.mg X.base n x ps sp) (hr : Room k X.A) (hg : Gl X x) (ha : PA X (e :: es) t) (hn : n ≤ k := by decide)
    (hdb : (x == ("__debug__" : Str)) = false := by decide) (he : starEach (e :: es) X.env = (false, eval e X.env) :: starEach es X.env := by rfl) (hpl : (backTo pos (starEach es X.env)).any (·.1) = false := by rfl) :
    PE X (.Call (.Name x p) (e :: es) [] pos) (tCall sp [] E0 t) := by
  obtain ⟨f, fd, F1, F2, F3, F4⟩ := F.ex
  exact pe_call F1 (hr.mono hn) hg F4 F3 F2 .nil pass0 ha hdb he hpl
/-! ### == and != of things with things in them -/
/-- what stands at a value, all the way down -/
inductive Rds (K : PySem.W.Frag) (H : Hp) : V → PyData → Prop where
  | non : Rds K H .non .none
  | bl (b : Bool) : Rds K H (.bl b) (.bool b)
  | int (i : Int) : Rds K H (.int i) (.int i)
  | str (x : Str) : Rds K H (.str x) (.str x)
  | lst {a : Addr} {xs : List V} {ds : List PyData} : SqL K H a xs → xs.length = ds.length → (∀ (i : Nat) x d, xs[i]? = some x → ds[i]? = some d → Rds K H x d) → Rds K H (.ref a) (.list ds)
  | tup {a : Addr} {xs : List V} {ds : List PyData} : SqT K H a xs → xs.length = ds.length → (∀ (i : Nat) x d, xs[i]? = some x → ds[i]? = some d → Rds K H x d) → Rds K H (.ref a) (.tuple ds)
theorem readsAll_of {h : Heap} : ∀ {us : List Value} {xs : List V} {ds : List PyData}, Vals xs us → xs.length = ds.length → (∀ (i : Nat) x d u, xs[i]? = some x → ds[i]? = some d → RelV x u → ∃ as, Reads h u d as) → ∃ as, ReadsAll h us ds as
  | [], _, [], .nil, _, _ => ⟨[], .nil⟩
  | [], _, _ :: _, .nil, hl, _ => by simp at hl
  | _ :: _, _, [], .cons _ _, hl, _ => by simp at hl
  | u :: us, x :: xs, d :: ds, .cons r t, hl, hr => by
    obtain ⟨a1, r1⟩ := hr 0 x d u rfl rfl r
    obtain ⟨a2, r2⟩ := readsAll_of (us := us) (xs := xs) (ds := ds) t (by simpa using hl) fun i x' d' u' e1 e2 q => hr (i + 1) x' d' u' (by simpa using e1) (by simpa using e2) q
    exact ⟨_, .cons r1 r2⟩
theorem reads_of {X : Cx} {pins : List (Addr × Obj)} {σ : St} {H : Hp} {s : Shared} (I : Inv X pins σ H s) {x : V} {d : PyData} (r : Rds X.K H x d) : ∀ {u : Value}, RelV x u → ∃ as, Reads s.heap u d as := by
  induction r with
  | non => intro u ru; cases ru; exact ⟨_, .none⟩
  | bl b => intro u ru; cases ru; exact ⟨_, .bool b⟩
  | int i => intro u ru; obtain ⟨t, rfl⟩ := ru; exact ⟨_, .int i t⟩
  | str z => intro u ru; obtain ⟨t, rfl⟩ := ru; exact ⟨_, .str z t⟩
  | lst q hl _ ih =>
    intro u ru
    cases ru
    obtain ⟨its, rv, ⟨o, n, e, c, _, dd⟩, _⟩ := I.list q
    obtain ⟨as, ra⟩ := readsAll_of rv hl fun i x d u e1 e2 rr => ih i x d e1 e2 rr
    exact ⟨_, .list e c dd (by simpa using ra)⟩
  | tup q hl _ ih =>
    intro u ru
    cases ru
    obtain ⟨its, rv, ⟨o, e, c, n, dd⟩, _⟩ := I.tuple q
    obtain ⟨as, ra⟩ := readsAll_of rv hl fun i x d u e1 e2 rr => ih i x d e1 e2 rr
    exact ⟨_, .tuple e c dd (by simpa using ra)⟩
section
variable {X : Cx}
@[irreducible] def rEqD (K : PySem.W.Frag) (neg : Bool) : R2 := fun x y H Q => ∃ d e, Rds K H x d ∧ Rds K H y e ∧ SeqAt.shaped d = true ∧ SeqAt.shaped e = true ∧ Q (.bl (if neg then !PyData.eqv d e else PyData.eqv d e)) H
theorem eqD_of {K : PySem.W.Frag} {neg : Bool} {x y : V} {H : Hp} {Q : VK} (h : ∃ d e, Rds K H x d ∧ Rds K H y e ∧ SeqAt.shaped d = true ∧ SeqAt.shaped e = true ∧ Q (.bl (if neg then !PyData.eqv d e else PyData.eqv d e)) H) : rEqD K neg x y H Q := by
  unfold rEqD; exact h
theorem op_eqD (hu : X.A.units + 64 < cLine) : OpR X (compareOp .Eq) (rEqD X.K false) := by
  intro pins s σ H x y v u Q I rx ry h
  unfold rEqD at h
  obtain ⟨d, e, r1, r2, h1, h2, q⟩ := h
  obtain ⟨as, q1⟩ := reads_of I r1 rx
  obtain ⟨bs, q2⟩ := reads_of I r2 ry
  exact SeqAt.compareEq_shaped q1 q2 h1 h2 hu ⟨.bl _, H, I, rfl, q⟩
theorem op_neD (hu : X.A.units + 64 < cLine) : OpR X (compareOp .NotEq) (rEqD X.K true) := by
  intro pins s σ H x y v u Q I rx ry h
  unfold rEqD at h
  obtain ⟨d, e, r1, r2, h1, h2, q⟩ := h
  obtain ⟨as, q1⟩ := reads_of I r1 rx
  obtain ⟨bs, q2⟩ := reads_of I r2 ry
  exact SeqAt.compareNe_shaped q1 q2 h1 h2 hu ⟨.bl _, H, I, rfl, q⟩
end

/-! ### {} -/
def tDict0 : TE := fun _ H Q => ∀ p, H p = none → Q (.ref p) (upd H p (.dK []))
end L2

/-! own layer, part 4: names of built-ins, a small ledger, numbers -/
namespace L2
open PySem PySem.Spec PyProof.Rows
theorem bt_len : bootBuiltins "len" = some (.builtin "len") := by decide +kernel
theorem bt_abs : bootBuiltins "abs" = some (.builtin "abs") := by decide +kernel
theorem bt_isinstance : bootBuiltins "isinstance" = some (.builtin "isinstance") := by decide +kernel
theorem bt_max : bootBuiltins "max" = some (.builtin "max") := by decide +kernel
theorem bt_min : bootBuiltins "min" = some (.builtin "min") := by decide +kernel
theorem bt_all : bootBuiltins "all" = some (.builtin "all") := by decide +kernel
theorem bt_list : bootBuiltins "list" = some (.type "list") := by decide +kernel
theorem bt_tuple : bootBuiltins "tuple" = some (.type "tuple") := by decide +kernel
theorem bt_int : bootBuiltins "int" = some (.type "int") := by decide +kernel
theorem bt_bool : bootBuiltins "bool" = some (.type "bool") := by decide +kernel
theorem bt_reversed : bootBuiltins "reversed" = some (.type "reversed") := by decide +kernel

/-! ### a small ledger: what stands where -/
def Fx (H : Hp) (L : List (Addr × HO)) : Prop := ∀ p ∈ L, H p.1 = some p.2
/-- all but a stays as it was; there may be more -/
def Mv (a : Addr) (H H' : Hp) : Prop := ∀ b o, b ≠ a → H b = some o → H' b = some o
theorem Mv.refl (a : Addr) (H : Hp) : Mv a H H := fun _ _ _ h => h
theorem Mv.trans {a : Addr} {H H1 H2 : Hp} (x : Mv a H H1) (y : Mv a H1 H2) : Mv a H H2 := fun b o n h => y b o n (x b o n h)
theorem Mv.new {a p : Addr} {H : Hp} {o : HO} (h : H p = none) : Mv a H (upd H p o) := fun b u _ q => by rw [upd_ne (ne_of_none q h)]; exact q
/-- an item of a list of ints -/
theorem at_ints {ns : List Int} {k : Int} (h0 : 0 ≤ k) (h : k < (ns.length : Int)) : ∃ v : Int, atI (ns.map V.int) k = some (.int v) := by
  have hk : k.toNat < ns.length := by omega
  have ek : k = ((k.toNat : Nat) : Int) := by omega
  have q : atI (ns.map V.int) ((k.toNat : Nat) : Int) = some (.int ns[k.toNat]) := atI_nat (by rw [List.getElem?_map, List.getElem?_eq_getElem hk] <;> rfl)
  rw [← ek] at q
  exact ⟨_, q⟩

/-! ### a number -/
def nT (q : Rat) : HO := .tup [.int q.num, .int q.den]
/-- the pen of the draws -/
def Pen (H : Hp) (a : Addr) : Prop := ∃ c0 c1 c2 : Int, H a = some (.lst [.int c0, .int c1, .int c2])
theorem Pen.same {H : Hp} {a p : Addr} {o : HO} (x : Pen H a) (h : H p = none) : Pen (upd H p o) a := by
  obtain ⟨c0, c1, c2, e⟩ := x
  exact ⟨c0, c1, c2, by rw [upd_ne (ne_of_none e h)]; exact e⟩
theorem Pen.put {H : Hp} {a : Addr} {c0 c1 c2 : Int} : Pen (upd H a (.lst [.int c0, .int c1, .int c2])) a := ⟨c0, c1, c2, upd_same⟩

/-- a product: one factor is small, or both are of known size -/
def MulC (i j : Int) : Prop := (-(2 ^ 64) < i ∧ i < 2 ^ 64) ∨ (-(2 ^ 64) < j ∧ j < 2 ^ 64) ∨ MulOk i j
theorem MulC.ok {i j : Int} (h : MulC i j) : IntMulOk i j := by
  rcases h with ⟨h1, h2⟩ | ⟨h1, h2⟩ | h
  · exact .of_left (intBits_le_64 h1 h2)
  · exact .of_right (intBits_le_64 h1 h2)
  · exact h.ok
theorem op_mulC {X : Cx} : OpR X (binaryOp .Mult) (rI MulC fun i j => .int (i * j)) := opI fun _ _ _ _ _ _ _ hc q => mul_int q hc.ok

/-- a alone has changed -/
def OnlyAt (a : Addr) (H H' : Hp) : Prop := ∀ b, b ≠ a → H' b = H b
theorem OnlyAt.mv {a : Addr} {H H' : Hp} (x : OnlyAt a H H') : Mv a H H' := fun b o n h => by rw [x b n]; exact h
theorem OnlyAt.put {a : Addr} {H : Hp} {o : HO} : OnlyAt a H (upd H a o) := fun b n => upd_ne n
theorem Pen.ne {H : Hp} {a p : Addr} {o : HO} (x : Pen H a) (h : H p = some o) (hd : ∀ c0 c1 c2 : Int, o ≠ .lst [.int c0, .int c1, .int c2]) : p ≠ a := by
  obtain ⟨c0, c1, c2, e⟩ := x
  exact ne_of h e (hd c0 c1 c2)
/-- a pen and what else stands -/
structure Lg (a : Addr) (H : Hp) (L : List (Addr × HO)) : Prop where
  fx : Fx H L
  ne : ∀ x ∈ L, x.1 ≠ a
  pen : Pen H a
theorem nT_ne (q : Rat) : ∀ c0 c1 c2 : Int, nT q ≠ .lst [.int c0, .int c1, .int c2] := fun _ _ _ z => by cases z
/-- an item of a written list of ints -/
theorem at_menu {xs : List Int} {i : Int} (h0 : 0 ≤ i) (h : i < (xs.length : Int)) : ∃ v : Int, atI (xs.map V.int) i = some (.int v) ∧ v ∈ xs := by
  have hk : i.toNat < xs.length := by omega
  have ek : i = ((i.toNat : Nat) : Int) := by omega
  have q : atI (xs.map V.int) ((i.toNat : Nat) : Int) = some (.int xs[i.toNat]) := atI_nat (by rw [List.getElem?_map, List.getElem?_eq_getElem hk] <;> rfl)
  rw [← ek] at q
  exact ⟨_, q, List.getElem_mem hk⟩

theorem sq_new {K : PySem.W.Frag} {H : Hp} {a p : Addr} {xs : List V} {o : HO} (hS : SqL K H a xs) (hp : H p = none) : SqL K (upd H p o) a xs := by
  have st : ∀ u, H a = some u → upd H p o a = some u := fun u e => by rw [upd_ne (ne_of_none e hp)]; exact e
  rcases hS with (h | ⟨o, h⟩) | h
  · exact .inl (.inl (st _ h))
  · exact .inl (.inr ⟨o, st _ h⟩)
  · exact .inr h
/-- what the promises of the draws' defs say -/
def spDraw : Sp := fun vs H Q _ => ∃ (a : Addr) (m : Int), vs = [.ref a, .int m] ∧ Pen H a ∧ 1 ≤ m ∧ m < 1073741824 ∧ ∀ (d : Int) (H' : Hp), 0 ≤ d → d < m → OnlyAt a H H' → Pen H' a → Q (.int d) H'
def spPen (K : PySem.W.Frag) : Sp := fun vs H Q _ => ∃ (a : Addr) (ns : List Int) (k : Int), vs = [.ref a, .int k] ∧ SqL K H a (ns.map V.int) ∧ ns.length ≤ 63 ∧ 0 ≤ k ∧ k < 2 ^ 62 ∧
  ∀ (p : Addr) (c0 c1 : Int), H p = none → Q (.ref p) (upd H p (.lst [.int c0, .int c1, .int 0]))
def spLow : Sp := fun vs H Q _ => ∃ t b : Int, vs = [.int t, .int b] ∧ b ≠ 0 ∧ ∀ p, H p = none → Q (.ref p) (upd H p (nT (Rat.divInt t b)))
def spGcd : Sp := fun vs H Q _ => ∃ a b : Int, vs = [.int a, .int b] ∧ Q (.int (Int.gcd a b)) H
/-- a drawn number: its top and bottom are of at most n bits -/
def spNum (n : Nat) : Sp := fun vs H Q _ => ∃ a, vs = [.ref a] ∧ Pen H a ∧ ∀ (q : Rat) (r : Addr) (H' : Hp), Mv a H H' → Pen H' a → H' r = some (nT q) → Bd n q.num → Bd n q.den → Q (.ref r) H'
def spLaw (K : PySem.W.Frag) : Sp := fun vs H Q _ => ∃ (a : Addr) (ns : List Int), vs = [.ref a] ∧ SqL K H a (ns.map V.int) ∧ ns.length ≤ 63 ∧ ∀ H', Q (.bl true) H'
/-- the int in slot i, as a measure -/
def mu (i : Nat) (σ : St) : Nat := match σ[i]? with | some (some (.int y)) => y.toNat | _ => 0

theorem Bd.mono {m n : Nat} {x : Int} (h : Bd m x) (hmn : m ≤ n) : Bd n x := Nat.lt_of_lt_of_le h (Nat.pow_le_pow_right (by decide) hmn)
theorem Bd.num {n : Nat} {t b : Int} (h : Bd n t) : Bd n (Rat.divInt t b).num := by
  unfold Bd at *
  by_cases hb : b = 0
  · subst hb; simp; exact Nat.pos_of_ne_zero (by simp)
  · rw [← Nm.top_msr hb]
    exact Nat.lt_of_le_of_lt (PySem.natAbs_fdiv_le t _) h
theorem Bd.den {n : Nat} {t b : Int} (hb : b ≠ 0) (h : Bd n b) : Bd n (Rat.divInt t b).den := by
  unfold Bd at *
  rw [← Nm.bottom_msr hb]
  exact Nat.lt_of_le_of_lt (PySem.natAbs_fdiv_le b _) h
end L2

/-! own layer, part 5: more of what loops walk, all, lists of truths -/
namespace L2
open PySem PySem.Spec PyProof.Rows
/-! ### reversed(a list) -/
/-- the list xs at a (it stays), from behind -/
def Itrev (K : PySem.W.Frag) (a : Addr) (xs : List V) : It :=
  ⟨fun i H => SqL K H a xs ∧ i < xs.length, fun i H x H' => H' = H ∧ xs[xs.length - 1 - i]? = some x, fun i _ => xs.length = i⟩
theorem turn_rev {P : Program} {w : World} {K : PySem.W.Frag} {tg : Expr} (a it : Addr) (xs : List V) : Turn P w K tg (Itrev K a xs) [it] it (fun i h => i ≤ xs.length ∧ h.IsRevIter it a ((xs.length : Int) - 1 - (i : Int))) where
  mem := by simp
  obj := fun i h st b hb => by
    have e : b = it := by simpa using hb
    subst e
    obtain ⟨_, o, e, c, d⟩ := st
    exact ⟨o, e, fun v z => by rw [d] at z; cases z⟩
  keep := fun i h h' st k => ⟨st.1, st.2.at fun o e => k it (by simp) o e⟩
  item := by
    intro X hP hw hK hc i pins s σ H E I hf st hg
    subst hP hw hK
    obtain ⟨hq, hi⟩ := hg
    obtain ⟨its, rv, p, hz⟩ := I.list hq
    have hl := rv.length
    have hx : xs[xs.length - 1 - i]? = some (xs[xs.length - 1 - i]'(by omega)) := List.getElem?_eq_getElem (by omega)
    obtain ⟨u, hu, ru⟩ := rv.get hx
    obtain ⟨f0, f1, f2, f3, f4, f5⟩ := hf it (by simp)
    have e : (xs.length : Int) - 1 - (i : Int) = ((xs.length - 1 - i : Nat) : Int) := by omega
    have st2 := st.2
    rw [e] at st2
    refine wpAny_pyNext_rev_item st2 p.isList (x := u) (by simpa using hu) fun h' st' sb => ?_
    have I1 : Inv X pins σ H { s with heap := h' } := I.turned (t' := s.toks) (fun b o hb e => (sb.2 b hb).trans e) f0 f1 f3 f4 f5
    obtain ⟨o, e', c, d⟩ := id st'
    have e2 : ((xs.length - 1 - i : Nat) : Int) - 1 = (xs.length : Int) - 1 - ((i + 1 : Nat) : Int) := by omega
    rw [e2] at st'
    exact ⟨u, rfl, go_of (s := { s with heap := h' }) e' c d (by decide) ⟨_, H, I1, ru, ⟨rfl, hx⟩, ⟨hi, st'⟩, fun b hb => (hf b hb).1⟩⟩
  done := by
    intro X hP hw hK hc i pins s σ H E I hf st hg
    subst hP hw hK
    obtain ⟨f0, f1, f2, f3, f4, f5⟩ := hf it (by simp)
    have hg' : xs.length = i := hg
    have st2 := st.2
    rw [show (xs.length : Int) - 1 - (i : Int) = -1 by omega] at st2
    exact wpAny_pyNext_rev_end (I.ok.hd hc) st2 fun h' eb => ⟨rfl, I.turned (t' := s.toks) (fun b o hb e => eb b o hb e) f0 f1 f3 f4 f5⟩
  self := fun _ _ _ _ _ st h => wpAny_pyIter_revIter st.2 h
section
variable {X : Cx} {tg : Expr}
def iRev (K : PySem.W.Frag) (tl : TE) : TI := fun σ H R => tl σ H fun x H1 => ∃ v, [x] = [v] ∧ ∃ a xs, v = .ref a ∧ SqL K H1 a xs ∧ R (Itrev K a xs) H1
theorem pi_rev {l : Expr} {tl : TE} {p pos : Pos} (hg : Gl X "reversed") (hm : X.mg "reversed" = none) (hl : PE X l tl) (hs : starEach [l] X.env = [(false, eval l X.env)] := by rfl) : PI X tg (.Call (.Name "reversed" p) [l] [] pos) (iRev X.K tl) := by
  intro pins s σ H R I h
  have ha : PA X [l] (tCons tl tNil) := pa_cons hl pa_nil (by rw [hs]; rfl)
  refine Call_ (ld_blt I hg hm bt_reversed (PyProof.Rows.callWith_type1 (thn (ha pos pins s σ H (fun vs H1 => ∃ x, vs = [x] ∧ ∃ a xs, x = .ref a ∧ SqL X.K H1 a xs ∧ R (Itrev X.K a xs) H1) I h) fun us s1 ⟨vs, H1, I1, r1, q1⟩ => ?_) hs rfl))
  obtain ⟨x, e0, a, xs, e, hq, q⟩ := q1
  subst e0
  subst e
  cases r1 with
  | cons r rr =>
    cases rr
    cases r
    obtain ⟨its, rv, p, hz⟩ := I1.list hq
    refine call_reversed_list p.isList ?_
    have I2 : Inv X pins σ H1 { s1 with heap := s1.heap.push (revObj a ((its.toArray.size : Int) - 1)) } := I1.kept (t' := s1.toks) fun b o e => Heap.get?_push_of_some _ e
    have st : ({ s1 with heap := s1.heap.push (revObj a ((its.toArray.size : Int) - 1)) } : Shared).heap.IsRevIter s1.heap.objs.size a ((xs.length : Int) - 1 - ((0 : Nat) : Int)) := by
      refine ⟨_, Heap.get?_push_size _ rfl, rfl, ?_⟩
      have e : ((its.toArray.size : Nat) : Int) - 1 = (xs.length : Int) - 1 - ((0 : Nat) : Int) := by rw [List.size_toArray, ← rv.length]; simp
      show Data.fields #[.ref a, rawInt _] = _
      rw [e]
    refine wpAny_pyIter_revIter st ?_
    refine ⟨s1.heap.objs.size, [s1.heap.objs.size], _, _, H1, rfl, I2, turn_rev a _ xs, ⟨Nat.zero_le _, st⟩, fun b hb => ?_, q⟩
    have e : b = s1.heap.objs.size := by simpa using hb
    subst e
    exact I1.fpOk (Nat.le_refl _) (I1.hok.fresh (Nat.le_refl _))
end
/-- over a list from behind that the body leaves as it is -/
theorem for_rev {K : PySem.W.Frag} {a : Addr} {xs : List V} {g : TG} {tb : TS} {D : Ends} {σ : St} {H : Hp} (Pv : Nat → St → Hp → Prop) (h0 : Pv 0 σ H) (hl : ∀ i σ H, i ≤ xs.length → Pv i σ H → SqL K H a xs)
    (hs : ∀ i x σ H, i < xs.length → xs[xs.length - 1 - i]? = some x → Pv i σ H → g x σ H fun σ2 H2 => tb { D with nx := Pv (i + 1), ct := Pv (i + 1), bk := D.nx } σ2 H2) (hd : ∀ σ H, Pv xs.length σ H → D.nx σ H) :
    ∃ W : Nat → Nat → St → Hp → Prop, (∃ m, W 0 m σ H) ∧ ∀ i m σ H, W i m σ H →
      ((Itrev K a xs).stop i H ∧ D.nx σ H) ∨ ((Itrev K a xs).go i H ∧ ∃ N : St → Hp → Prop, (∀ σ' H', N σ' H' → ∃ m', m' < m ∧ W (i + 1) m' σ' H') ∧ ∀ x H', (Itrev K a xs).yld i H x H' → g x σ H' fun σ2 H2 => tb { D with nx := N, ct := N, bk := D.nx } σ2 H2) := by
  refine ⟨fun i m σ H => m = xs.length - i ∧ i ≤ xs.length ∧ Pv i σ H, ⟨xs.length, by simp, Nat.zero_le _, h0⟩, ?_⟩
  rintro i m σ H ⟨rfl, hi, p⟩
  have q := hl i σ H hi p
  by_cases hlt : i < xs.length
  · refine .inr ⟨⟨q, hlt⟩, Pv (i + 1), fun σ' H' p' => ⟨xs.length - (i + 1), by omega, rfl, hlt, p'⟩, fun x H' y => ?_⟩
    obtain ⟨e, y⟩ := y
    subst e
    exact hs i x σ _ hlt y p
  · have e : i = xs.length := by omega
    subst e
    exact .inl ⟨rfl, hd σ H p⟩

/-! ### all of a list of truths -/
theorem call_allB {X : Cx} (hc : X.calm = true) : CallR X (.builtin "all") (fun xs H Q => ∃ (a : Addr) (bs : List Bool), xs = [.ref a] ∧ SqL X.K H a (bs.map V.bl) ∧ Q (.bl (bs.all id)) H) := by
  intro pins s σ H xs us Q I r h
  obtain ⟨a, bs, rfl, hq, q⟩ := h
  obtain ⟨u, rfl, rfl⟩ := vals1 r
  obtain ⟨its, rv, p, hz⟩ := I.list hq
  have hl := rv.length
  rw [List.length_map] at hl
  have hlt : a < s.heap.objs.size := by obtain ⟨_, e, _⟩ := p.isList; exact Heap.lt_size e
  refine call_all_walk (wpAny_pyIter_list p.isList ?_)
  refine ⟨s.heap.objs.size, [s.heap.objs.size, a], [s.heap.objs.size], its.toArray.size, _, _, fun i => (bs[i]?).getD true, rfl, Walks.list (A := X.A.in1) (I.ok.hd hc) _ a (Nat.ne_of_lt hlt) its.toArray,
    ⟨⟨_, Heap.get?_push_size _ rfl, rfl, rfl⟩, p.isList.push _⟩, fun i v s' Q' E' hP hQ => ?_, fun h' tk hk => ?_⟩
  · have hP' : its[i]? = some v := by simpa using hP
    have hi : i < bs.length := by rw [hl]; exact (List.getElem?_eq_some_iff.mp hP').1
    obtain ⟨u', hu', ru⟩ := rv.get (i := i) (x := .bl bs[i]) (by rw [List.getElem?_map, List.getElem?_eq_getElem hi]; rfl)
    rw [hP'] at hu'
    cases hu'
    cases ru
    dsimp only at hQ
    rw [List.getElem?_eq_getElem hi, Option.getD_some] at hQ
    exact wpAny_truthy_bool hQ
  · have e : ((List.range its.toArray.size).all fun i => (bs[i]?).getD true) = bs.all id := by
      rw [List.size_toArray, ← hl, Bool.eq_iff_iff, List.all_eq_true, List.all_eq_true]
      constructor
      · intro z b hb
        obtain ⟨i, hi, rfl⟩ := List.getElem_of_mem hb
        have := z i (List.mem_range.mpr hi)
        rw [List.getElem?_eq_getElem hi, Option.getD_some] at this
        exact this
      · intro z i hi
        have hi' := List.mem_range.mp hi
        rw [List.getElem?_eq_getElem hi', Option.getD_some]
        exact z _ (List.getElem_mem hi')
    rw [e]
    exact ⟨.bl _, H, I.kept (fun b o e => hk b o (fun hm => by rw [List.mem_singleton.mp hm] at e; exact Nat.lt_irrefl _ (Heap.lt_size e)) (Heap.get?_push_of_some _ e)), rfl, q⟩
end L2

/-! own layer, part 6: numbers and curves on the heap -/
namespace L2
open PySem PySem.Spec PyProof.Rows
theorem SqT.same {K : PySem.W.Frag} {H H' : Hp} {a : Addr} {xs : List V} (h : SqT K H a xs) (e : Same H H') : SqT K H' a xs := by
  rcases h with (h | ⟨o, h⟩) | h
  · exact .inl (.inl (e _ _ h))
  · exact .inl (.inr ⟨o, e _ _ h⟩)
  · exact .inr h
theorem Same.new {H : Hp} {p : Addr} {o : HO} (h : H p = none) : Same H (upd H p o) := fun b u q => by rw [upd_ne (ne_of_none q h)]; exact q
theorem Same.mv {H H' : Hp} {a : Addr} (h : Same H H') : Mv a H H' := fun b o _ q => h b o q

/-! ### pairs of lists -/
theorem Paired.get {α β : Type} {F : α → β → Prop} : ∀ {l₁ : List α} {l₂ : List β} {i : Nat} {a : α}, Paired F l₁ l₂ → l₁[i]? = some a → ∃ b, l₂[i]? = some b ∧ F a b
  | _, _, _, _, .nil, e => by simp at e
  | _, _, 0, _, .cons h _, e => by simp at e; subst e; exact ⟨_, rfl, h⟩
  | _, _, i + 1, _, .cons _ t, e => by
    obtain ⟨b, h1, h2⟩ := Paired.get (i := i) t (by simpa using e)
    exact ⟨b, by simpa using h1, h2⟩
theorem Paired.get' {α β : Type} {F : α → β → Prop} : ∀ {l₁ : List α} {l₂ : List β} {i : Nat} {b : β}, Paired F l₁ l₂ → l₂[i]? = some b → ∃ a, l₁[i]? = some a ∧ F a b
  | _, _, _, _, .nil, e => by simp at e
  | _, _, 0, _, .cons h _, e => by simp at e; subst e; exact ⟨_, rfl, h⟩
  | _, _, i + 1, _, .cons _ t, e => by
    obtain ⟨b, h1, h2⟩ := Paired.get' (i := i) t (by simpa using e)
    exact ⟨b, by simpa using h1, h2⟩
theorem Paired.take {α β : Type} {F : α → β → Prop} : ∀ {l₁ : List α} {l₂ : List β} (n : Nat), Paired F l₁ l₂ → Paired F (l₁.take n) (l₂.take n)
  | _, _, 0, _ => by simp; exact .nil
  | _, _, _ + 1, .nil => .nil
  | _, _, n + 1, .cons h t => .cons h (Paired.take n t)
theorem Paired.append {α β : Type} {F : α → β → Prop} : ∀ {l₁ l₁' : List α} {l₂ l₂' : List β}, Paired F l₁ l₂ → Paired F l₁' l₂' → Paired F (l₁ ++ l₁') (l₂ ++ l₂')
  | _, _, _, _, .nil, h => h
  | _, _, _, _, .cons h t, h' => .cons h (Paired.append t h')
/-! ### a number, numbers -/
def NumV (K : PySem.W.Frag) (H : Hp) (x : V) (q : Rat) : Prop := ∃ r, x = .ref r ∧ SqT K H r [.int q.num, .int q.den]
abbrev Nums (K : PySem.W.Frag) (H : Hp) : List V → List Rat → Prop := Paired (NumV K H)
theorem NumV.of {K : PySem.W.Frag} {H : Hp} {r : Addr} {q : Rat} (h : H r = some (nT q)) : NumV K H (.ref r) q := ⟨r, rfl, SqT.of h⟩
theorem NumV.same {K : PySem.W.Frag} {H H' : Hp} {x : V} {q : Rat} (h : NumV K H x q) (e : Same H H') : NumV K H' x q := by
  obtain ⟨r, rfl, h⟩ := h
  exact ⟨r, rfl, h.same e⟩
theorem Nums.same {K : PySem.W.Frag} {H H' : Hp} {xs : List V} {qs : List Rat} (h : Nums K H xs qs) (e : Same H H') : Nums K H' xs qs := Paired.mapP h fun _ _ z => z.same e
/-- a pen changes, numbers stay -/
theorem SqT.mv {K : PySem.W.Frag} {H H' : Hp} {a p : Addr} {xs : List V} (h : SqT K H a xs) (pn : Pen H p) (m : Mv p H H') : SqT K H' a xs := by
  obtain ⟨c0, c1, c2, e⟩ := pn
  rcases h with (h | ⟨o, h⟩) | h
  · exact .inl (.inl (m _ _ (ne_of h e (fun z => by cases z)) h))
  · exact .inl (.inr ⟨o, m _ _ (ne_of h e (fun z => by cases z)) h⟩)
  · exact .inr h
theorem NumV.mv {K : PySem.W.Frag} {H H' : Hp} {x : V} {q : Rat} {p : Addr} (h : NumV K H x q) (pn : Pen H p) (m : Mv p H H') : NumV K H' x q := by
  obtain ⟨r, rfl, h⟩ := h
  exact ⟨r, rfl, h.mv pn m⟩
theorem Nums.mv {K : PySem.W.Frag} {H H' : Hp} {xs : List V} {qs : List Rat} {p : Addr} (h : Nums K H xs qs) (pn : Pen H p) (m : Mv p H H') : Nums K H' xs qs := Paired.mapP h fun _ _ z => z.mv pn m
/-- a list is written, numbers stay -/
theorem SqT.put {K : PySem.W.Frag} {H : Hp} {a p : Addr} {xs ys : List V} {o : HO} (h : SqT K H a xs) (hp : H p = some (.lst ys)) : SqT K (upd H p o) a xs := by
  rcases h with (h | ⟨u, h⟩) | h
  · exact .inl (.inl (by rw [upd_ne (ne_of h hp (fun z => by cases z))]; exact h))
  · exact .inl (.inr ⟨u, by rw [upd_ne (ne_of h hp (fun z => by cases z))]; exact h⟩)
  · exact .inr h
theorem NumV.put {K : PySem.W.Frag} {H : Hp} {x : V} {q : Rat} {p : Addr} {ys : List V} {o : HO} (h : NumV K H x q) (hp : H p = some (.lst ys)) : NumV K (upd H p o) x q := by
  obtain ⟨r, rfl, h⟩ := h
  exact ⟨r, rfl, h.put hp⟩
theorem Nums.put {K : PySem.W.Frag} {H : Hp} {xs : List V} {qs : List Rat} {p : Addr} {ys : List V} {o : HO} (h : Nums K H xs qs) (hp : H p = some (.lst ys)) : Nums K (upd H p o) xs qs := Paired.mapP h fun _ _ z => z.put hp
/-- a tuple of numbers; a list of numbers -/
def Crv (K : PySem.W.Frag) (H : Hp) (r : Addr) (qs : List Rat) : Prop := ∃ xs, SqT K H r xs ∧ Nums K H xs qs
theorem Crv.same {K : PySem.W.Frag} {H H' : Hp} {r : Addr} {qs : List Rat} (h : Crv K H r qs) (e : Same H H') : Crv K H' r qs := let ⟨xs, a, b⟩ := h; ⟨xs, a.same e, b.same e⟩
theorem Crv.mv {K : PySem.W.Frag} {H H' : Hp} {r p : Addr} {qs : List Rat} (h : Crv K H r qs) (pn : Pen H p) (m : Mv p H H') : Crv K H' r qs := let ⟨xs, a, b⟩ := h; ⟨xs, a.mv pn m, b.mv pn m⟩
/-! ### == of numbers, of lists and tuples of numbers -/
def nD (q : Rat) : PyData := .tuple [.int q.num, .int q.den]
theorem NumV.rds {K : PySem.W.Frag} {H : Hp} {x : V} {q : Rat} (h : NumV K H x q) : Rds K H x (nD q) := by
  obtain ⟨r, rfl, h⟩ := h
  refine .tup h rfl fun i x d e1 e2 => ?_
  match i with
  | 0 => simp at e1 e2; subst e1; subst e2; exact .int _
  | 1 => simp at e1 e2; subst e1; subst e2; exact .int _
  | i + 2 => simp at e1
theorem nD_eqv (p q : Rat) : PyData.eqv (nD p) (nD q) = decide (p = q) := by
  show (p.num == q.num && (((p.den : Int) == (q.den : Int)) && true)) = _
  rw [Bool.and_true, Bool.eq_iff_iff]
  simp only [Bool.and_eq_true, beq_iff_eq, decide_eq_true_eq]
  constructor
  · rintro ⟨h1, h2⟩
    exact Rat.ext h1 (Int.ofNat.inj h2)
  · rintro rfl
    exact ⟨rfl, rfl⟩
theorem nDs_eqv : ∀ ps qs : List Rat, PyData.eqvAll (ps.map nD) (qs.map nD) = decide (ps = qs)
  | [], [] => rfl
  | [], _ :: _ => rfl
  | _ :: _, [] => rfl
  | p :: ps, q :: qs => by
    show (PyData.eqv (nD p) (nD q) && PyData.eqvAll (ps.map nD) (qs.map nD)) = _
    rw [nD_eqv, nDs_eqv ps qs, Bool.eq_iff_iff]
    simp
theorem nD_shaped (q : Rat) : SeqAt.shaped (nD q) = true := by rfl
theorem Nums.rds {K : PySem.W.Frag} {H : Hp} {xs : List V} {qs : List Rat} (h : Nums K H xs qs) : ∀ (i : Nat) x d, xs[i]? = some x → (qs.map nD)[i]? = some d → Rds K H x d := fun i x d e1 e2 => by
  obtain ⟨q, hq, hn⟩ := Paired.get h e1
  rw [List.getElem?_map, hq] at e2
  cases e2
  exact hn.rds
theorem Nums.rdsL {K : PySem.W.Frag} {H : Hp} {r : Addr} {xs : List V} {qs : List Rat} (h : Nums K H xs qs) (s : SqL K H r xs) : Rds K H (.ref r) (.list (qs.map nD)) := .lst s (by rw [h.length, List.length_map]) h.rds
theorem nDs_lay : ∀ qs : List Rat, PyData.canLayAll0 (qs.map nD) = true
  | [] => rfl
  | q :: r => by
    show (PyData.canLay0 (nD q) && PyData.canLayAll0 (r.map nD)) = true
    rw [nDs_lay r]; rfl
theorem nDs_depth : ∀ qs : List Rat, PyData.depthAll (qs.map nD) ≤ 1
  | [] => Nat.zero_le _
  | q :: r => by
    have ih := nDs_depth r
    show max (PyData.depth (nD q)) (PyData.depthAll (r.map nD)) ≤ 1
    exact Nat.max_le.mpr ⟨Nat.le_refl _, ih⟩
theorem nDs_shL (qs : List Rat) : SeqAt.shaped (.list (qs.map nD)) = true := by
  show (PyData.canLayAll0 (qs.map nD) && decide (PyData.depthAll (qs.map nD) + 1 ≤ 64)) = true
  rw [nDs_lay, Bool.true_and]
  exact decide_eq_true (by have := nDs_depth qs; omega)
/-- == of two numbers, of two tuples, two lists of numbers, by their values -/
theorem eqN {K : PySem.W.Frag} {H : Hp} {x y : V} {p q : Rat} {Q : VK} {neg : Bool} (h1 : NumV K H x p) (h2 : NumV K H y q) (h : Q (.bl (if neg then !decide (p = q) else decide (p = q))) H) : rEqD K neg x y H Q :=
  eqD_of ⟨_, _, h1.rds, h2.rds, nD_shaped _, nD_shaped _, by rw [nD_eqv]; exact h⟩
theorem eqL {K : PySem.W.Frag} {H : Hp} {a b : Addr} {xs ys : List V} {ps qs : List Rat} {Q : VK} {neg : Bool} (s1 : SqL K H a xs) (n1 : Nums K H xs ps) (s2 : SqL K H b ys) (n2 : Nums K H ys qs) (h : Q (.bl (if neg then !decide (ps = qs) else decide (ps = qs))) H) : rEqD K neg (.ref a) (.ref b) H Q := by
  refine eqD_of ⟨_, _, n1.rdsL s1, n2.rdsL s2, nDs_shL _, nDs_shL _, ?_⟩
  have e : PyData.eqv (.list (ps.map nD)) (.list (qs.map nD)) = decide (ps = qs) := nDs_eqv ps qs
  rw [e]; exact h

/-! ### a while, by what holds and a measure -/
theorem wh_by {c : TT} {tb : TS} {D : Ends} {σ : St} {H : Hp} (Pv : St → Hp → Prop) (μ : St → Hp → Nat) (h0 : Pv σ H)
    (hs : ∀ σ H, Pv σ H → c σ H fun b H1 => if b = true then ∃ N : St → Hp → Prop, (∀ σ' H', N σ' H' → ∃ m', m' < μ σ H ∧ (m' = μ σ' H' ∧ Pv σ' H')) ∧ tb { D with nx := N, ct := N, bk := D.nx } σ H1 else D.nx σ H1) : tWhile c tb D σ H := by
  refine ⟨fun m σ H => m = μ σ H ∧ Pv σ H, ⟨_, rfl, h0⟩, ?_⟩
  rintro m σ H ⟨rfl, p⟩
  exact hs σ H p
theorem wh_go {tb : TS} {D : Ends} {σ : St} {H1 : Hp} {m : Nat} {Pv : St → Hp → Prop} {μ : St → Hp → Nat}
    (h : tb { D with nx := fun σ' H' => Pv σ' H' ∧ μ σ' H' < m, ct := fun σ' H' => Pv σ' H' ∧ μ σ' H' < m, bk := D.nx } σ H1) :
    ∃ N : St → Hp → Prop, (∀ σ' H', N σ' H' → ∃ m', m' < m ∧ (m' = μ σ' H' ∧ Pv σ' H')) ∧ tb { D with nx := N, ct := N, bk := D.nx } σ H1 :=
  ⟨_, fun _ _ ⟨p, l⟩ => ⟨_, l, rfl, p⟩, h⟩

/-! ### sizes of numbers -/
def RB (n : Nat) (q : Rat) : Prop := Bd n q.num ∧ Bd n (q.den : Int)
theorem Bd.mul {m n : Nat} {x y : Int} (h1 : Bd m x) (h2 : Bd n y) : Bd (m + n) (x * y) := by
  unfold Bd at *
  rw [Int.natAbs_mul, Nat.pow_add]
  exact Nat.mul_lt_mul'' h1 h2
theorem Bd.add {n : Nat} {x y : Int} (h1 : Bd n x) (h2 : Bd n y) : Bd (n + 1) (x + y) := by
  unfold Bd at *
  rw [Nat.pow_succ]
  omega
theorem Bd.sub {n : Nat} {x y : Int} (h1 : Bd n x) (h2 : Bd n y) : Bd (n + 1) (x - y) := by
  unfold Bd at *
  rw [Nat.pow_succ]
  omega
theorem Bd.fdiv {n : Nat} {x y : Int} (h : Bd n x) : Bd n (x.fdiv y) := Nat.lt_of_le_of_lt (PySem.natAbs_fdiv_le x y) h
theorem MulC.bd {m n : Nat} {x y : Int} (h1 : Bd m x) (h2 : Bd n y) (h : m + n ≤ 134217728 := by omega) : MulC x y := .inr (.inr ⟨m, n, h1, h2, h⟩)
theorem RB.mono {m n : Nat} {q : Rat} (h : RB m q) (hmn : m ≤ n) : RB n q := ⟨h.1.mono hmn, h.2.mono hmn⟩
theorem RB.div {m n : Nat} {t b : Int} (h1 : Bd n t) (h2 : Bd n b) (hb : b ≠ 0) : RB n (Rat.divInt t b) := ⟨Bd.num h1, Bd.den hb h2⟩
/-- a tuple that the module holds -/
theorem vals_abs : ∀ {us : List Value} {xs : List V}, us.map absV = xs.map some → (∀ u ∈ us, ∀ x, absV u = some x → RelV x u) → Vals xs us
  | [], [], _, _ => .nil
  | [], _ :: _, e, _ => by simp at e
  | _ :: _, [], e, _ => by simp at e
  | u :: us, x :: xs, e, h => by
    simp only [List.map_cons, List.cons.injEq] at e
    exact .cons (h u List.mem_cons_self x e.1) (vals_abs e.2 fun v hv => h v (List.mem_cons_of_mem _ hv))
theorem absV_rel {u : Value} {x : V} (h : absV u = some x) : RelV x u := by
  cases u <;> first | (cases h; rfl) | (cases h; exact ⟨_, rfl⟩) | cases h
theorem const_num {K : PySem.W.Frag} {H : Hp} {a : Addr} {o : Obj} {vs : Array Value} {n : Nat} {q : Rat} (hk : K.lookup a = some o) (hc : o.cls = .type "tuple") (hd : o.data = .seq vs n) (e : vs.toList.map absV = [some (.int q.num), some (.int (q.den : Int))]) : SqT K H a [.int q.num, .int q.den] := by
  refine .inr ⟨o, vs, n, hk, hc, hd, ?_, vals_abs e fun u _ x h => absV_rel h⟩
  have hl := congrArg List.length e
  simp at hl
  rw [hl]; decide
theorem RB.plus {m n : Nat} {p q : Rat} (h1 : RB m p) (h2 : RB n q) : RB (m + n + 1) (p + q) := by
  rw [← Nm.plus_eq]
  refine ⟨Bd.num (Bd.add (h1.1.mul h2.2) ((h2.1.mul h1.2).mono (by omega))), Bd.den (Int.mul_ne_zero (Nm.den_ne p) (Nm.den_ne q)) ((h1.2.mul h2.2).mono (by omega))⟩
theorem RB.minus {m n : Nat} {p q : Rat} (h1 : RB m p) (h2 : RB n q) : RB (m + n + 1) (p - q) := by
  rw [← Nm.minus_eq]
  refine ⟨Bd.num (Bd.sub (h1.1.mul h2.2) ((h2.1.mul h1.2).mono (by omega))), Bd.den (Int.mul_ne_zero (Nm.den_ne p) (Nm.den_ne q)) ((h1.2.mul h2.2).mono (by omega))⟩
theorem RB.times {m n : Nat} {p q : Rat} (h1 : RB m p) (h2 : RB n q) : RB (m + n) (p * q) := by
  rw [← Nm.times_eq]
  exact ⟨Bd.num (h1.1.mul h2.1), Bd.den (Int.mul_ne_zero (Nm.den_ne p) (Nm.den_ne q)) (h1.2.mul h2.2)⟩
theorem RB.zero {n : Nat} (h : 1 ≤ n) : RB n 0 := ⟨(show Bd 1 0 by unfold Bd; decide).mono h, (show Bd 1 1 by unfold Bd; decide).mono h⟩
/-- sums, differences, products of two numbers, as the law's own defs and the program's -/
def spBin (K : PySem.W.Frag) (g : Rat → Rat → Rat) : Sp := fun vs H Q _ => ∃ (x y : V) (p q : Rat) (m n : Nat), vs = [x, y] ∧ NumV K H x p ∧ NumV K H y q ∧ RB m p ∧ RB n q ∧ m + n ≤ 100000000 ∧ ∀ r, H r = none → Q (.ref r) (upd H r (nT (g p q)))
end L2

/-! own layer, part 7: loops and comprehensions over a list or a tuple -/
namespace L2
open PySem PySem.Spec PyProof.Rows
/-- a list (true) or a tuple (false) -/
def Sq (b : Bool) (K : PySem.W.Frag) (H : Hp) (a : Addr) (xs : List V) : Prop := match b with
  | true => SqL K H a xs
  | false => SqT K H a xs
theorem pi_either {X : Cx} {tg l : Expr} {w1 w2 : TI} (h1 : PI X tg l w1) (h2 : PI X tg l w2) : PI X tg l (fun σ H R => w1 σ H R ∨ w2 σ H R) := fun pins s σ H R I h => by
  rcases h with h | h
  · exact h1 pins s σ H R I h
  · exact h2 pins s σ H R I h
abbrev iSeq (K : PySem.W.Frag) (tl : TE) : TI := fun σ H R => iList K tl σ H R ∨ iTup K tl σ H R
theorem for_seq {K : PySem.W.Frag} {b : Bool} {a : Addr} {n : Nat} {xs : List V} {g : TG} {tb : TS} {D : Ends} {σ : St} {H : Hp} (hσ : σ[n]? = some (some (.ref a))) (Pv : Nat → St → Hp → Prop) (h0 : Pv 0 σ H) (hl : ∀ i σ H, i ≤ xs.length → Pv i σ H → Sq b K H a xs)
    (hs : ∀ i x σ H, xs[i]? = some x → Pv i σ H → g x σ H fun σ2 H2 => tb { D with nx := Pv (i + 1), ct := Pv (i + 1), bk := D.nx } σ2 H2) (hd : ∀ σ H, Pv xs.length σ H → D.nx σ H) :
    tFor (iSeq K (tVar n)) g tb D σ H := by
  have q := hl 0 σ H (Nat.zero_le _) h0
  cases b with
  | true => exact .inl ⟨_, hσ, a, rfl, ⟨xs, q⟩, for_list Pv h0 hl hs hd⟩
  | false => exact .inr ⟨_, hσ, a, rfl, ⟨xs, q⟩, for_tup Pv h0 hl hs hd⟩
/-- [e for x in a list or tuple] -/
theorem lc_seq {K : PySem.W.Frag} {b : Bool} {a : Addr} {n : Nat} {js : List Nat} {xs : List V} {te : TE} {σ : St} {H : Hp} {Q : VK} (hσ : σ[n]? = some (some (.ref a))) (Pv : Nat → List V → Hp → Prop) (h0 : Pv 0 [] H)
    (hl : ∀ i zs H, i ≤ xs.length → Pv i zs H → Sq b K H a xs ∧ zs.length = i) (hz : xs.length ≤ sizeLine)
    (hs : ∀ i x zs H, xs[i]? = some x → Pv i zs H → te ((cS 1 js σ).set 0 (some x)) H fun y H4 => Pv (i + 1) (zs ++ [y]) H4) (fin : ∀ zs H', Pv xs.length zs H' → ∀ p, H' p = none → Q (.ref p) (upd H' p (.lst zs))) :
    tLC (iSeq K (tVar n)) 1 js (gName 0) tYes te σ H Q := by
  have q := (hl 0 [] H (Nat.zero_le _) h0).1
  cases b with
  | true =>
    refine lc_of (.inl ⟨_, hσ, a, rfl, ⟨xs, q⟩, xs.length, Pv, h0, ⟨?_, ?_, ?_⟩⟩)
    · intro i zs H' hi p
      have hle := Nat.le_of_lt hi
      obtain ⟨h1, h2⟩ := hl i zs H' hle p
      exact ⟨⟨xs, xs[i], h1, by simp [hi]⟩, by omega⟩
    · rintro i zs H' x H1 hi p ⟨rfl, y⟩
      have hle := Nat.le_of_lt hi
      have hx := y xs (hl i zs _ hle p).1
      exact hs i x zs _ hx p
    · intro zs H' p
      have hle := Nat.le_refl xs.length
      obtain ⟨h1, h2⟩ := hl _ zs H' hle p
      exact ⟨⟨xs, h1, Nat.le_refl _⟩, by omega, fin zs H' p⟩
  | false =>
    refine lc_of (.inr ⟨_, hσ, a, rfl, ⟨xs, q⟩, xs.length, Pv, h0, ⟨?_, ?_, ?_⟩⟩)
    · intro i zs H' hi p
      have hle := Nat.le_of_lt hi
      obtain ⟨h1, h2⟩ := hl i zs H' hle p
      exact ⟨⟨xs, xs[i], h1, by simp [hi]⟩, by omega⟩
    · rintro i zs H' x H1 hi p ⟨rfl, y⟩
      have hle := Nat.le_of_lt hi
      have hx := y xs (hl i zs _ hle p).1
      exact hs i x zs _ hx p
    · intro zs H' p
      have hle := Nat.le_refl xs.length
      obtain ⟨h1, h2⟩ := hl _ zs H' hle p
      exact ⟨⟨xs, h1, Nat.le_refl _⟩, by omega, fin zs H' p⟩

/-! ### the rules that name the written part, by its name -/
section
variable {X : Cx} (K : PySem.W.Frag)
theorem ixT (e : X.K = K := by rfl) : IxR X (rIxT K) := by subst e; exact ix_tup
theorem ixL (e : X.K = K := by rfl) : IxR X (rIxL K) := by subst e; exact ix_list
theorem eqD (hu : X.A.units + 64 < cLine) (e : X.K = K := by rfl) : OpR X (compareOp .Eq) (rEqD K false) := by subst e; exact op_eqD hu
theorem neD (hu : X.A.units + 64 < cLine) (e : X.K = K := by rfl) : OpR X (compareOp .NotEq) (rEqD K true) := by subst e; exact op_neD hu
theorem slL (e : X.K = K := by rfl) : SlR X (rSlL K) := by subst e; exact sl_list
/-- the type of a value: a tuple, a list also where it is the module's or known -/
inductive TyX (K : PySem.W.Frag) (H : Hp) : V → Value → Prop where
  | of {x : V} {t : Value} (h : TyOf K H x t) : TyX K H x t
  | tup {a : Addr} {xs : List V} (h : SqT K H a xs) : TyX K H (.ref a) (.type "tuple")
  | lst {a : Addr} {xs : List V} (h : SqL K H a xs) : TyX K H (.ref a) (.type "list")
def cIsi : List V → Hp → VK → Prop := fun xs H Q => ∃ x T t b, xs = [x, .ty T] ∧ TyX K H x t ∧ PySem.W.kitOne K t (.type T) = some b ∧ Q (.bl b) H
theorem isiK (e : X.K = K := by rfl) : CallR X (.builtin "isinstance") (cIsi K) := by
  subst e
  intro pins s σ H xs us Q I r h
  obtain ⟨x, T, t, b, rfl, ty, e, q⟩ := h
  obtain ⟨u, w', rfl, rx, rT⟩ := vals2 r
  cases rT
  cases ty with
  | of ty => exact isinst_ok I rx ty e fun tk => ⟨.bl b, H, I.tok _, rfl, q⟩
  | tup hq =>
    cases rx
    obtain ⟨its, rv, ⟨o, e1, c, _⟩, _⟩ := I.tuple hq
    exact PySem.W.kia_one PySem.W.kitx_tuple I.kIn ⟨o, e1, c⟩ e (fun z => nomatch z) fun tk => ⟨.bl b, H, I.tok _, rfl, q⟩
  | lst hq =>
    cases rx
    obtain ⟨its, rv, ⟨o, n, e1, c, _⟩, _⟩ := I.list hq
    exact PySem.W.kia_one PySem.W.kitx_list I.kIn ⟨o, e1, c⟩ e (fun z => nomatch z) fun tk => ⟨.bl b, H, I.tok _, rfl, q⟩
def cLen : List V → Hp → VK → Prop := fun xs H Q => ∃ p ys, xs = [.ref p] ∧ (SqL K H p ys ∨ SqT K H p ys) ∧ Q (.int ys.length) H
theorem lenK (e : X.K = K := by rfl) : CallR X (.builtin "len") (cLen K) := by subst e; exact call_len_seq
def cList : List V → Hp → VK → Prop := fun xs H Q => ∃ p ys, xs = [.ref p] ∧ (SqL K H p ys ∨ SqT K H p ys) ∧ ∀ l, H l = none → Q (.ref l) (upd H l (.lst ys))
theorem listK (e : X.K = K := by rfl) : CallR X (.type "list") (cList K) := by subst e; exact call_list_of
def cTuple : List V → Hp → VK → Prop := fun xs H Q => ∃ p ys, xs = [.ref p] ∧ ((SqL K H p ys ∧ ∀ l, H l = none → Q (.ref l) (upd H l (.tup ys))) ∨ (SqT K H p ys ∧ Q (.ref p) H))
theorem tupleK (e : X.K = K := by rfl) : CallR X (.type "tuple") (cTuple K) := by subst e; exact call_tuple_of
def cAll : List V → Hp → VK → Prop := fun xs H Q => ∃ (a : Addr) (bs : List Bool), xs = [.ref a] ∧ SqL K H a (bs.map V.bl) ∧ Q (.bl (bs.all id)) H
theorem allB (hc : X.calm = true) (e : X.K = K := by rfl) : CallR X (.builtin "all") (cAll K) := by subst e; exact call_allB hc
variable {tg l : Expr} {tl : TE}
theorem piL (hl : PE X l tl) (e : X.K = K := by rfl) : PI X tg l (iList K tl) := by subst e; exact pi_list hl
theorem piT (hl : PE X l tl) (e : X.K = K := by rfl) : PI X tg l (iTup K tl) := by subst e; exact pi_tup hl
theorem piS (hl : PE X l tl) (e : X.K = K := by rfl) : PI X tg l (iSeq K tl) := by subst e; exact pi_either (pi_list hl) (pi_tup hl)
theorem piRev {p pos : Pos} (hg : Gl X "reversed") (hm : X.mg "reversed" = none) (hl : PE X l tl) (hs : starEach [l] X.env = [(false, eval l X.env)] := by rfl) (e : X.K = K := by rfl) : PI X tg (.Call (.Name "reversed" p) [l] [] pos) (iRev K tl) := by subst e; exact pi_rev hg hm hl hs
theorem pgT {es : List Expr} {k : Nat} {t : TGs} {n : Nat} {pos : Pos} (hc : X.calm = true) (h : PGs X es t) (hn : (assignEach es X.env).length = n := by rfl) (hst : (assignEach es X.env).findIdx? (·.1) = none := by rfl) (e : X.K = K := by rfl) : PG X (.Tuple es k pos) (gTup K n t) := by subst e; exact pg_tup hc h hn hst
end
/-- the height at a place, number by number -/
def spAt (K : PySem.W.Frag) : Sp := fun vs H Q _ => ∃ (b : Bool) (r rx : Addr) (xs : List V) (qs : List Rat) (x : Rat) (n : Nat), vs = [.ref r, .ref rx] ∧ Sq b K H r xs ∧ Nums K H xs qs ∧ NumV K H (.ref rx) x ∧ (∀ q ∈ qs, RB n q) ∧ RB n x ∧ (n + 2) * ((qs.length + 2) * (qs.length + 2)) ≤ 30000000 ∧
  ∀ p H', Same H H' → H' p = some (nT (Cv.ev qs x)) → RB ((n + 2) * ((qs.length + 2) * (qs.length + 2))) (Cv.ev qs x) → Q (.ref p) H'
end L2

/-! own layer, part 8: what is a whole number, a number, a curve; comprehensions over a range -/
namespace L2
open PySem PySem.Spec PyProof.Rows
inductive Whole (K : PySem.W.Frag) (H : Hp) : V → Bool → Prop where
  | int (i : Int) : Whole K H (.int i) true
  | bl (b : Bool) : Whole K H (.bl b) false
  | oth {x : V} {t : Value} (ty : TyX K H x t) (h : PySem.W.kitOne K t (.type "int") = some false) : Whole K H x false
def spWhole (K : PySem.W.Frag) : Sp := fun vs H Q _ => ∃ x b, vs = [x] ∧ Whole K H x b ∧ Q (.bl b) H
theorem kit_ii (K : PySem.W.Frag) : PySem.W.kitOne K (.type "int") (.type "int") = some true := by kernel_rfl
theorem kit_ib (K : PySem.W.Frag) : PySem.W.kitOne K (.type "int") (.type "bool") = some false := by kernel_rfl
theorem kit_bi (K : PySem.W.Frag) : PySem.W.kitOne K (.type "bool") (.type "int") = some true := by kernel_rfl
theorem kit_bb (K : PySem.W.Frag) : PySem.W.kitOne K (.type "bool") (.type "bool") = some true := by kernel_rfl
theorem lc_itr {lo : Int} {n : Nat} {js : List Nat} {te : TE} {σ : St} {H : Hp} {Fin : List V → Hp → Prop} (Pv : Nat → List V → Hp → Prop) (h0 : Pv 0 [] H) (hl : ∀ i zs H, i ≤ n → Pv i zs H → zs.length = i) (hz : n ≤ sizeLine)
    (hs : ∀ i zs H, i < n → Pv i zs H → te ((cS 1 js σ).set 0 (some (.int (lo + i)))) H fun y H4 => Pv (i + 1) (zs ++ [y]) H4) (fin : ∀ zs H', Pv n zs H' → Fin zs H') :
    ∃ (n' : Nat) (W : Nat → List V → Hp → Prop), W 0 [] H ∧ LcW (Itr lo n) n' 1 js σ (gName 0) tYes te Fin W := by
  refine ⟨n, Pv, h0, ⟨?_, ?_, ?_⟩⟩
  · intro i zs H' hi p
    have := hl i zs H' (Nat.le_of_lt hi) p
    exact ⟨hi, by omega⟩
  · rintro i zs H' x H1 hi p ⟨rfl, rfl⟩
    exact hs i zs _ hi p
  · intro zs H' p
    have := hl n zs H' (Nat.le_refl _) p
    exact ⟨Nat.le_refl _, by omega, fin zs H' p⟩
theorem atI_back {α : Type} {xs : List α} {v : α} (h : xs[xs.length - 1]? = some v) : atI xs (-1) = some v := by
  have hl : xs.length - 1 < xs.length := (List.getElem?_eq_some_iff.mp h).1
  have e : ixN xs.length (-1) = some (xs.length - 1) := by
    unfold ixN
    rw [if_neg (by decide), if_pos (by omega)]
    congr 1
    omega
  unfold atI
  rw [e]
  exact h
/-- it is a number: True -/
def spIsN (K : PySem.W.Frag) : Sp := fun vs H Q _ => ∃ x q, vs = [x] ∧ NumV K H x q ∧ ∀ H', Same H H' → Q (.bl true) H'
/-- it is a curve: True -/
def Good (qs : List Rat) : Prop := qs = [] ∨ ∃ q, qs[qs.length - 1]? = some q ∧ q ≠ 0
def spIsC (K : PySem.W.Frag) : Sp := fun vs H Q _ => ∃ r qs, vs = [.ref r] ∧ Crv K H r qs ∧ qs.length ≤ 1000 ∧ Good qs ∧ ∀ H', Same H H' → Q (.bl true) H'
theorem good_strip (qs : List Rat) : Good (Cv.strip qs) := by
  by_cases h : Cv.strip qs = []
  · exact .inl h
  · have hl : 0 < (Cv.strip qs).length := List.length_pos_iff.mpr h
    have e := List.getElem?_eq_getElem (l := Cv.strip qs) (i := (Cv.strip qs).length - 1) (by omega)
    refine .inr ⟨_, e, fun z => Cv.strip_last qs h ?_⟩
    rw [e, z]
theorem all_rep (n : Nat) : (List.replicate n true).all id = true := by
  rw [List.all_eq_true]
  intro b hb
  exact (List.mem_replicate.mp hb).2
theorem Pen.sm {H H' : Hp} {p : Addr} (h : Pen H p) (e : Same H H') : Pen H' p := let ⟨c0, c1, c2, z⟩ := h; ⟨c0, c1, c2, e _ _ z⟩
theorem at_plus {ns : List Int} {i : Nat} {t : Int} {k : Int} (h : ns[i]? = some t) (e : k = (i : Int)) : atI (ns.map V.int) k = some (.int t) := by
  subst e
  exact atI_nat (by rw [List.getElem?_map, h]; rfl)
theorem ixN_plus {n i : Nat} {k : Int} (h : i < n) (e : k = (i : Int)) : ixN n k = some i := by
  subst e
  unfold ixN
  rw [if_pos (by omega), if_pos (by omega), Int.toNat_natCast]
theorem Same.put {H H' : Hp} {p : Addr} {o : HO} (h : Same H H') (hp : H p = none) : Same H (upd H' p o) := fun b u q => by rw [upd_ne (ne_of_none q hp)]; exact h b u q
/-- an int below so many times a power -/
def Up (c M : Nat) (t : Int) : Prop := t.natAbs ≤ c * 2 ^ M
theorem Up.bd {c k M : Nat} {t : Int} (h : Up c M t) (hc : c < 2 ^ k) : Bd (M + k) t := by
  unfold Up at h
  unfold Bd
  rw [Nat.pow_add, Nat.mul_comm (2 ^ M)]
  exact Nat.lt_of_le_of_lt h (Nat.mul_lt_mul_of_pos_right hc (Nat.pow_pos (by decide)))
theorem Up.add {c M : Nat} {t d : Int} (h : Up c M t) (hd : Bd M d) : Up (c + 1) M (t + d) := by
  unfold Up at *
  unfold Bd at hd
  rw [Nat.add_mul, Nat.one_mul]
  omega
theorem Up.mono {c c' M : Nat} {t : Int} (h : Up c M t) (hc : c ≤ c') : Up c' M t := Nat.le_trans h (Nat.mul_le_mul_right _ hc)
end L2

/-! own layer, part 9: an exception that leaves a def, raise, and try with one except around a call -/
namespace L2
open PySem PySem.Spec PyProof.Rows
/-- how an exception lies behind a call: it flies over B, and B holds all that is known -/
def CX1 (P : Program) (w : World) : CXT := fun outer H s E e s' => ∃ (ea : Addr) (cls a0 : Value) (B : Heap) (H' : Hp), e = .ref ea ∧ s'.os = s.os ∧ AllBare s'.gens ∧ Un (frs outer) [] H H' s.heap s'.heap ∧ HOk P w H' s'.heap ∧
  Heap.FlyingW B outer ea cls a0 s'.heap ∧ (∀ b o, s.heap.get? b = some o → b ∉ frs outer → ∃ o', B.get? b = some o') ∧ (∀ b u, H' b = some u → ∃ o', B.get? b = some o') ∧ E cls none H'
section
variable {X : Cx} {pins : List (Addr × Obj)} {σ : St} {H H' : Hp} {s s' : Shared} {B : Heap}
end
section
variable {P : Program} {w : World} {K : PySem.W.Frag} {mg : Str → Option Value} {base : Heap} {N : List Str} {qual : Str} {scope : Scope} {f : Addr} {cd : Value} {A : Around} {outer : List Env} {s : Shared} {H : Hp} {E : XK}
end
/-- an own class of exceptions, under ValueError -/
structure XCls (K : PySem.W.Frag) (x : Str) (C : Addr) : Prop where
  ns : PySem.W.nsIn K mainGlobals x = some (some (.ref C))
  ob : ∃ bm N nm q bs hdct sn sub ab col dd k0 k1 k2 k3 k5, K.lookup C = some (excClassObj nm q C N bs bm hdct sn sub ab col dd k0 k1 k2 k3 k5 "ValueError.__new__")
  ex : PySem.W.excIn K C [.type "ValueError", .type "Exception", .type "BaseException", .type "object"] "ValueError.__new__" = true
def tRaise (E : XK) (C : Addr) (t : TA) : TS := fun _ σ H => t σ H fun xs H1 => xs.length ≤ sizeLine ∧ E (.ref C) none H1
def Makes (X : Cx) (E : XK) : Prop := ∀ (pins : List (Addr × Obj)) (σ : St) (H1 : Hp) (s1 : Shared) (h2 : Heap) (ea : Addr) (cls : Value) (vs : List Value), Inv X pins σ H1 s1 → Heap.MadeExcOf s1.heap h2 ea cls vs → E cls none H1 → X.xe (.ref ea) { s1 with heap := h2 }
/-! ### try, with one except, around one call -/
/-- a caught exception: its class is known -/
def hoX (a : Addr) (cls : Value) : HO := .ext fun h => ∃ o, h.get? a = some o ∧ o.cls = cls
/-- within an except suite -/
abbrev Cx.marked (X : Cx) (ea : Addr) : Cx := { X with A := X.A.mark (some (.ref ea)), calm := false, xe := fun _ _ => False }
section
variable {X : Cx} {pins : List (Addr × Obj)} {σ : St} {H H' : Hp} {s s' : Shared} {B : Heap}
end
def tTry (K : PySem.W.Frag) (CE : Addr) (i : Nat) (sp : Sp) (ta : TA) (ts : TS) : TS := fun D σ H => ta σ H fun vs H1 => sp vs H1 (fun _ H2 => D.nx σ H2) fun cls _ H2 => PySem.W.exmOne K cls (.ref CE) = some true ∧
  ∀ ea, H2 ea = none → ts { nx := fun σ' H3 => D.nx (σ'.set i none) H3, rt := fun _ _ => False } (σ.set i (some (.ref ea))) (upd H2 ea (hoX ea cls))
/-! ### isinstance of a caught exception -/
section
open PySem.W PySem.Builtin PySem.Builtin.ObjectAttr PySem.Builtin.Getset_descriptor
variable {prog : Program} {w : World} {A : Around} {E : Value → Shared → Prop} {s : Shared} {K : PySem.W.Frag} {x D : Addr}
/-- what the class answers about its instances' class -/
structure XTy (K : PySem.W.Frag) (D : Addr) : Prop where
  ga : findIn K (.ref D) "__getattribute__" = some (some (.builtin "BaseException.__getattribute__"))
  gt : findIn K (.ref D) "__getattr__" = some none
  ca : findIn K (.ref D) "__class__" = some (some (.builtin "object.__class__"))
  gg : specialIn K (.builtin "object.__class__") "__get__" = some (some (.builtin "getset_descriptor.__get__"))
  tk : takesIn K (.builtin "object.__class__") = some true
  ob : mroIn K D (.type "object") = some true
  be : mroIn K D (.type "BaseException") = some true
  cl : ∃ c d cd sl, K.lookup D = some ⟨c, d, .cls cd, sl⟩
/-- an exception of the class at D stands at x -/
def ExAt (x D : Addr) (h : Heap) : Prop := ∃ o, h.get? x = some o ∧ o.cls = .ref D
def clsV : V → Option Value
  | .ref a => some (.ref a)
  | .ty T => some (.type T)
  | _ => none
end
section
open PySem.W
variable {X : Cx} (K : PySem.W.Frag)
def cIsiX : List V → Hp → VK → Prop := fun xs H Q => ∃ ea D b, H ea = some (hoX ea (.ref D)) ∧ XTy K D ∧ ((∃ y c, xs = [.ref ea, y] ∧ clsV y = some c ∧ kitOne K (.ref D) c = some b) ∨
  ∃ t ys cs, xs = [.ref ea, .ref t] ∧ H t = some (.tup ys) ∧ ys.map clsV = cs.map some ∧ kitAny K (.ref D) cs = some b) ∧ Q (.bl b) H
end

/-! ### a def from which an exception may leave, as its text stands and as a caller takes it -/
section
variable {P : Program} {w : World} {K : PySem.W.Frag} {mg : Str → Option Value} {base : Heap}
end
structure FdX (P : Program) (w : World) (K : PySem.W.Frag) (mg : Str → Option Value) (base : Heap) (n : Nat) (x : Str) (ps : List Str) (sp : Sp) : Prop where
  ex : ∃ (f : Addr) (fd : FuncData), FnOk P w K mg base (CX1 P w) n f fd ps sp ∧ Binds K fd ps [] ∧ PySem.W.keepIn K (.ref f) = true ∧ mg x = some (.ref f)
end L2

/-! own layer, part 10: range(a, b, -1) -/
namespace L2
open PySem PySem.Spec PyProof.Rows
/-- lo, lo - 1, .. (n of them) -/
def Itd (lo : Int) (n : Nat) : It := ⟨fun i _ => i < n, fun i H x H' => H' = H ∧ x = .int (lo - i), fun i _ => n ≤ i⟩
section
variable {X : Cx} {tg : Expr}
def iDown (ta : TA) : TI := fun σ H R => ta σ H fun vs H1 => ∃ i j : Int, vs = [.int i, .int j, .int (-1)] ∧ (-1000000 ≤ i ∧ i ≤ 1000000 ∧ -1000000 ≤ j ∧ j ≤ 1000000) ∧ R (Itd i (i - j).toNat) H1
end
/-- a comprehension over a list that its elements leave as it is -/
theorem lc_lst {K : PySem.W.Frag} {a : Addr} {js : List Nat} {xs : List V} {te : TE} {σ : St} {H : Hp} {Fin : List V → Hp → Prop} (Pv : Nat → List V → Hp → Prop) (h0 : Pv 0 [] H)
    (hl : ∀ i zs H, i ≤ xs.length → Pv i zs H → SqL K H a xs ∧ zs.length = i) (hz : xs.length ≤ sizeLine)
    (hs : ∀ i x zs H, xs[i]? = some x → Pv i zs H → te ((cS 1 js σ).set 0 (some x)) H fun y H4 => Pv (i + 1) (zs ++ [y]) H4) (fin : ∀ zs H', Pv xs.length zs H' → Fin zs H') :
    ∃ (n' : Nat) (W : Nat → List V → Hp → Prop), W 0 [] H ∧ LcW (Itl K a) n' 1 js σ (gName 0) tYes te Fin W := by
  refine ⟨xs.length, Pv, h0, ⟨?_, ?_, ?_⟩⟩
  · intro i zs H' hi p
    obtain ⟨h1, h2⟩ := hl i zs H' (Nat.le_of_lt hi) p
    exact ⟨⟨xs, xs[i], h1, by simp [hi]⟩, by omega⟩
  · rintro i zs H' x H1 hi p ⟨rfl, y⟩
    exact hs i x zs _ (y xs (hl i zs _ (Nat.le_of_lt hi) p).1) p
  · intro zs H' p
    obtain ⟨h1, h2⟩ := hl _ zs H' (Nat.le_refl _) p
    exact ⟨⟨xs, h1, Nat.le_refl _⟩, by omega, fin zs H' p⟩
theorem Bd.pow {L : Nat} {b : Int} (h : Bd L b) : ∀ n : Nat, Bd (L * n + 1) (b ^ n)
  | 0 => by rw [Int.pow_zero]; exact (show Bd 1 1 by unfold Bd; decide).mono (by omega)
  | n + 1 => by
    rw [Int.pow_succ]
    exact ((Bd.pow h n).mul h).mono (by rw [Nat.mul_add]; omega)
end L2

/-! own layer, part 11: what stands behind a statement; lists of drawn numbers; whole tops over a bottom -/
namespace L2
open PySem PySem.Spec PyProof.Rows
/-- what a statement comes to, and what goes on from there -/
theorem seq_join {s rest : TS} {D : Ends} {σ : St} {H : Hp} (Pv : St → Hp → Prop) (h : ∀ nx : St → Hp → Prop, (∀ σ' H', Pv σ' H' → nx σ' H') → s { D with nx := nx } σ H) (k : ∀ σ' H', Pv σ' H' → rest D σ' H') : tSeq s rest D σ H := h _ k
theorem seq_joinN {i : Nat} {v : V} {c : TT} {t u rest : TS} {D : Ends} {σ : St} {H : Hp} (Pv : St → Hp → Prop) (h : ∀ nx : St → Hp → Prop, (∀ σ' H', Pv σ' H' → nx σ' H') → tIfS c t u { D with nx := nx } (σ.set i (some v)) H) (k : ∀ σ' H', Pv σ' H' → rest D σ' H') : gName i v σ H (tSeq (tIfS c t u) rest D) := h _ k
/-- [number of the pen for .. in range] -/
theorem lc_nums {K : PySem.W.Frag} {lo : Int} {N n j : Nat} {p : Addr} {σ : St} {H : Hp} {Fin : List V → Hp → Prop} (hσ : σ.getD j none = some (.ref p)) (pn : Pen H p) (hN : N ≤ 1000)
    (fin : ∀ zs H' qs, Mv p H H' → Pen H' p → Nums K H' zs qs → zs.length = N → qs.length = N → (∀ q ∈ qs, RB n q) → Fin zs H') :
    ∃ (n' : Nat) (W : Nat → List V → Hp → Prop), W 0 [] H ∧ LcW (Itr lo N) n' 1 [j] σ (gName 0) tYes (tCall (spNum n) [] E0 (tCons (tVar 1) tNil)) Fin W := by
  refine lc_itr (fun i zs H' => Mv p H H' ∧ Pen H' p ∧ zs.length = i ∧ ∃ qs, Nums K H' zs qs ∧ ∀ q ∈ qs, RB n q) ⟨Mv.refl _ _, pn, rfl, [], .nil, (fun _ h => nomatch h)⟩ (fun i zs H' _ h => h.2.2.1) (Nat.le_of_lt (small1000 hN)) ?_ ?_
  · rintro i zs H' hi ⟨mv, pn', hz, qs, hq, hb⟩
    refine ⟨.ref p, ?_, p, rfl, pn', fun x r H3 m3 p3 hr bn bd => ⟨mv.trans m3, p3, by simp [hz], qs ++ [x], Paired.snoc (Nums.mv hq pn' m3) (NumV.of hr), fun c hc => ?_⟩⟩
    · show some (σ.getD j none) = _
      rw [hσ]
    · rcases List.mem_append.mp hc with z | z
      · exact hb c z
      · have e : c = x := by simpa using z
        subst e; exact ⟨bn, bd⟩
  · rintro zs Hz ⟨mvz, pnz, hzl, qs, hqz, hb⟩
    exact fin zs Hz qs mvz pnz hqz hzl (by rw [← hqz.length]; exact hzl) hb
theorem Bd.neg {n : Nat} {x : Int} (h : Bd n x) : Bd n (-x) := by unfold Bd at *; rw [Int.natAbs_neg]; exact h
theorem div_back {b : Int} (hb : b ≠ 0) (t : Int) : Rat.divInt t b * (b : Rat) = (t : Rat) := by
  rw [Rat.divInt_eq_div]
  exact Rat.div_mul_cancel (Nm.cast_ne hb)
/-! ### a list of lists of numbers -/
def RowV (K : PySem.W.Frag) (H : Hp) (x : V) (rs : List Rat) : Prop := ∃ a ys, x = .ref a ∧ SqL K H a ys ∧ Nums K H ys rs
abbrev Rows (K : PySem.W.Frag) (H : Hp) : List V → List (List Rat) → Prop := Paired (RowV K H)
def rD (rs : List Rat) : PyData := .list (rs.map nD)
end L2

/-! own layer, part 12: x in a list of numbers; points -/
namespace L2
open PySem PySem.Spec PyProof.Rows
section
variable {X : Cx}
/-- x in a list of things, by what stands there -/
@[irreducible] def rInD (K : PySem.W.Frag) (neg : Bool) : R2 := fun x y H Q => ∃ p ds d, y = .ref p ∧ Rds K H (.ref p) (.list ds) ∧ Rds K H x d ∧ SeqAt.shaped (.list ds) = true ∧ SeqAt.shaped d = true ∧ Q (.bl (if neg then !(ds.any fun y => PyData.eqv y d) else ds.any fun y => PyData.eqv y d)) H
theorem inD_of {K : PySem.W.Frag} {neg : Bool} {x y : V} {H : Hp} {Q : VK} (h : ∃ p ds d, y = .ref p ∧ Rds K H (.ref p) (.list ds) ∧ Rds K H x d ∧ SeqAt.shaped (.list ds) = true ∧ SeqAt.shaped d = true ∧ Q (.bl (if neg then !(ds.any fun y => PyData.eqv y d) else ds.any fun y => PyData.eqv y d)) H) : rInD K neg x y H Q := by
  unfold rInD; exact h
end
/-! ### points: tuples of numbers in a tuple -/
def PtV (K : PySem.W.Frag) (H : Hp) (x : V) (ps : List Rat) : Prop := ∃ a, x = .ref a ∧ Crv K H a ps
abbrev Pts (K : PySem.W.Frag) (H : Hp) : List V → List (List Rat) → Prop := Paired (PtV K H)
/-! ### told numbers -/
structure Told where
  x : Rat
  k : Int
  n : Rat
deriving DecidableEq
def TlV (K : PySem.W.Frag) (H : Hp) (v : V) (t : Told) : Prop := ∃ a rx rn, v = .ref a ∧ SqT K H a [rx, .int t.k, rn] ∧ NumV K H rx t.x ∧ NumV K H rn t.n
abbrev Tls (K : PySem.W.Frag) (H : Hp) : List V → List Told → Prop := Paired (TlV K H)
def tD (t : Told) : PyData := .tuple [nD t.x, .int t.k, nD t.n]
end L2

/-! own layer, part 13: xs[::-1] -/
namespace L2
open PySem PySem.Spec PyProof.Rows
section
variable {X : Cx} {e : Expr} {te : TE}
def tRev (K : PySem.W.Frag) (te : TE) : TE := fun σ H Q => te σ H fun x H1 => ∃ a xs, x = .ref a ∧ SqL K H1 a xs ∧ ∀ p, H1 p = none → Q (.ref p) (upd H1 p (.lst xs.reverse))
end
/-! ### tuples as targets of a comprehension -/
def StaysS (t : TGs) (nt : Nat) : Prop := ∀ (vs : List V) (σ : St) (H : Hp) (Q : St → Hp → Prop) (σ0 : St), (σ.length = σ0.length ∧ σ.drop nt = σ0.drop nt) → t vs σ H Q → t vs σ H fun σ2 H2 => (σ2.length = σ0.length ∧ σ2.drop nt = σ0.drop nt) ∧ Q σ2 H2
end L2

/-! own layer, part 14: curves are one where they come to the same; a division is one -/
namespace L2
def addL : List Rat → List Rat → List Rat
  | [], m => m
  | a :: l, [] => a :: l
  | a :: l, b :: m => (a + b) :: addL l m
theorem ev_addL (x : Rat) : ∀ l m, Cv.ev (addL l m) x = Cv.ev l x + Cv.ev m x
  | [], m => by show _ = 0 + _; grind [addL]
  | a :: l, [] => by show _ = _ + 0; rw [addL]; grind
  | a :: l, b :: m => by
    have ih := ev_addL x l m
    show (a + b) + x * Cv.ev (addL l m) x = (a + x * Cv.ev l x) + (b + x * Cv.ev m x)
    rw [ih]; grind
def mulL : List Rat → List Rat → List Rat
  | [], _ => []
  | a :: l, m => addL (m.map (· * a)) (0 :: mulL l m)
theorem good_le {l m : List Rat} (hm : Good m) (hle : l.length ≤ m.length) (h : ∀ x, Cv.ev l x = Cv.ev m x) : l = m := by
  have e : l ++ List.replicate (m.length - l.length) 0 = m := by
    refine Cv.same_of _ _ (by rw [List.length_append, List.length_replicate]; omega) fun x => ?_
    rw [← Cv.ev_strip, Cv.strip_zeros, Cv.ev_strip]
    exact h x
  by_cases hlt : l.length < m.length
  · rcases hm with hm | ⟨q, hq, q0⟩
    · rw [hm] at hlt; simp at hlt
    · exfalso
      rw [← e, List.length_append, List.length_replicate, List.getElem?_append_right (by omega), List.getElem?_replicate, if_pos (by omega)] at hq
      exact q0 (Option.some.inj hq).symm
  · rw [show m.length - l.length = 0 by omega, List.replicate_zero, List.append_nil] at e
    exact e
/-- two curves that come to the same everywhere are one -/
theorem good_one {l m : List Rat} (hl : Good l) (hm : Good m) (h : ∀ x, Cv.ev l x = Cv.ev m x) : l = m := by
  by_cases hle : l.length ≤ m.length
  · exact good_le hm hle h
  · exact (good_le hl (by omega) fun x => (h x).symm).symm
open PySem PySem.Spec PyProof.Rows
end L2

/-! own layer, part 15: heights between two places -/
namespace L2
/-! how many ways there are to take k of n -/
def ch : Nat → Nat → Nat
  | _, 0 => 1
  | 0, _ + 1 => 0
  | n + 1, k + 1 => ch n k + ch n (k + 1)
theorem ch_zero (n : Nat) : ch n 0 = 1 := by cases n <;> rfl
theorem ch_step : ∀ n k, (k + 1) * ch n (k + 1) + k * ch n k = n * ch n k
  | 0, 0 => rfl
  | 0, k + 1 => by show (k + 2) * 0 + (k + 1) * 0 = 0 * 0; omega
  | n + 1, 0 => by
    have ih := ch_step n 0
    rw [show ch (n + 1) (0 + 1) = ch n 0 + ch n (0 + 1) from rfl, ch_zero, ch_zero]
    rw [ch_zero] at ih
    omega
  | n + 1, k + 1 => by
    have i1 := ch_step n (k + 1)
    have i0 := ch_step n k
    show (k + 1 + 1) * (ch n (k + 1) + ch n (k + 1 + 1)) + (k + 1) * (ch n k + ch n (k + 1)) = (n + 1) * (ch n k + ch n (k + 1))
    generalize ch n k = a at *
    generalize ch n (k + 1) = b at *
    generalize ch n (k + 1 + 1) = c at *
    simp only [Nat.add_mul, Nat.mul_add, Nat.one_mul] at *
    omega
theorem ch_pos : ∀ n k, k ≤ n → 0 < ch n k
  | n, 0, _ => by rw [ch_zero]; decide
  | 0, k + 1, h => by omega
  | n + 1, k + 1, h => by
    have := ch_pos n k (by omega)
    show 0 < ch n k + ch n (k + 1)
    omega
theorem ch_over : ∀ n k, n < k → ch n k = 0
  | n, 0, h => by omega
  | 0, k + 1, _ => rfl
  | n + 1, k + 1, h => by
    have h1 := ch_over n k (by omega)
    have h2 := ch_over n (k + 1) (by omega)
    show ch n k + ch n (k + 1) = 0
    omega
/-- the next one, reckoned as the program does -/
theorem ch_next {n k : Nat} (hk : k ≤ n) : (((ch n k : Nat) : Int) * ((n : Int) - (k : Int))).fdiv ((k : Int) + 1) = ((ch n (k + 1) : Nat) : Int) := by
  have h := ch_step n k
  have h2 : ch n k * (n - k) = ch n (k + 1) * (k + 1) := by
    rw [Nat.mul_sub]
    have e1 : ch n k * n = n * ch n k := Nat.mul_comm _ _
    have e2 : ch n k * k = k * ch n k := Nat.mul_comm _ _
    have e3 : ch n (k + 1) * (k + 1) = (k + 1) * ch n (k + 1) := Nat.mul_comm _ _
    omega
  have h3 : ((ch n k : Nat) : Int) * ((n : Int) - (k : Int)) = ((ch n (k + 1) : Nat) : Int) * ((k : Int) + 1) := by
    have := congrArg (fun z : Nat => (z : Int)) h2
    simp only [Int.natCast_mul] at this
    rw [show ((n - k : Nat) : Int) = (n : Int) - (k : Int) by omega] at this
    rw [this]; rfl
  rw [h3]
  exact Int.mul_fdiv_cancel _ (by omega)
theorem ch_le : ∀ n k, ch n k ≤ 2 ^ n
  | n, 0 => by rw [ch_zero]; exact Nat.one_le_two_pow
  | 0, k + 1 => Nat.zero_le _
  | n + 1, k + 1 => by
    have h1 := ch_le n k
    have h2 := ch_le n (k + 1)
    show ch n k + ch n (k + 1) ≤ 2 ^ (n + 1)
    rw [Nat.pow_succ]; omega
/-! neighbours added, neighbours meant -/
def An : Nat → (Nat → Rat) → Nat → Rat
  | 0, f, i => f i
  | k + 1, f, i => An k f i + An k f (i + 1)
def Cn (t : Rat) : Nat → (Nat → Rat) → Nat → Rat
  | 0, f, i => f i
  | k + 1, f, i => Cn t k f i * (1 - t) + Cn t k f (i + 1) * t
def Bn (t : Rat) : Nat → (Nat → Rat) → Nat → Rat
  | 0, f, i => f i
  | k + 1, f, i => Bn t k f i + t * Bn t k f (i + 1)
theorem An_lin (t : Rat) (f : Nat → Rat) : ∀ k n, An k (fun m => f m + t * f (m + 1)) n = An k f n + t * An k f (n + 1)
  | 0, _ => rfl
  | k + 1, n => by
    show An k _ n + An k _ (n + 1) = (An k f n + An k f (n + 1)) + t * (An k f (n + 1) + An k f (n + 1 + 1))
    rw [An_lin t f k n, An_lin t f k (n + 1)]
    grind
theorem meant_is (t : Rat) (f : Nat → Rat) : ∀ k i, Cn t k (fun j => An j f 0) i = An i (fun m => Bn t k f m) 0
  | 0, _ => rfl
  | k + 1, i => by
    show Cn t k _ i * (1 - t) + Cn t k _ (i + 1) * t = An i (fun m => Bn t k f m + t * Bn t k f (m + 1)) 0
    rw [meant_is t f k i, meant_is t f k (i + 1), An_lin t (fun m => Bn t k f m) i 0]
    show An i _ 0 * (1 - t) + (An i (fun m => Bn t k f m) 0 + An i (fun m => Bn t k f m) (0 + 1)) * t = _
    grind
/-- the sum of so many terms -/
def evF (f : Nat → Rat) (t : Rat) : Nat → Rat
  | 0 => 0
  | k + 1 => evF f t k + f k * t ^ k
theorem evF_head (f : Nat → Rat) (t : Rat) : ∀ k, evF f t (k + 1) = f 0 + t * evF (fun i => f (i + 1)) t k
  | 0 => by show 0 + f 0 * t ^ 0 = f 0 + t * 0; rw [Rat.pow_zero]; grind
  | k + 1 => by
    have ih := evF_head f t k
    show evF f t (k + 1) + f (k + 1) * t ^ (k + 1) = f 0 + t * (evF (fun i => f (i + 1)) t k + f (k + 1) * t ^ k)
    rw [ih, Rat.pow_succ]
    grind
theorem evF_add (f g : Nat → Rat) (t : Rat) : ∀ k, evF (fun i => f i + g i) t k = evF f t k + evF g t k
  | 0 => by show (0 : Rat) = 0 + 0; grind
  | k + 1 => by
    show evF _ t k + (f k + g k) * t ^ k = (evF f t k + f k * t ^ k) + (evF g t k + g k * t ^ k)
    rw [evF_add f g t k]; grind
theorem evF_congr {f g : Nat → Rat} (t : Rat) : ∀ k, (∀ i, i < k → f i = g i) → evF f t k = evF g t k
  | 0, _ => rfl
  | k + 1, h => by
    show evF f t k + f k * t ^ k = evF g t k + g k * t ^ k
    rw [evF_congr t k fun i hi => h i (by omega), h k (by omega)]
theorem ev_F (t : Rat) : ∀ l : List Rat, Cv.ev l t = evF (fun i => l.getD i 0) t l.length
  | [] => rfl
  | a :: l => by
    show a + t * Cv.ev l t = evF _ t (l.length + 1)
    rw [evF_head, ev_F t l]
    rfl
theorem Bn_is (t : Rat) (f : Nat → Rat) : ∀ n m, Bn t n f m = evF (fun i => ((ch n i : Nat) : Rat) * f (m + i)) t (n + 1)
  | 0, m => by
    show f m = 0 + ((1 : Nat) : Rat) * f (m + 0) * t ^ 0
    have z : ((1 : Nat) : Rat) = 1 := rfl
    rw [Rat.pow_zero, Nat.add_zero, z]; grind
  | n + 1, m => by
    have h1 := Bn_is t f n m
    have h2 := Bn_is t f n (m + 1)
    have z : ((1 : Nat) : Rat) = 1 := rfl
    show Bn t n f m + t * Bn t n f (m + 1) = _
    have e1 : evF (fun i => ((ch n i : Nat) : Rat) * f (m + i)) t (n + 1) = evF (fun i => ((ch n i : Nat) : Rat) * f (m + i)) t (n + 1 + 1) := by
      show _ = evF (fun i => ((ch n i : Nat) : Rat) * f (m + i)) t (n + 1) + ((ch n (n + 1) : Nat) : Rat) * f (m + (n + 1)) * t ^ (n + 1)
      rw [ch_over n (n + 1) (by omega)]
      have z0 : ((0 : Nat) : Rat) = 0 := rfl
      rw [z0]; grind
    rw [e1, evF_head] at h1
    rw [evF_head (fun i => ((ch (n + 1) i : Nat) : Rat) * f (m + i))]
    have e2 : evF (fun i => ((ch (n + 1) (i + 1) : Nat) : Rat) * f (m + (i + 1))) t (n + 1) = evF (fun i => ((ch n i : Nat) : Rat) * f (m + 1 + i)) t (n + 1) + evF (fun i => ((ch n (i + 1) : Nat) : Rat) * f (m + (i + 1))) t (n + 1) := by
      rw [← evF_add]
      refine evF_congr t _ fun i _ => ?_
      show ((ch n i + ch n (i + 1) : Nat) : Rat) * f (m + (i + 1)) = _
      rw [Rat.natCast_add, show m + 1 + i = m + (i + 1) by omega]
      grind
    rw [e2, h1, h2, ch_zero, ch_zero]
    grind
/-! lists -/
def aI (l : List Int) : List Int := (List.range (l.length - 1)).map fun j => l.getD j 0 + l.getD (j + 1) 0
def aIN : Nat → List Int → List Int
  | 0, l => l
  | n + 1, l => aI (aIN n l)
def aQ (l : List Rat) : List Rat := (List.range (l.length - 1)).map fun j => l.getD j 0 + l.getD (j + 1) 0
def aQN : Nat → List Rat → List Rat
  | 0, l => l
  | n + 1, l => aQ (aQN n l)
def cQ (t : Rat) (l : List Rat) : List Rat := (List.range (l.length - 1)).map fun j => l.getD j 0 * (1 - t) + l.getD (j + 1) 0 * t
def cQN (t : Rat) : Nat → List Rat → List Rat
  | 0, l => l
  | n + 1, l => cQ t (cQN t n l)
theorem aI_length (l : List Int) : ∀ n, (aIN n l).length = l.length - n
  | 0 => rfl
  | n + 1 => by
    show (aI (aIN n l)).length = _
    unfold aI
    rw [List.length_map, List.length_range, aI_length l n]; omega
theorem aQ_length (l : List Rat) : ∀ n, (aQN n l).length = l.length - n
  | 0 => rfl
  | n + 1 => by
    show (aQ (aQN n l)).length = _
    unfold aQ
    rw [List.length_map, List.length_range, aQ_length l n]; omega
theorem cQ_length (t : Rat) (l : List Rat) : ∀ n, (cQN t n l).length = l.length - n
  | 0 => rfl
  | n + 1 => by
    show (cQ t (cQN t n l)).length = _
    unfold cQ
    rw [List.length_map, List.length_range, cQ_length t l n]; omega
theorem aQ_at (l : List Rat) : ∀ k j, j + k < l.length → (aQN k l).getD j 0 = An k (fun n => l.getD n 0) j
  | 0, _, _ => rfl
  | k + 1, j, h => by
    have h1 := aQ_at l k (j + 1) (by omega)
    have h0 := aQ_at l k j (by omega)
    show (aQ (aQN k l)).getD j 0 = An k _ j + An k _ (j + 1)
    rw [← h1, ← h0]
    have hl := aQ_length l k
    unfold aQ
    rw [List.getD_eq_getElem?_getD, List.getElem?_map, List.getElem?_range (by omega)]
    rfl
theorem cQ_at (t : Rat) (l : List Rat) : ∀ k j, j + k < l.length → (cQN t k l).getD j 0 = Cn t k (fun n => l.getD n 0) j
  | 0, _, _ => rfl
  | k + 1, j, h => by
    have h1 := cQ_at t l k (j + 1) (by omega)
    have h0 := cQ_at t l k j (by omega)
    show (cQ t (cQN t k l)).getD j 0 = Cn t k _ j * (1 - t) + Cn t k _ (j + 1) * t
    rw [← h1, ← h0]
    have hl := cQ_length t l k
    unfold cQ
    rw [List.getD_eq_getElem?_getD, List.getElem?_map, List.getElem?_range (by omega)]
    rfl
theorem Cn_congr (t : Rat) {f g : Nat → Rat} : ∀ k n, (∀ j, j ≤ k → f (n + j) = g (n + j)) → Cn t k f n = Cn t k g n
  | 0, n, h => h 0 (Nat.le_refl _)
  | k + 1, n, h => by
    show Cn t k f n * (1 - t) + Cn t k f (n + 1) * t = Cn t k g n * (1 - t) + Cn t k g (n + 1) * t
    rw [Cn_congr t (f := f) (g := g) k (n + 1) fun j hj => by
      have := h (j + 1) (by omega)
      rw [show n + 1 + j = n + (j + 1) by omega]; exact this,
      Cn_congr t (f := f) (g := g) k n fun j hj => h j (by omega)]
/-- the numbers along the stretch, each over how many ways there are -/
def partsQ (al : List Rat) : List Rat := (List.range al.length).map fun k => al.getD k 0 / ((ch (al.length - 1) k : Nat) : Rat)
def htsQ (al : List Rat) : List Rat := (List.range al.length).map fun j => (aQN j (partsQ al)).getD 0 0
theorem htsQ_length (al : List Rat) : (htsQ al).length = al.length := by unfold htsQ; rw [List.length_map, List.length_range]
theorem partsQ_length (al : List Rat) : (partsQ al).length = al.length := by unfold partsQ; rw [List.length_map, List.length_range]
theorem meant_ev (al : List Rat) (h1 : 1 ≤ al.length) (t : Rat) : (cQN t (al.length - 1) (htsQ al)).getD 0 0 = Cv.ev al t := by
  rw [cQ_at t _ _ _ (by rw [htsQ_length]; omega)]
  have e : Cn t (al.length - 1) (fun n => (htsQ al).getD n 0) 0 = Cn t (al.length - 1) (fun j => An j (fun n => (partsQ al).getD n 0) 0) 0 := by
    refine Cn_congr t _ _ fun j hj => ?_
    show (htsQ al).getD (0 + j) 0 = An (0 + j) _ 0
    rw [Nat.zero_add, ← aQ_at _ _ _ (by rw [partsQ_length]; omega)]
    unfold htsQ
    rw [List.getD_eq_getElem?_getD, List.getElem?_map, List.getElem?_range (by omega)]
    rfl
  rw [e, meant_is]
  show Bn t (al.length - 1) (fun n => (partsQ al).getD n 0) 0 = _
  rw [Bn_is, ev_F, show al.length - 1 + 1 = al.length by omega]
  refine evF_congr t _ fun i hi => ?_
  show ((ch (al.length - 1) i : Nat) : Rat) * (partsQ al).getD (0 + i) 0 = al.getD i 0
  have g : (partsQ al).getD (0 + i) 0 = al.getD i 0 / ((ch (al.length - 1) i : Nat) : Rat) := by
    unfold partsQ
    rw [Nat.zero_add, List.getD_eq_getElem?_getD, List.getElem?_map, List.getElem?_range hi]
    rfl
  have c0 : ((ch (al.length - 1) i : Nat) : Rat) ≠ 0 := fun z => by
    have hp := ch_pos (al.length - 1) i (by omega)
    have : ch (al.length - 1) i = 0 := by exact_mod_cast z
    omega
  rw [g, Rat.mul_comm]
  exact Rat.div_mul_cancel c0
/-! a curve put together with a line, number by number -/
def goL (a b : Rat) : Rat → List Rat → List Rat
  | p, [] => [a * p]
  | p, c :: r => (a * p + b * c) :: goL a b c r
def compL (a b : Rat) : List Rat → List Rat
  | [] => []
  | q :: r => match compL a b r with
    | [] => [q]
    | c :: s => (q + b * c) :: goL a b c s
theorem ev_go (a b x : Rat) : ∀ (l : List Rat) (p : Rat), Cv.ev (goL a b p l) x = a * p + (a * x + b) * Cv.ev l x
  | [], p => by show a * p + x * 0 = a * p + (a * x + b) * 0; grind
  | c :: r, p => by
    show (a * p + b * c) + x * Cv.ev (goL a b c r) x = a * p + (a * x + b) * (c + x * Cv.ev r x)
    rw [ev_go a b x r c]; grind
theorem go_length (a b : Rat) : ∀ (l : List Rat) (p : Rat), (goL a b p l).length = l.length + 1
  | [], _ => rfl
  | c :: r, p => by show (goL a b c r).length + 1 = r.length + 1 + 1; rw [go_length a b r c]
theorem go_last (a b : Rat) : ∀ (l : List Rat) (p u : Rat), (p :: l)[l.length]? = some u → (goL a b p l)[l.length]? = some (a * u)
  | [], p, u, h => by
    have e : p = u := by simpa using h
    subst e; rfl
  | c :: r, p, u, h => go_last a b r c u h
theorem ev_comp (a b x : Rat) : ∀ l, Cv.ev (compL a b l) x = Cv.ev l (a * x + b)
  | [] => rfl
  | q :: r => by
    have ih := ev_comp a b x r
    show Cv.ev (match compL a b r with | [] => [q] | c :: s => (q + b * c) :: goL a b c s) x = q + (a * x + b) * Cv.ev r (a * x + b)
    rw [← ih]
    cases compL a b r with
    | nil => show q + x * 0 = q + (a * x + b) * 0; grind
    | cons c s =>
      show (q + b * c) + x * Cv.ev (goL a b c s) x = q + (a * x + b) * (c + x * Cv.ev s x)
      rw [ev_go]; grind
theorem comp_length (a b : Rat) : ∀ l, (compL a b l).length = l.length
  | [] => rfl
  | q :: r => by
    have ih := comp_length a b r
    show (match compL a b r with | [] => [q] | c :: s => (q + b * c) :: goL a b c s).length = r.length + 1
    rw [← ih]
    cases compL a b r with
    | nil => rfl
    | cons c s => show (goL a b c s).length + 1 = s.length + 1 + 1; rw [go_length]
theorem comp_good {a b : Rat} (ha : a ≠ 0) : ∀ {l}, Good l → Good (compL a b l)
  | [], _ => .inl rfl
  | [q], h => h
  | q :: p :: r, h => by
    have g : Good (p :: r) := by
      rcases h with h | ⟨u, hu, u0⟩
      · cases h
      · exact .inr ⟨u, hu, u0⟩
    have ih := comp_good (b := b) ha g
    have len := comp_length a b (p :: r)
    show Good (match compL a b (p :: r) with | [] => [q] | c :: s => (q + b * c) :: goL a b c s)
    cases e : compL a b (p :: r) with
    | nil => rw [e] at len; simp at len
    | cons c s =>
      rw [e] at ih
      rcases ih with ih | ⟨u, hu, u0⟩
      · cases ih
      · refine .inr ⟨a * u, ?_, fun z => ?_⟩
        · show ((q + b * c) :: goL a b c s)[(goL a b c s).length + 1 - 1]? = _
          rw [go_length]
          exact go_last a b s c u hu
        · rcases Rat.mul_eq_zero.mp z with z | z
          · exact ha z
          · exact u0 z
/-- the heights of a curve between two places -/
def hts (cs : List Rat) (lo hi : Rat) : List Rat := if cs = [] then [0] else htsQ (compL (hi - lo) lo cs)
theorem hts_meant (cs : List Rat) (lo hi t : Rat) : (cQN t ((hts cs lo hi).length - 1) (hts cs lo hi)).getD 0 0 = Cv.ev cs (lo + (hi - lo) * t) := by
  unfold hts
  by_cases h : cs = []
  · rw [if_pos h, h]; rfl
  · rw [if_neg h, htsQ_length, meant_ev _ (by rw [comp_length]; exact List.length_pos_iff.mpr h), ev_comp]
    congr 1; grind
theorem hts_length (cs : List Rat) (lo hi : Rat) : (hts cs lo hi).length = max 1 cs.length := by
  unfold hts
  by_cases h : cs = []
  · rw [if_pos h, h]; rfl
  · rw [if_neg h, htsQ_length, comp_length]
    have := List.length_pos_iff.mpr h
    omega
end L2

/-! own layer, part 16: differences of a curve's heights, and their sums -/
namespace L2
def Dn : Nat → (Nat → Rat) → Nat → Rat
  | 0, f, n => f n
  | k + 1, f, n => Dn k f (n + 1) - Dn k f n
def sd : List Rat → List Rat
  | [] => []
  | [_] => []
  | _ :: p :: r => addL (0 :: sd (p :: r)) (compL 1 1 (p :: r))
def fct : Nat → Nat
  | 0 => 1
  | n + 1 => (n + 1) * fct n
/-- knots j, j + 1, .. with steps c j, c (j + 1), .. -/
def nw (c : Nat → Rat) (x : Rat) : Nat → Nat → Rat
  | _, 0 => 0
  | j, n + 1 => c j + (x - ((j : Nat) : Rat)) * nw c x (j + 1) n
/-! whole heights -/
def evZ (x : Int) : List Int → Int
  | [] => 0
  | t :: r => t + x * evZ x r
def DnZ : Nat → (Nat → Int) → Nat → Int
  | 0, f, n => f n
  | k + 1, f, n => DnZ k f (n + 1) - DnZ k f n
end L2

/-! own layer, part 17: the least and the greatest of a list of ints, and where one stands -/
namespace L2
open PySem PySem.Spec PyProof.Rows PySem.SeqAt
theorem ints_are : ∀ {ns : List Int} {its : List Value}, Vals (ns.map V.int) its → IntsAre its ns
  | [], _, .nil => .nil
  | n :: ns, _, .cons r rs => by
    obtain ⟨t, rfl⟩ := r
    exact .cons n t (ints_are rs)
theorem call_minI {X : Cx} (hc : X.calm = true) : CallR X (.builtin "min") (fun xs H Q => ∃ (l : Addr) (ns : List Int), xs = [.ref l] ∧ H l = some (.lst (ns.map V.int)) ∧ 0 < ns.length ∧ ∀ M, M ∈ ns → (∀ a, a ∈ ns → M ≤ a) → Q (.int M) H) := by
  intro pins s σ H xs us Q I r h
  obtain ⟨l, ns, rfl, hH, hne, q⟩ := h
  obtain ⟨u, rfl, rfl⟩ := vals1 r
  obtain ⟨z, its, n, rv, hl, e⟩ := I.lstM hH
  have hi := ints_are rv
  have hL : s.heap.IsList l its.toArray := ⟨_, e, rfl, n, rfl⟩
  obtain ⟨xs, e⟩ := hi.allInts.items
  have hns : ns = xs.toList.map (·.1) := by rw [← hi.numsOf, ← nums_intItems, ← e]
  have hsz : 0 < xs.size := by rw [hns, List.length_map, Array.length_toList] at hne; exact hne
  rw [e] at hL
  refine min_intList (I.ok.hd hc) hL hsz fun v h' tk hv hk => ?_
  obtain ⟨t, rfl⟩ := intItems_at hv
  obtain ⟨h1, h2⟩ := argBest_lt (numAt xs) (xs.size - 1)
  refine ⟨.int _, H, I.kept hk, ⟨_, rfl⟩, q _ ?_ fun a ha => ?_⟩
  · rw [hns, numAt_eq]; exact getD_mem (by rw [List.length_map, Array.length_toList]; omega)
  · rw [hns] at ha
    obtain ⟨j, hj, rfl⟩ := mem_getD ha
    rw [List.length_map, Array.length_toList] at hj
    rw [← numAt_eq]; exact h2 j (by omega)
theorem call_maxI {X : Cx} (hc : X.calm = true) : CallR X (.builtin "max") (fun xs H Q => ∃ (l : Addr) (ns : List Int), xs = [.ref l] ∧ H l = some (.lst (ns.map V.int)) ∧ 0 < ns.length ∧ ∀ M, M ∈ ns → (∀ a, a ∈ ns → a ≤ M) → Q (.int M) H) := by
  intro pins s σ H xs us Q I r h
  obtain ⟨l, ns, rfl, hH, hne, q⟩ := h
  obtain ⟨u, rfl, rfl⟩ := vals1 r
  obtain ⟨z, its, n, rv, hl, e⟩ := I.lstM hH
  have hi := ints_are rv
  have hL : s.heap.IsList l its.toArray := ⟨_, e, rfl, n, rfl⟩
  obtain ⟨xs, e⟩ := hi.allInts.items
  have hns : ns = xs.toList.map (·.1) := by rw [← hi.numsOf, ← nums_intItems, ← e]
  have hsz : 0 < xs.size := by rw [hns, List.length_map, Array.length_toList] at hne; exact hne
  rw [e] at hL
  refine max_intList (I.ok.hd hc) hL hsz fun v h' tk hv hk => ?_
  obtain ⟨t, rfl⟩ := intItems_at hv
  obtain ⟨h1, h2⟩ := argBest_gt (numAt xs) (xs.size - 1)
  refine ⟨.int _, H, I.kept hk, ⟨_, rfl⟩, q _ ?_ fun a ha => ?_⟩
  · rw [hns, numAt_eq]; exact getD_mem (by rw [List.length_map, Array.length_toList]; omega)
  · rw [hns] at ha
    obtain ⟨j, hj, rfl⟩ := mem_getD ha
    rw [List.length_map, Array.length_toList] at hj
    rw [← numAt_eq]; exact h2 j (by omega)
def rIndex : V → List V → Hp → VK → Prop := fun x vs H Q => ∃ (l : Addr) (ns : List Int) (k : Int), x = .ref l ∧ vs = [.int k] ∧ H l = some (.lst (ns.map V.int)) ∧ k ∈ ns ∧ Q (.int ((ns.idxOf k : Nat) : Int)) H
theorem mt_index {X : Cx} : MtM X "list.index" rIndex := by
  intro pins s σ H x vs v us Q I rx rv h
  obtain ⟨l, ns, k, rfl, rfl, hH, hk, q⟩ := h
  cases rx
  obtain ⟨u, rfl, ru⟩ := rv.one
  obtain ⟨t, rfl⟩ := ru
  obtain ⟨z, its, n, r, hl, e⟩ := I.lstM hH
  have hi := ints_are r
  have hlen := hi.length
  have hj : ns.idxOf k < ns.length := List.idxOf_lt_length_iff.mpr hk
  rw [List.length_map] at z
  have hb : sizeLine < 2 ^ 62 := by decide
  refine call_meets PySem.F.slot_list_index ⟨_, e, rfl⟩ PySem.F.entry_list_index (PySem.F.args_list_index_2 _ _)
    (list_indexAt l its.toArray n _ _ (.int k t) (isInt k) (ns.idxOf k) (by simpa [hlen] using hj) (by omega) ?_ ?_) ⟨e, fun y hy => (eq_isInt k t hi y (by simpa using hy)).at _ _, ?_⟩
  · show isInt k its[ns.idxOf k] = true
    rw [isInt_at k hi _ (by omega) hj]
    simpa using List.getElem_idxOf hj
  · intro j hjs hlt
    show isInt k its[j] = false
    rw [isInt_at k hi j (by simpa using hjs) (by omega)]
    exact ne_of_lt_idxOf hlt _
  · exact ⟨.int _, H, I.tok _, ⟨_, rfl⟩, q⟩
end L2

/-! own layer, part 18: slopes of curves; curves that are nought at told places -/
namespace L2
/-- the curve of the slopes -/
def dL : List Rat → List Rat
  | [] => []
  | _ :: r => addL r (0 :: dL r)
def wL (l : List Rat) (c : Nat) : List Rat := (List.range l.length).map fun j => l.getD j 0 * ((j + c : Nat) : Rat)
/-- the curve about a place -/
def ty (x : Rat) : List Rat → List Rat
  | [] => []
  | q :: r => addL (q :: ty x r) ((ty x r).map (· * x))
theorem getD_addL : ∀ (l m : List Rat) (k : Nat), (addL l m).getD k 0 = l.getD k 0 + m.getD k 0
  | [], m, k => by show m.getD k 0 = 0 + m.getD k 0; grind
  | a :: l, [], k => by show (a :: l).getD k 0 = (a :: l).getD k 0 + 0; grind
  | a :: l, b :: m, 0 => rfl
  | a :: l, b :: m, k + 1 => getD_addL l m k
theorem getD_scale (y : Rat) (l : List Rat) (k : Nat) : (l.map (· * y)).getD k 0 = l.getD k 0 * y := by
  rw [List.getD_eq_getElem?_getD, List.getD_eq_getElem?_getD, List.getElem?_map]
  cases l[k]? with
  | none => show (0 : Rat) = 0 * y; grind
  | some t => rfl
/-- curves that come to the same at all whole places have the same numbers -/
theorem coef_one {l m : List Rat} (h : ∀ k : Nat, Cv.ev l ((k : Nat) : Rat) = Cv.ev m ((k : Nat) : Rat)) (k : Nat) : l.getD k 0 = m.getD k 0 := by
  have z := Cv.ident _ (addL l (m.map (· * (-1)))) (Nat.le_refl _) 0 fun k _ => by
    rw [ev_addL, Cv.ev_scale, h k]; grind
  have e : (addL l (m.map (· * (-1)))).getD k 0 = 0 := by
    rw [List.getD_eq_getElem?_getD]
    cases q : (addL l (m.map (· * (-1))))[k]? with
    | none => rfl
    | some t => exact z t (List.mem_of_getElem? q)
  rw [getD_addL, getD_scale] at e
  grind
/-- what a curve is, divided by a line through a place -/
def quo (c : Rat) : List Rat → List Rat
  | [] => []
  | _ :: r => addL r ((quo c r).map (· * c))
end L2

/-! own layer, part 19: products of lines, and shares -/
namespace L2
/-- the product of the lines through places -/
def prL : List Rat → List Rat
  | [] => [1]
  | o :: os => mulL [-o, 1] (prL os)
/-- its height -/
def prV (x : Rat) : List Rat → Rat
  | [] => 1
  | o :: os => (x - o) * prV x os
/-- one over each, added -/
def tuV (x : Rat) : List Rat → Rat
  | [] => 0
  | o :: os => 1 / (x - o) + tuV x os
end L2

/-! own layer, part 20: a comprehension with a test -/
namespace L2
open PySem PySem.Spec PyProof.Rows
end L2

/-! own layer, part 21: a tuple so many times -/
namespace PySem
open Sem (wp)
open Builtin
set_option maxRecDepth 100000
end PySem
namespace L2
open PySem PySem.Spec PyProof.Rows
variable {X : Cx}
/-- a tuple once, and twice -/
def rRepT (K : PySem.W.Frag) : R2 := fun x y H Q => ∃ (l : Addr) (xs : List V), x = .ref l ∧ SqT K H l xs ∧ xs ≠ [] ∧ xs.length ≤ 1000 ∧ ((y = .int 1 ∧ Q (.ref l) H) ∨ (y = .int 2 ∧ ∀ p, H p = none → Q (.ref p) (upd H p (.tup (xs ++ xs)))))
end L2

/-! own layer, part 22: lists and tuples of tuples of numbers are compared -/
namespace L2
open PySem PySem.Spec PyProof.Rows
def tpD (rs : List Rat) : PyData := .tuple (rs.map nD)
end L2

/-! own layer, part 23: numbers that are told of by their own object; dicts with such keys -/
namespace L2
open PySem PySem.Spec PyProof.Rows
/-- a number as a key -/
def kQ (q : Rat) : List Key := [.inl q.num, .inl (q.den : Int)]
def NumT (H : Hp) (x : V) (q : Rat) : Prop := ∃ r, x = .ref r ∧ H r = some (nT q)
abbrev NumsT (H : Hp) : List V → List Rat → Prop := Paired (NumT H)
/-- a point whose place is told of by its own object -/
def PtT (K : PySem.W.Frag) (H : Hp) (x : V) (ps : List Rat) : Prop := ∃ a us p, x = .ref a ∧ SqT K H a us ∧ Nums K H us ps ∧ us[0]? = some (.ref p) ∧ H p = some (nT (ps.getD 0 0))
abbrev PtsT (K : PySem.W.Frag) (H : Hp) : List V → List (List Rat) → Prop := Paired (PtT K H)
section
variable {K : PySem.W.Frag} {H H' : Hp} {x : V} {ps : List Rat} {xs : List V} {pss : List (List Rat)} {p : Addr} {ys : List V} {o : HO}
end
/-- what is told, its place told of by its own object -/
def TlT (K : PySem.W.Frag) (H : Hp) (v : V) (t : Told) : Prop := ∃ a p rn, v = .ref a ∧ SqT K H a [.ref p, .int t.k, rn] ∧ H p = some (nT t.x) ∧ NumV K H rn t.n
abbrev TlsT (K : PySem.W.Frag) (H : Hp) : List V → List Told → Prop := Paired (TlT K H)
section
variable {K : PySem.W.Frag} {H H' : Hp} {x : V} {t : Told} {xs : List V} {ts : List Told} {p : Addr} {ys : List V} {o : HO}
end
end L2

/-! own layer, part 24: steps from a table, and the curve that they make -/
namespace L2
/-- steps s j, s j + 1, .. over the knots x i, x i + 1, ..: n of them -/
def nwT (T : Nat → Nat → Rat) (x : Nat → Rat) (j : Nat) : Nat → List Rat
  | 0 => []
  | n + 1 => addL (nwT T x j n) ((prL ((List.range n).map fun i => x (j + i))).map (· * T n j))
def prF (x : Nat → Rat) (j n : Nat) (X : Rat) : Rat := prV X ((List.range n).map fun i => x (j + i))
/-- the table's rule -/
def TabOk (T : Nat → Nat → Rat) (x : Nat → Rat) (N : Nat) : Prop := ∀ k j, j + k + 1 < N → T (k + 1) j * (x (j + k + 1) - x j) = T k (j + 1) - T k j
end L2

/-! own layer, part 25: the whole of a tuple, cut out -/
namespace HT
open PySem PyProof.Rows
open PySem.SeqAt
open PySem.AutoSeq1 (wpAny_loadPart')
open PySem.MeetsSeq PySem.MeetsSeq2 PySem.MeetsSeq3
theorem getItem_tuple_whole {prog : Program} {w : World} {A : Around} {E : Value → Shared → Prop} {s : Shared} {t sl : Addr} {items : Array Value} {vl vu : Value} {lo hi : Option Int} {Q : Value → Shared → Prop} (ht : IsTup s.heap t items) (hs : s.heap.IsSliceOf sl vl vu .none) (pl : IsPart vl lo) (pu : IsPart vu hi)
    (hw : sIx items.size 0 lo = 0 ∧ sIx items.size items.size hi = items.size) (h : Q (.ref t) s) : wpAny (model prog w) A (getItem (.ref t) (.ref sl)) Q E s := by
  obtain ⟨os, hos, hcs, hds⟩ := id hs
  have hTs : s.TypeIs (.ref sl) "slice" := ⟨os, hos, hcs⟩
  unfold getItem
  try with_reducible refine wpAny_holding ?_
  first | refine wpAny_bind (wpAny_pure ?_) | skip
  refine wpAny_bind (wpAny_sequenceKey ht.typeIs (by decide) ?_)
  refine wpAny_bind (wpAny_callSpecial?_slot (name := Str.ofString "__getitem__") ht.typeIs PyProof.Rows.slot_tuple_getitem
    (wpAny_call_entry PyProof.Rows.slot_tuple_getitem ht.typeIs entry_tuple_getitem ?_ (args_tuple_getitem _ _)))
  show wpAny _ _ (Builtin.Tuple.tupleItemsOf (.ref t) >>= _) _ _ s
  refine wpAny_bind (tupleItemsOf_ ht ?_)
  refine wpAny_bind (wpAny_typeOf hTs ?_)
  rw [if_pos (by decide)]
  refine wpAny_bind (sliceApplied_gen hs pl pu ?_)
  have hyes : (((sIx items.size 0 lo : Nat) : Int) == 0 && (1 : Int) == 1 && (sIx items.size items.size hi - sIx items.size 0 lo) == items.size) = true := by
    rw [hw.1, hw.2]; simp
  show wpAny _ _ (if (((sIx items.size 0 lo : Nat) : Int) == 0 && (1 : Int) == 1 && (sIx items.size items.size hi - sIx items.size 0 lo) == items.size) = true then _ else _) _ _ s
  rw [if_pos hyes]
  refine wpAny_bind ?_
  refine wpAny_bind (wpAny_typeOf ht.typeIs ?_)
  refine wpAny_pure ?_
  rw [if_pos (by decide)]
  first
    | exact wpAny_bind (wpAny_rule (wpAny_pure ⟨_, rfl, wpAny_pure h⟩))
    | exact wpAny_pure ⟨_, rfl, wpAny_pure h⟩
    | trace_state
end HT
namespace L2
open PySem PySem.Spec PyProof.Rows
section
variable {X : Cx} {K : PySem.W.Frag}
/-- t[lo:hi] that is all of t: t itself -/
def rSlTW (K : PySem.W.Frag) : V → Option Int → Option Int → Hp → VK → Prop := fun x lo hi H Q => ∃ a xs, x = .ref a ∧ SqT K H a xs ∧
  (HT.sIx xs.length 0 lo = 0 ∧ HT.sIx xs.length xs.length hi = xs.length) ∧ Q (.ref a) H
theorem sl_tupW : SlR X (rSlTW X.K) := by
  intro pins s σ H x v vl vu lo hi sl Q I rx hs pl pu h
  obtain ⟨a, xs, rfl, hx, hw, q⟩ := h
  cases rx
  obtain ⟨its, r, ht, hz⟩ := I.tuple hx
  have hlen : its.toArray.size = xs.length := by rw [List.size_toArray]; exact r.length.symm
  refine ⟨"tuple", _, PyProof.Rows.slot_tuple_getitem.lookup, ht.typeIs, ?_⟩
  exact HT.getItem_tuple_whole ht hs pl pu (by rw [hlen]; exact hw) ⟨.ref a, H, I, rfl, q⟩
/-- a tuple's part, or the whole of it -/
def rSlTA (K : PySem.W.Frag) : V → Option Int → Option Int → Hp → VK → Prop := fun x lo hi H Q => rSlT K x lo hi H Q ∨ rSlTW K x lo hi H Q
theorem slTA (K : PySem.W.Frag) (e : X.K = K := by rfl) : SlR X (rSlTA K) := by subst e; exact SlR.or sl_tup sl_tupW
end
end L2

/-! own layer, part 26: the sum of a list of ints; tuple + tuple, the first one empty too -/
namespace L2
open PySem PySem.Spec PyProof.Rows PySem.SeqAt
section
variable {X : Cx}
theorem _root_.HT.cat_tup0 {prog : Program} {w : World} {A : Around} {E : Value → Shared → Prop} {s : Shared} {t b : Addr} {ws : List Value} {Q : Value → Shared → Prop} (ht : IsTup s.heap t ([] : List Value).toArray) (hb : IsTup s.heap b ws.toArray)
    (h1 : Q (.ref b) s) : wpAny (model prog w) A (binaryOp .Add (.ref t) (.ref b)) Q E s := by
  obtain ⟨⟨cls, dd, data, sl⟩, ho, hc, n, hd⟩ := id ht
  obtain ⟨⟨cls2, dd2, data2, sl2⟩, ho2, hc2, n2, hd2⟩ := id hb
  simp only at hc hd hc2 hd2
  subst hc hd hc2 hd2
  exact concat_meets ⟨_, ho, rfl⟩ ⟨_, ho2, rfl⟩ noFill_tuple_add seq_tuple_add PySem.F.slot_tuple_add PySem.F.entry_tuple_add (PySem.F.args_tuple_add_2 _ _)
      (tuple_addW0 t b ([] : List Value).toArray ws.toArray n n2 dd dd2 sl sl2 (by simp)) ⟨ho, ho2, h1⟩
/-- t + u, whatever they hold -/
def rCatTA (K : PySem.W.Frag) : R2 := fun x y H Q => rCatT K x y H Q ∨ ∃ a b ys, x = .ref a ∧ y = .ref b ∧ SqT K H a [] ∧ SqT K H b ys ∧ Q (.ref b) H
theorem op_catTA : OpR X (binaryOp .Add) (rCatTA X.K) := by
  intro pins s σ H x y v u Q I rx ry h
  rcases h with h | ⟨a, b, ys, rfl, rfl, ha, hb, q⟩
  · exact op_catT pins s σ H x y v u Q I rx ry h
  · cases rx
    cases ry
    obtain ⟨its, r1, p1, _⟩ := I.tuple ha
    obtain ⟨its2, r2, p2, _⟩ := I.tuple hb
    cases r1
    exact HT.cat_tup0 p1 p2 ⟨.ref b, H, I, rfl, q⟩
theorem catTA (K : PySem.W.Frag) (e : X.K = K := by rfl) : OpR X (binaryOp .Add) (rCatTA K) := by subst e; exact op_catTA
end
theorem cut_from (xs : List V) (v : Nat) : cutV xs (some (v : Int)) none = xs.drop v := by
  unfold cutV
  have e1 : HT.sIx xs.length 0 (some (v : Int)) = min v xs.length := HT.sIx_nat _ _ v
  have e2 : HT.sIx xs.length xs.length none = xs.length := rfl
  rw [e1, e2]
  by_cases h : v ≤ xs.length
  · rw [Nat.min_eq_left h, List.take_of_length_le (by rw [List.length_drop]; exact Nat.le_refl _)]
  · rw [Nat.min_eq_right (by omega), Nat.sub_self, List.take_zero, List.drop_eq_nil_of_le (by omega)]
end L2

/-! own layer, part 27: zip of two lists, in a loop with a tuple of targets -/
namespace L2
open PySem PySem.Spec PyProof.Rows
section
variable {X : Cx} {pins : List (Addr × Obj)} {σ : List (Option V)} {H : Hp} {s : Shared} {h' : Heap}
end
/-- the lists xs at a and ys at b (they stay), in pairs: each time a new tuple -/
def Itz (K : PySem.W.Frag) (a b : Addr) (xs ys : List V) : It :=
  ⟨fun i H => SqL K H a xs ∧ SqL K H b ys ∧ i < min xs.length ys.length,
   fun i H x H' => ∃ T x1 y1, xs[i]? = some x1 ∧ ys[i]? = some y1 ∧ H T = none ∧ x = .ref T ∧ H' = upd H T (.tup [x1, y1]),
   fun i H => SqL K H a xs ∧ SqL K H b ys ∧ min xs.length ys.length ≤ i⟩
section
variable {X : Cx}
def iZip (K : PySem.W.Frag) (ta : TA) : TI := fun σ H R => ta σ H fun vs H1 => ∃ a b xs ys, vs = [.ref a, .ref b] ∧ SqL K H1 a xs ∧ SqL K H1 b ys ∧ R (Itz K a b xs ys) H1
end
end L2

/-! own layer, part 28: the table of a set, where its places are found -/
namespace L2
open PySem PySem.Spec PyProof.Rows
namespace St
open SetTable
def it (mask : Nat) : Nat → Nat → Nat
  | 0, i => i
  | n + 1, i => it mask n ((i * 5 + 1) % (mask + 1))
/-- the places at which a run begins -/
def bs (mask : Nat) (b : Nat) : Nat → Nat × Nat
  | 0 => (b % (mask + 1), b)
  | n + 1 => leap mask (bs mask b n).1 (bs mask b n).2
def base (mask i pert : Nat) : Probe := { j := i, more := runEnd mask i - i, i, perturb := pert, dummy := none }
def advs (t : SetTable) : Nat → Probe → Probe
  | 0, p => p
  | n + 1, p => advs t n (t.advance p)
def Hit (t : SetTable) (k : Nat) (p : Probe) : Prop := t.slot (advs t k p).j = .empty
end St
end L2

/-! own layer, part 29: a number put into a set -/
namespace L2
open PySem PySem.Spec PyProof.Rows
namespace St
open SetTable
section
variable {prog : Program} {w : World} {K : Type} [DecidableEq K] (knd : KeyKind prog w K)
/-- a tuple of ints at a, as a key -/
def IsN (h : Heap) (ks : List K) (a : Addr) : Prop := ∃ o items n, h.get? a = some o ∧ o.cls = .type "tuple" ∧ o.data = .seq items n ∧ ItemsAre knd ks items.toList ∧ ∀ v ∈ items.toList, ∃ k t, v = .int k t
variable {knd}
variable {A : Around} {E : Value → Shared → Prop} {s : Shared}
/-- elements of a set that are numbers, none of them the key ks -/
def Ns (knd : KeyKind prog w K) (h : Heap) (l : List Value) (ks : List K) : Prop := ∀ v ∈ l, ∃ b k', v = .ref b ∧ IsN knd h k' b ∧ k' ≠ ks
end
end St
end L2

/-! own layer, part 30: a set's table laid anew -/
namespace L2
open PySem PySem.Spec PyProof.Rows
namespace St
open SetTable
def lv (owner : Array (Option Nat)) (j : Nat) : Option (Nat × Nat) := (owner.getD j none).map (j, ·)
/-- owner holds 0 .. k - 1, each once -/
def Own (owner : Array (Option Nat)) (k : Nat) : Prop := owner.size = 32 ∧ (((List.range 32).filterMap (lv owner)).map (·.2)).Perm (List.range k)
def stp (acc : Option (Array (Option Nat) × Nat)) (h : Int) : Option (Array (Option Nat) × Nat) := do
  let (owner, k) ← acc
  let j ← layClean.free 31 owner (turns 31) (bits h % (31 + 1)) (bits h)
  pure (owner.setIfInBounds j (some k), k + 1)
end St
end L2

/-! own layer, part 31: a number put into a set of unlike numbers; set of a list of them; its length -/
namespace L2
open PySem PySem.Spec PyProof.Rows
namespace St
open SetTable
section
variable {prog : Program} {w : World} {K : Type} [DecidableEq K] (knd : KeyKind prog w K) (G : Addr → Prop)
/-- a set of the unlike keys, at places of G -/
def SetN (h : Heap) (S : Addr) (keys : List (List K)) : Prop := ∃ o es ep t, h.get? S = some o ∧ o.ExactSet ∧ o.data = .set es ep t ∧ (t.mask = 7 ∧ es.size ≤ 4 ∨ t.mask = 31) ∧ t.dummies = #[] ∧ t.place.size = es.size ∧ es.size = keys.length ∧
  ∀ e ∈ es.toList, ∃ b k, e.2 = Value.ref b ∧ IsN knd h k b ∧ k ∈ keys ∧ G b
variable {knd} {G}
variable {A : Around} {E : Value → Shared → Prop} {s : Shared}
end
end St
end L2

/-! own layer, part 32: set of a list of unlike numbers, its length -/
namespace L2
open PySem PySem.Spec PyProof.Rows
namespace St
section
variable {prog : Program} {w : World} {K : Type} [DecidableEq K] {knd : KeyKind prog w K} {G : Addr → Prop} {A : Around} {R : Result → Shared → Prop} {I : Addr} {fp wr : List Addr} {GG : Array GenState → Array GenState → Prop} {n : Nat} {P : Nat → Value → Prop} {St : Nat → Shared → Prop}
def ksAt (key : Nat → List K) : Nat → List (List K)
  | 0 => []
  | i + 1 => key i :: ksAt key i
end
section
variable {prog : Program} {w : World} {K : Type} [DecidableEq K] {knd : KeyKind prog w K} {A : Around} {E : Value → Shared → Prop} {s : Shared}
/-- an empty set, an iterator of a list, as they are made -/
abbrev nS (led : Bool) : Obj := { cls := .type "set", dict := none, data := .set #[] 0 (.fresh 0 0 led) }
abbrev nI (l : Addr) : Obj := { cls := .type "list_iterator", data := .fields #[.ref l, .int 0 0] }
end
end St
end L2

/-! own layer, part 33: set of a list of unlike numbers, and its length, as rules -/
namespace L2
open PySem PySem.Spec PyProof.Rows
/-- a set of n things, by its own object -/
def SetO (p : Addr) (n : Nat) : HO := .ext fun h => ∃ o es ep t, h.get? p = some o ∧ o.ExactSet ∧ o.data = .set es ep t ∧ SetTable.fits t es.size = true ∧ es.size = n
section
variable {X : Cx}
def rSetN (K : PySem.W.Frag) : List V → Hp → VK → Prop := fun xs H Q => ∃ (l : Addr) (ys : List V) (qs : List Rat), xs = [.ref l] ∧ SqL K H l ys ∧ NumsT H ys qs ∧ qs.Nodup ∧ qs.length ≤ 17 ∧ ∀ p, H p = none → Q (.ref p) (upd H p (SetO p qs.length))
end
end L2

/-! own layer, part 34: isinstance of a list or a tuple, and several types -/
namespace L2
open PySem PySem.Spec PyProof.Rows
section
open PySem.W
variable {X : Cx} (K : PySem.W.Frag)
def cIsiT : List V → Hp → VK → Prop := fun xs H Q => ∃ a t tp ys cs b, xs = [.ref a, .ref tp] ∧ ((∃ zs, SqT K H a zs) ∧ t = Value.type "tuple" ∨ (∃ zs, SqL K H a zs) ∧ t = Value.type "list") ∧ H tp = some (.tup ys) ∧ ys.map clsV = cs.map some ∧ kitAny K t cs = some b ∧ Q (.bl b) H
end
end L2

namespace Pf
open PySem L2
def top (i : Nat) : Stmt := PySem.Challenge.pw_onecurve_k38_halves_of_a_stretch.main.body.getD i (.Pass ⟨0, 0, 0, 0⟩)
theorem absG {G : Prop} (h : ∀ C : Prop, (G → C) → C) : G := h G id

/-- the top of a number over a common bottom -/
def topOf (B : Int) (q : Rat) : Int := q.num * B.fdiv q.den
theorem topOf_rat {B : Int} {q : Rat} (h : (q.den : Int) ∣ B) : ((topOf B q : Int) : Rat) = q * (B : Rat) := by
  obtain ⟨k, rfl⟩ := h
  have e : (((q.den : Int) * k).fdiv (q.den : Int)) = k := Int.mul_fdiv_cancel_left _ (Nm.den_ne q)
  unfold topOf
  rw [e, Rat.intCast_mul, Rat.intCast_mul, Nm.num_mul q]
  grind
theorem tops_ev {B : Int} {qs : List Rat} (h : ∀ q ∈ qs, (q.den : Int) ∣ B) (x : Rat) : Cv.ev ((qs.map (topOf B)).map fun t : Int => (t : Rat)) x = Cv.ev qs x * (B : Rat) := by
  rw [← Cv.ev_scale, List.map_map]
  congr 1
  exact List.map_congr_left fun q hq => topOf_rat (h q hq)
def spBot (K : PySem.W.Frag) : Sp := fun vs H Q _ => ∃ (b : Bool) (r : Addr) (xs : List V) (qs : List Rat) (n : Nat), vs = [.ref r] ∧ Sq b K H r xs ∧ Nums K H xs qs ∧ (∀ q ∈ qs, Bd n (q.den : Int)) ∧ n * (qs.length + 2) ≤ 60000000 ∧
  ∀ B : Int, 0 < B → (∀ q ∈ qs, (q.den : Int) ∣ B) → Bd (n * qs.length + 1) B → Q (.int B) H
def spTops (K : PySem.W.Frag) : Sp := fun vs H Q _ => ∃ (b : Bool) (r : Addr) (xs : List V) (qs : List Rat) (B : Int) (m n : Nat), vs = [.ref r, .int B] ∧ Sq b K H r xs ∧ Nums K H xs qs ∧ Bd m B ∧ (∀ q ∈ qs, Bd n q.num) ∧ m + n ≤ 134217728 ∧ qs.length ≤ 1000 ∧
  ∀ p, H p = none → Q (.ref p) (upd H p (.lst ((qs.map (topOf B)).map V.int)))
def spCurveOf (K : PySem.W.Frag) : Sp := fun vs H Q _ => ∃ (r : Addr) (xs : List V) (qs : List Rat), vs = [.ref r] ∧ SqL K H r xs ∧ Nums K H xs qs ∧ qs.length ≤ 1000 ∧ ∀ p H', Same H H' → Crv K H' p (Cv.strip qs) → Q (.ref p) H'
/-- the height times the scale, and the scale -/
def spWH (K : PySem.W.Frag) : Sp := fun vs H Q _ => ∃ (l rx : Addr) (ts : List Int) (x : Rat) (m n : Nat), vs = [.ref l, .ref rx] ∧ SqL K H l (ts.map V.int) ∧ NumV K H (.ref rx) x ∧ (∀ t ∈ ts, Bd m t) ∧ RB n x ∧ m + (n + 1) * (ts.length + 4) ≤ 100000000 ∧
  ∀ (h s : Int) (p : Addr), s = (x.den : Int) ^ ts.length → s ≠ 0 → (h : Rat) = Cv.evI ts x * (s : Rat) → Bd (m + (n + 1) * (ts.length + 2)) h → Bd (n * ts.length + 1) s → H p = none → Q (.ref p) (upd H p (.tup [.int h, .int s]))
def spHeight (K : PySem.W.Frag) : Sp := fun vs H Q _ => ∃ (r rx : Addr) (qs : List Rat) (x : Rat) (n : Nat), vs = [.ref r, .ref rx] ∧ Crv K H r qs ∧ NumV K H (.ref rx) x ∧ (∀ q ∈ qs, RB n q) ∧ RB n x ∧ (n + 1) * ((qs.length + 4) * (qs.length + 4)) ≤ 30000000 ∧ qs.length ≤ 1000 ∧
  ∀ p H', Same H H' → H' p = some (nT (Cv.ev qs x)) → Q (.ref p) H'
theorem lcm_step {b d : Int} (hb : 0 < b) (hd : 0 < d) : 0 < b * d.fdiv (Int.gcd b d : Int) ∧ b ∣ b * d.fdiv (Int.gcd b d : Int) ∧ d ∣ b * d.fdiv (Int.gcd b d : Int) := by
  have g0 : (0 : Int) < (Int.gcd b d : Int) := by have := Nm.gcd_pos (a := b) (b := d) (by omega); omega
  obtain ⟨k, hk⟩ : (Int.gcd b d : Int) ∣ d := Int.gcd_dvd_right ..
  obtain ⟨j, hj⟩ : (Int.gcd b d : Int) ∣ b := Int.gcd_dvd_left ..
  generalize (Int.gcd b d : Int) = g at *
  subst hk
  subst hj
  have e : (g * k).fdiv g = k := Int.mul_fdiv_cancel_left _ (by omega)
  rw [e]
  have hk0 : 0 < k := by
    rcases Int.lt_trichotomy k 0 with z | z | z
    · have : g * k < 0 := Int.mul_neg_of_pos_of_neg g0 z
      omega
    · rw [z, Int.mul_zero] at hd; omega
    · exact z
  exact ⟨Int.mul_pos hb hk0, ⟨k, rfl⟩, ⟨j, by grind⟩⟩

/-- the product of two lists of tops: what it comes to, how long it is, how great its tops are -/
def spProd (K : PySem.W.Frag) : Sp := fun vs H Q _ => ∃ (f g : Addr) (fs gs : List Int) (m n : Nat), vs = [.ref f, .ref g] ∧ SqL K H f (fs.map V.int) ∧ SqL K H g (gs.map V.int) ∧ 1 ≤ gs.length ∧ fs.length ≤ 1000 ∧ gs.length ≤ 1000 ∧ (∀ t ∈ fs, Bd m t) ∧ (∀ t ∈ gs, Bd n t) ∧ m + n ≤ 60000000 ∧
  ∀ (p : Addr) (H' : Hp) (ps : List Int), Same H H' → H p = none → H' p = some (.lst (ps.map V.int)) → ps.length = fs.length + gs.length - 1 → (∀ x, Cv.evI ps x = Cv.evI fs x * Cv.evI gs x) → (∀ t ∈ ps, Bd (m + n + 20) t) → Q (.ref p) H'
def spCurveOver (K : PySem.W.Frag) : Sp := fun vs H Q _ => ∃ (l : Addr) (ts : List Int) (b : Int), vs = [.ref l, .int b] ∧ SqL K H l (ts.map V.int) ∧ b ≠ 0 ∧ ts.length ≤ 1000 ∧ ∀ p H', Same H H' → Crv K H' p (Cv.strip (ts.map fun t => Rat.divInt t b)) → Q (.ref p) H'
def slopeL (qs : List Rat) : List Rat := (List.range (qs.length - 1)).map fun j => qs.getD (j + 1) 0 * ((j + 1 : Nat) : Rat)
def spSlope (K : PySem.W.Frag) : Sp := fun vs H Q _ => ∃ (r : Addr) (qs : List Rat) (n : Nat), vs = [.ref r] ∧ Crv K H r qs ∧ qs.length ≤ 1000 ∧ (∀ q ∈ qs, RB n q) ∧ n ≤ 10000000 ∧ ∀ p H', Same H H' → Crv K H' p (slopeL qs) → Q (.ref p) H'

def spLine (K : PySem.W.Frag) : Sp := fun vs H Q _ => ∃ (r ra rb : Addr) (qs : List Rat) (a b : Rat) (n : Nat), vs = [.ref r, .ref ra, .ref rb] ∧ Crv K H r qs ∧ NumV K H (.ref ra) a ∧ NumV K H (.ref rb) b ∧ (∀ q ∈ qs, RB n q) ∧ RB n a ∧ RB n b ∧ n ≤ 1000 ∧ qs.length ≤ 100 ∧
  ∀ p H' rs, Same H H' → Crv K H' p rs → rs.length ≤ qs.length → Good rs → (∀ q ∈ rs, RB (4 * (n * qs.length) + 23 * qs.length + 5 * n + 12) q) → (∀ x, Cv.ev rs x = Cv.ev qs (a * x + b)) → Q (.ref p) H'

/-- a drawn curve -/
def spCurve (K : PySem.W.Frag) (n : Nat) : Sp := fun vs H Q _ => ∃ (a : Addr) (most : Int), vs = [.ref a, .int most] ∧ Pen H a ∧ 0 ≤ most ∧ most ≤ 100 ∧
  ∀ (qs : List Rat) (r : Addr) (H' : Hp), Mv a H H' → Pen H' a → Crv K H' r qs → Good qs → (qs.length : Int) ≤ most → (∀ q ∈ qs, RB n q) → Q (.ref r) H'
theorem Mv.put' {a l : Addr} {H H' : Hp} {o : HO} (m : Mv a H H') (hl : H l = none) : Mv a H (upd H' l o) := fun b u n q => by rw [upd_ne (ne_of_none q hl)]; exact m b u n q

theorem over_eq (p q : Rat) (hq : q ≠ 0) : Rat.divInt (p.num * q.den) (p.den * q.num) = p / q := by
  have hn : q.num ≠ 0 := fun z => hq (Rat.num_eq_zero.mp z)
  apply Nm.div_eq (Int.mul_ne_zero (Nm.den_ne p) hn)
  rw [Rat.intCast_mul, Rat.intCast_mul, Nm.num_mul p, Nm.num_mul q]
  have e : p / q * q = p := Rat.div_mul_cancel hq
  have h : p / q * (((p.den : Int) : Rat) * (q * ((q.den : Int) : Rat))) = (p / q * q) * (((p.den : Int) : Rat) * ((q.den : Int) : Rat)) := by grind
  rw [h, e]
  grind
def spOver (K : PySem.W.Frag) : Sp := fun vs H Q _ => ∃ (x y : V) (p q : Rat) (m n : Nat), vs = [x, y] ∧ NumV K H x p ∧ NumV K H y q ∧ q ≠ 0 ∧ RB m p ∧ RB n q ∧ m + n ≤ 100000000 ∧ ∀ r, H r = none → Q (.ref r) (upd H r (nT (p / q)))
theorem RB.over {m n : Nat} {p q : Rat} (h1 : RB m p) (h2 : RB n q) (hq : q ≠ 0) : RB (m + n) (p / q) := by
  have hn : q.num ≠ 0 := fun z => hq (Rat.num_eq_zero.mp z)
  rw [← over_eq p q hq]
  exact ⟨Bd.num (h1.1.mul h2.2), Bd.den (Int.mul_ne_zero (Nm.den_ne p) hn) (h1.2.mul h2.1)⟩
def spLess (K : PySem.W.Frag) : Sp := fun vs H Q _ => ∃ (x y : V) (p q : Rat) (m n : Nat), vs = [x, y] ∧ NumV K H x p ∧ NumV K H y q ∧ RB m p ∧ RB n q ∧ m + n ≤ 100000000 ∧ Q (.bl (decide (p < q))) H
theorem less_eq (p q : Rat) : decide (p.num * q.den < q.num * p.den) = decide (p < q) := by
  rw [Bool.eq_iff_iff]
  simp only [decide_eq_true_eq]
  exact (Rat.lt_iff p q).symm

def spParts (K : PySem.W.Frag) : Sp := fun vs H Q _ => ∃ (r : Addr) (al : List Rat) (n : Nat), vs = [.ref r] ∧ Crv K H r al ∧ 1 ≤ al.length ∧ al.length ≤ 20 ∧ (∀ q ∈ al, RB n q) ∧ n ≤ 10000 ∧ 1 ≤ n ∧
  ∀ (p : Addr) (H' : Hp) (zs : List V), Same H H' → H' p = some (.lst zs) → Nums K H' zs (partsQ al) → (∀ q ∈ partsQ al, RB (n + 22) q) → Q (.ref p) H'
theorem ch_ne {n k : Nat} (h : k ≤ n) : ((ch n k : Nat) : Rat) ≠ 0 := fun z => by
  have hp := ch_pos n k h
  have : ch n k = 0 := by exact_mod_cast z
  omega
theorem ch_rb {n k : Nat} (hn : n ≤ 20) : RB 22 ((ch n k : Nat) : Rat) := by
  have h1 := ch_le n k
  have h2 : 2 ^ n ≤ 2 ^ 20 := Nat.pow_le_pow_right (by decide) hn
  exact ⟨by rw [Rat.num_natCast]; unfold Bd; omega, by rw [Rat.den_natCast]; unfold Bd; decide⟩
theorem parts_rb {al : List Rat} {n : Nat} (hl : al.length ≤ 20) (h1 : 1 ≤ n) (h : ∀ q ∈ al, RB n q) : ∀ q ∈ partsQ al, RB (n + 22) q := fun q hq => by
  unfold partsQ at hq
  obtain ⟨k, hk, rfl⟩ := List.mem_map.mp hq
  have hk' := List.mem_range.mp hk
  have g : RB n (al.getD k 0) := by
    rw [List.getD_eq_getElem?_getD]
    cases e : al[k]? with
    | none => exact RB.zero h1
    | some t => exact h t (List.mem_of_getElem? e)
  exact RB.over g (ch_rb (by omega)) (ch_ne (by omega))
theorem nT_nat (k : Nat) : nT ((k : Nat) : Rat) = .tup [.int (k : Int), .int 1] := by
  unfold nT
  rw [Rat.num_natCast, Rat.den_natCast]
  rfl
theorem getD_some {l : List Rat} {i : Nat} (h : i < l.length) : l[i]? = some (l.getD i 0) := by rw [List.getD_eq_getElem?_getD, List.getElem?_eq_getElem h]; rfl
theorem getD_someI {l : List Int} {i : Nat} (h : i < l.length) : l[i]? = some (l.getD i 0) := by rw [List.getD_eq_getElem?_getD, List.getElem?_eq_getElem h]; rfl

def spHts (K : PySem.W.Frag) : Sp := fun vs H Q _ => ∃ (c rl rh : Addr) (cs : List Rat) (lo hi : Rat) (n : Nat), vs = [.ref c, .ref rl, .ref rh] ∧ Crv K H c cs ∧ Good cs ∧ NumV K H (.ref rl) lo ∧ NumV K H (.ref rh) hi ∧ lo < hi ∧ (∀ q ∈ cs, RB n q) ∧ RB n lo ∧ RB n hi ∧ n ≤ 100 ∧ cs.length ≤ 7 ∧
  ∀ (p : Addr) (H' : Hp) (zs : List V), Same H H' → H p = none → H' p = some (.lst zs) → Nums K H' zs (hts cs lo hi) → (∀ q ∈ hts cs lo hi, RB 60000 q) → Q (.ref p) H'
theorem divA {b : Int} (hb : b ≠ 0) (s t : Int) : Rat.divInt (s + t) b = Rat.divInt s b + Rat.divInt t b := by
  apply Nm.div_eq hb
  have h1 := div_back hb s
  have h2 := div_back hb t
  rw [Rat.intCast_add, ← h1, ← h2]
  grind
theorem getDA {b : Int} (l : List Int) (j : Nat) : (l.map fun t => Rat.divInt t b).getD j 0 = Rat.divInt (l.getD j 0) b := by
  rw [List.getD_eq_getElem?_getD, List.getD_eq_getElem?_getD, List.getElem?_map]
  cases l[j]? with
  | none => exact (Rat.zero_divInt b).symm
  | some t => rfl
theorem aQN_map {b : Int} (hb : b ≠ 0) (l : List Int) : ∀ n, aQN n (l.map fun t => Rat.divInt t b) = (aIN n l).map fun t => Rat.divInt t b
  | 0 => rfl
  | n + 1 => by
    show aQ (aQN n _) = (aI (aIN n l)).map _
    rw [aQN_map hb l n]
    unfold aQ aI
    rw [List.length_map, List.map_map]
    refine List.map_congr_left fun j _ => ?_
    show _ + _ = Rat.divInt _ b
    rw [getDA, getDA, divA hb]
theorem topsA {B : Int} {qs : List Rat} (hB : B ≠ 0) (h : ∀ q ∈ qs, (q.den : Int) ∣ B) : (qs.map (topOf B)).map (fun t => Rat.divInt t B) = qs := by
  rw [List.map_map]
  conv => rhs; rw [← List.map_id qs]
  refine List.map_congr_left fun q hq => ?_
  exact Nm.div_eq hB (topOf_rat (h q hq))
theorem aIN_bd {M : Nat} {l : List Int} (h : ∀ t ∈ l, Bd M t) : ∀ i, ∀ t ∈ aIN i l, Bd (M + i) t
  | 0 => h
  | i + 1 => fun t ht => by
    have ih := aIN_bd h i
    have g : ∀ j, Bd (M + i) ((aIN i l).getD j 0) := fun j => by
      rw [List.getD_eq_getElem?_getD]
      cases e : (aIN i l)[j]? with
      | none => exact (show Bd 0 0 by unfold Bd; decide).mono (Nat.zero_le _)
      | some t => exact ih t (List.mem_of_getElem? e)
    change t ∈ aI (aIN i l) at ht
    unfold aI at ht
    obtain ⟨j, _, rfl⟩ := List.mem_map.mp ht
    exact (g _).add (g _)

def spStr (K : PySem.W.Frag) : Sp := fun vs H Q _ => ∃ (a : Addr), vs = [.ref a] ∧ Pen H a ∧
  ∀ (t rl rh : Addr) (lo hi : Rat) (H' : Hp), Mv a H H' → Pen H' a → H' t = some (.tup [.ref rl, .ref rh]) → NumV K H' (.ref rl) lo → NumV K H' (.ref rh) hi → lo < hi → RB 20 lo → RB 20 hi → Q (.ref t) H'
theorem rat_num_nonneg {q : Rat} (h : 0 ≤ q.num) : 0 ≤ q := Rat.num_nonneg.mp h
theorem lt_plus {a b : Rat} (h : 0 < b) : a < a + b := by grind
theorem rat_pos {q : Rat} (h0 : 0 ≤ q) (h : q.num ≠ 0) : 0 < q := by
  have : q ≠ 0 := fun z => h (by rw [z]; rfl)
  grind

/-- 1 over a number of steps -/
def inv1 (B : Int) : Rat := if h : 0 < B then ⟨1, B.toNat, by omega, by simp⟩ else 0
theorem top_le {B : Int} (hB : 0 < B) {p q : Rat} (hp : (p.den : Int) ∣ B) (hq : (q.den : Int) ∣ B) (h : topOf B p ≤ topOf B q) : p ≤ q := by
  have h1 := topOf_rat hp
  have h2 := topOf_rat hq
  have h3 : ((topOf B p : Int) : Rat) ≤ ((topOf B q : Int) : Rat) := Rat.intCast_le_intCast.mpr h
  rw [h1, h2] at h3
  have hB' : (0 : Rat) < (B : Rat) := Rat.intCast_pos.mpr hB
  by_cases c : p ≤ q
  · exact c
  · have c' : 0 < p - q := by grind
    have := Rat.mul_pos c' hB'
    grind
theorem pick {hs : List Rat} {B M : Int} (h : M ∈ hs.map (topOf B)) : ∃ q, hs[(hs.map (topOf B)).idxOf M]? = some q ∧ topOf B q = M ∧ q ∈ hs := by
  have hj : (hs.map (topOf B)).idxOf M < (hs.map (topOf B)).length := List.idxOf_lt_length_iff.mpr h
  have hj' : (hs.map (topOf B)).idxOf M < hs.length := by rw [List.length_map] at hj; exact hj
  have e := List.getElem_idxOf hj
  rw [List.getElem_map] at e
  exact ⟨_, List.getElem?_eq_getElem hj', e, List.getElem_mem hj'⟩
def spBds (K : PySem.W.Frag) : Sp := fun vs H Q _ => ∃ (c rl rh : Addr) (cs : List Rat) (lo hi : Rat) (n : Nat), vs = [.ref c, .ref rl, .ref rh] ∧ Crv K H c cs ∧ Good cs ∧ NumV K H (.ref rl) lo ∧ NumV K H (.ref rh) hi ∧ lo < hi ∧ (∀ q ∈ cs, RB n q) ∧ RB n lo ∧ RB n hi ∧ n ≤ 100 ∧ cs.length ≤ 7 ∧
  ∀ (p : Addr) (H' : Hp) (x y : V) (m M : Rat), Same H H' → H' p = some (.tup [x, y]) → NumV K H' x m → NumV K H' y M → m ∈ hts cs lo hi → M ∈ hts cs lo hi → (∀ q ∈ hts cs lo hi, m ≤ q ∧ q ≤ M) → RB 60000 m → RB 60000 M → Q (.ref p) H'
def spGreat (K : PySem.W.Frag) : Sp := fun vs H Q _ => ∃ (a : Addr), vs = [.ref a] ∧ Pen H a ∧
  ∀ (t c rl rh : Addr) (cs : List Rat) (lo hi : Rat) (H' : Hp), Mv a H H' → Pen H' a → H' t = some (.tup [.ref c, .ref rl, .ref rh]) → Crv K H' c cs → Good cs → cs.length ≤ 2 → (∀ q ∈ cs, RB 100 q) → NumV K H' (.ref rl) lo → NumV K H' (.ref rh) hi → lo < hi → RB 100 lo → RB 100 hi → Q (.ref t) H'

theorem kit_tt (K : PySem.W.Frag) : PySem.W.kitOne K (.type "tuple") (.type "tuple") = some true := by kernel_rfl
theorem slice_from {K : PySem.W.Frag} {H : Hp} {r : Addr} {xs : List V} {v : Nat} {Q : VK} (hS : SqT K H r xs) (hv : v ≤ xs.length) (h : ∀ (p : Addr) (H' : Hp), Same H H' → SqT K H' p (xs.drop v) → Q (.ref p) H') : rSlTA K (.ref r) (some (v : Int)) none H Q := by
  by_cases e : v = 0
  · subst e
    refine .inr ⟨r, xs, rfl, hS, ⟨by rw [HT.sIx_nat]; omega, rfl⟩, h r H (Same.refl _) ?_⟩
    rw [List.drop_zero]; exact hS
  · by_cases e0 : xs.length = 0
    · omega
    · refine .inl ⟨r, xs, rfl, hS, by rw [HT.sIx_nat]; omega, fun p hp => ?_⟩
      rw [cut_from]
      exact h p _ (Same.new hp) (SqT.of upd_same)
theorem cat_pts {K : PySem.W.Frag} {H : Hp} {a b : Addr} {xs ys : List V} {Q : VK} (ha : SqT K H a xs) (hb : SqT K H b ys) (hl : xs.length + ys.length ≤ sizeLine) (h : ∀ (p : Addr) (H' : Hp), Same H H' → SqT K H' p (xs ++ ys) → Q (.ref p) H') : rCatTA K (.ref a) (.ref b) H Q := by
  by_cases ex : xs = []
  · subst ex
    exact .inr ⟨a, b, ys, rfl, rfl, ha, hb, h b H (Same.refl _) hb⟩
  · refine .inl ⟨a, b, xs, ys, rfl, rfl, ha, hb, ex, hl, fun ey => ?_, fun _ p hp => h p _ (Same.new hp) (SqT.of upd_same)⟩
    subst ey
    exact h a H (Same.refl _) (by rw [List.append_nil]; exact ha)
theorem paired_drop {α β : Type} {F : α → β → Prop} : ∀ {l₁ : List α} {l₂ : List β} (i : Nat), Paired F l₁ l₂ → Paired F (l₁.drop i) (l₂.drop i)
  | _, _, i, .nil => by rw [List.drop_nil, List.drop_nil]; exact .nil
  | _, _, 0, .cons h t => .cons h t
  | _, _, i + 1, .cons _ t => paired_drop i t

theorem atV {xs : List V} {i : Nat} {x : V} {k : Int} (h : xs[i]? = some x) (e : k = (i : Int)) : atI xs k = some x := by subst e; exact atI_nat h

section
variable {X : Cx}
def rInsert : V → List V → Hp → VK → Prop := fun x vs H Q => ∃ l xs i k y, x = .ref l ∧ vs = [.int i, y] ∧ i = ((k : Nat) : Int) ∧ H l = some (.lst xs) ∧ k ≤ xs.length ∧ xs.length ≤ 1000 ∧ Q .non (upd H l (.lst (xs.take k ++ y :: xs.drop k)))
theorem ins_fits {i : Int} {k : Nat} (e : i = (k : Int)) (h : k ≤ 1000) : ¬ (!Builtin.List.listFitsIndex i) = true := by
  have e : Builtin.List.listFitsIndex i = true := by
    unfold Builtin.List.listFitsIndex
    rw [decide_eq_true (by omega), decide_eq_true (by omega)]; rfl
  rw [e]; decide
theorem ins_is (l : List Value) (i : Int) (k : Nat) (hi : i = (k : Int)) (hk : k ≤ l.length) (y : Value) : (fun xs : Array Value => have k := if i < 0 then (i + (xs.size : Int)).toNat else min i.toNat xs.size; (xs.extract 0 k).push y ++ xs.extract k) l.toArray = (l.take k ++ y :: l.drop k).toArray := by
  have e : (if i < 0 then (i + (l.toArray.size : Int)).toNat else min i.toNat l.toArray.size) = k := by
    rw [if_neg (by omega), List.size_toArray, hi, Int.toNat_natCast, Nat.min_eq_left hk]
  show (l.toArray.extract 0 _).push y ++ l.toArray.extract _ = _
  rw [e]
  apply Array.toList_inj.mp
  simp
  exact List.take_of_length_le (by simp)
theorem mt_insert : MtM X "list.insert" rInsert := by
  intro pins s σ H x vs v us Q I rx rv h
  obtain ⟨l, xs, i, k, y, rfl, rfl, hi, hH, hk, hz, q⟩ := h
  cases rx
  obtain ⟨u, v', rfl, ru, rv'⟩ := rv.two
  obtain ⟨t, rfl⟩ := ru
  obtain ⟨z, its, n, r, hl, e⟩ := I.lstM hH
  have hk1 : k ≤ 1000 := by omega
  have hsz : its.toArray.size ≤ sizeLine := by rw [List.size_toArray, ← hl]; exact z
  have M := AutoSeq1.list_insert_list_int_val_1 l its.toArray n i t v' (ins_fits hi hk1) hsz
  refine call_meets F.slot_list_insert ⟨_, e, rfl⟩ F.entry_list_insert (F.args_list_insert_3 _ _ _) M ⟨e, ?_⟩
  refine ⟨.non, _, I.lset (its' := its.take k ++ v' :: its.drop k) hH e (ins_is its i k hi (by omega) v') ((r.take k).append (.cons rv' (r.drop k))) ?_, rfl, q⟩
  have hs : 1000 < sizeLine := small1000 (Nat.le_refl _)
  rw [List.length_append, List.length_cons, List.length_take, List.length_drop]
  omega
end

def hf : Rat := ⟨1, 2, by decide, by decide⟩
theorem hf2 : hf + hf = 1 := by decide +kernel
theorem hf_pos : (0 : Rat) ≤ hf := by decide
theorem hf_one : 1 - hf = hf := by have := hf2; grind
theorem Cn_next (t : Rat) (f : Nat → Rat) : ∀ k i, L2.Cn t (k + 1) f i = L2.Cn t k (fun j => f j * (1 - t) + f (j + 1) * t) i
  | 0, _ => rfl
  | k + 1, i => by
    show L2.Cn t (k + 1) f i * (1 - t) + L2.Cn t (k + 1) f (i + 1) * t = L2.Cn t k _ i * (1 - t) + L2.Cn t k _ (i + 1) * t
    rw [Cn_next t f k i, Cn_next t f k (i + 1)]
theorem Cn_off (t : Rat) (f : Nat → Rat) (o : Nat) : ∀ k i, L2.Cn t k f (o + i) = L2.Cn t k (fun j => f (o + j)) i
  | 0, _ => rfl
  | k + 1, i => by
    have h1 := Cn_off t f o k (i + 1)
    show L2.Cn t k f (o + i) * (1 - t) + L2.Cn t k f (o + i + 1) * t = L2.Cn t k _ i * (1 - t) + L2.Cn t k _ (i + 1) * t
    rw [Cn_off t f o k i, show o + i + 1 = o + (i + 1) by omega, h1]
theorem Cn_lin (u a b : Rat) (f : Nat → Rat) : ∀ k i, L2.Cn u k (fun j => f j * a + f (j + 1) * b) i = L2.Cn u k f i * a + L2.Cn u k f (i + 1) * b
  | 0, _ => rfl
  | k + 1, i => by
    show L2.Cn u k _ i * (1 - u) + L2.Cn u k _ (i + 1) * u = (L2.Cn u k f i * (1 - u) + L2.Cn u k f (i + 1) * u) * a + (L2.Cn u k f (i + 1) * (1 - u) + L2.Cn u k f (i + 1 + 1) * u) * b
    rw [Cn_lin u a b f k i, Cn_lin u a b f k (i + 1)]; grind
theorem low_half (t : Rat) : ∀ n f o, L2.Cn t n (fun i => L2.Cn hf i f o) 0 = L2.Cn (t * hf) n f o
  | 0, _, _ => rfl
  | n + 1, f, o => by
    have h0 := low_half t n f o
    have h1 := low_half t n (fun j => f j * (1 - hf) + f (j + 1) * hf) o
    show L2.Cn t n (fun i => L2.Cn hf i f o) 0 * (1 - t) + L2.Cn t n (fun i => L2.Cn hf i f o) (0 + 1) * t = L2.Cn (t * hf) n f o * (1 - t * hf) + L2.Cn (t * hf) n f (o + 1) * (t * hf)
    have e : L2.Cn t n (fun i => L2.Cn hf i f o) (0 + 1) = L2.Cn t n (fun i => L2.Cn hf i (fun j => f j * (1 - hf) + f (j + 1) * hf) o) 0 := by
      rw [show 0 + 1 = 1 + 0 from rfl, Cn_off]
      refine L2.Cn_congr t _ _ fun j _ => ?_
      show L2.Cn hf (1 + (0 + j)) f o = _
      rw [show 1 + (0 + j) = (0 + j) + 1 by omega, Cn_next]
    rw [e, h0, h1, Cn_lin, hf_one]
    have := hf2
    grind
theorem up_half (t : Rat) : ∀ n f o, L2.Cn t n (fun i => L2.Cn hf (n - i) f (o + i)) 0 = L2.Cn (hf + t * hf) n f o
  | 0, _, _ => rfl
  | n + 1, f, o => by
    have h0 := up_half t n (fun j => f j * (1 - hf) + f (j + 1) * hf) o
    have h1 := up_half t n f (o + 1)
    show L2.Cn t n (fun i => L2.Cn hf (n + 1 - i) f (o + i)) 0 * (1 - t) + L2.Cn t n (fun i => L2.Cn hf (n + 1 - i) f (o + i)) (0 + 1) * t = L2.Cn (hf + t * hf) n f o * (1 - (hf + t * hf)) + L2.Cn (hf + t * hf) n f (o + 1) * (hf + t * hf)
    have e0 : L2.Cn t n (fun i => L2.Cn hf (n + 1 - i) f (o + i)) 0 = L2.Cn t n (fun i => L2.Cn hf (n - i) (fun j => f j * (1 - hf) + f (j + 1) * hf) (o + i)) 0 := by
      refine L2.Cn_congr t _ _ fun j hj => ?_
      show L2.Cn hf (n + 1 - (0 + j)) f _ = L2.Cn hf (n - (0 + j)) _ _
      rw [show n + 1 - (0 + j) = (n - (0 + j)) + 1 by omega, Cn_next]
    have e1 : L2.Cn t n (fun i => L2.Cn hf (n + 1 - i) f (o + i)) (0 + 1) = L2.Cn t n (fun i => L2.Cn hf (n - i) f (o + 1 + i)) 0 := by
      rw [show 0 + 1 = 1 + 0 from rfl, Cn_off]
      refine L2.Cn_congr t _ _ fun j hj => ?_
      show L2.Cn hf (n + 1 - (1 + (0 + j))) f (o + (1 + (0 + j))) = L2.Cn hf (n - (0 + j)) f (o + 1 + (0 + j))
      rw [show n + 1 - (1 + (0 + j)) = n - (0 + j) by omega, show o + (1 + (0 + j)) = o + 1 + (0 + j) by omega]
    rw [e0, e1, h0, h1, Cn_lin, hf_one]
    have := hf2
    grind
/-! what makes the same curve is the same -/
def En : Nat → (Nat → Rat) → Nat → Rat
  | 0, f, i => f i
  | k + 1, f, i => En k f (i + 1) - En k f i
theorem An_sub (a b : Nat → Rat) : ∀ k i, L2.An k (fun m => a m - b m) i = L2.An k a i - L2.An k b i
  | 0, _ => rfl
  | k + 1, i => by
    show L2.An k _ i + L2.An k _ (i + 1) = (L2.An k a i + L2.An k a (i + 1)) - (L2.An k b i + L2.An k b (i + 1))
    rw [An_sub a b k i, An_sub a b k (i + 1)]; grind
theorem An_succ (g : Nat → Rat) : ∀ k i, L2.An k (fun m => g (m + 1)) i = L2.An k g (i + 1)
  | 0, _ => rfl
  | k + 1, i => by
    show L2.An k _ i + L2.An k _ (i + 1) = L2.An k g (i + 1) + L2.An k g (i + 1 + 1)
    rw [An_succ g k i, An_succ g k (i + 1)]
theorem An_En (f : Nat → Rat) : ∀ j i, L2.An j (fun m => En m f i) 0 = f (i + j)
  | 0, _ => rfl
  | j + 1, i => by
    show L2.An j (fun m => En m f i) 0 + L2.An j (fun m => En m f i) (0 + 1) = _
    rw [← An_succ (fun m => En m f i) j 0]
    show L2.An j (fun m => En m f i) 0 + L2.An j (fun m => En m f (i + 1) - En m f i) 0 = _
    rw [An_sub, An_En f j (i + 1), show i + (j + 1) = i + 1 + j by omega]; grind
theorem An_congr {f g : Nat → Rat} : ∀ k n, (∀ j, j ≤ k → f (n + j) = g (n + j)) → L2.An k f n = L2.An k g n
  | 0, n, h => h 0 (Nat.le_refl _)
  | k + 1, n, h => by
    show L2.An k f n + L2.An k f (n + 1) = L2.An k g n + L2.An k g (n + 1)
    rw [An_congr (f := f) (g := g) k (n + 1) fun j hj => by
      have := h (j + 1) (by omega)
      rw [show n + 1 + j = n + (j + 1) by omega]; exact this,
      An_congr (f := f) (g := g) k n fun j hj => h j (by omega)]
theorem bern_ev (n : Nat) (f : Nat → Rat) (t : Rat) : L2.Cn t n f 0 = Cv.ev ((List.range (n + 1)).map fun i => ((L2.ch n i : Nat) : Rat) * En i f 0) t := by
  have e1 : L2.Cn t n f 0 = L2.Cn t n (fun j => L2.An j (fun m => En m f 0) 0) 0 := L2.Cn_congr t _ _ fun j _ => by
    show f (0 + j) = L2.An (0 + j) _ 0
    rw [An_En, Nat.zero_add, Nat.zero_add]
  rw [e1, L2.meant_is]
  show L2.Bn t n (fun m => En m f 0) 0 = _
  rw [L2.Bn_is, L2.ev_F, List.length_map, List.length_range]
  refine L2.evF_congr t _ fun i hi => ?_
  show _ * En (0 + i) f 0 = _
  rw [List.getD_eq_getElem?_getD, List.getElem?_map, List.getElem?_range hi, Nat.zero_add]; rfl
theorem ch_ne0 {n k : Nat} (h : k ≤ n) : ((L2.ch n k : Nat) : Rat) ≠ 0 := fun z => by
  have hp := L2.ch_pos n k h
  have : L2.ch n k = 0 := by exact_mod_cast z
  omega
theorem bern_inj {n : Nat} {f g : Nat → Rat} (h : ∀ t, L2.Cn t n f 0 = L2.Cn t n g 0) : ∀ j, j ≤ n → f j = g j := fun j hj => by
  have hE : ∀ m, m ≤ n → En m f 0 = En m g 0 := fun m hm => by
    have e := L2.coef_one (l := (List.range (n + 1)).map fun i => ((L2.ch n i : Nat) : Rat) * En i f 0) (m := (List.range (n + 1)).map fun i => ((L2.ch n i : Nat) : Rat) * En i g 0) (fun k => by rw [← bern_ev, ← bern_ev, h]) m
    rw [List.getD_eq_getElem?_getD, List.getD_eq_getElem?_getD, List.getElem?_map, List.getElem?_map, List.getElem?_range (by omega)] at e
    have e : ((L2.ch n m : Nat) : Rat) * En m f 0 = ((L2.ch n m : Nat) : Rat) * En m g 0 := e
    have h0 := ch_ne0 hm
    have e2 : ((L2.ch n m : Nat) : Rat) * (En m f 0 - En m g 0) = 0 := by grind
    rcases Rat.mul_eq_zero.mp e2 with z | z
    · exact absurd z h0
    · grind
  have a := An_En f j 0
  have b := An_En g j 0
  rw [Nat.zero_add] at a b
  rw [← a, ← b]
  exact An_congr j 0 fun m hm => by rw [Nat.zero_add]; exact hE m (by omega)
/-- the halves of a row of heights -/
def lowL (hs : List Rat) : List Rat := (List.range hs.length).map fun i => L2.Cn hf i (fun k => hs.getD k 0) 0
def upL (hs : List Rat) : List Rat := (List.range hs.length).map fun i => L2.Cn hf (hs.length - 1 - i) (fun k => hs.getD k 0) i
theorem lowL_length (hs : List Rat) : (lowL hs).length = hs.length := by unfold lowL; rw [List.length_map, List.length_range]
theorem upL_length (hs : List Rat) : (upL hs).length = hs.length := by unfold upL; rw [List.length_map, List.length_range]
theorem lowL_at {hs : List Rat} {i : Nat} (h : i < hs.length) : (lowL hs).getD i 0 = L2.Cn hf i (fun k => hs.getD k 0) 0 := by
  unfold lowL; rw [List.getD_eq_getElem?_getD, List.getElem?_map, List.getElem?_range h]; rfl
theorem upL_at {hs : List Rat} {i : Nat} (h : i < hs.length) : (upL hs).getD i 0 = L2.Cn hf (hs.length - 1 - i) (fun k => hs.getD k 0) i := by
  unfold upL; rw [List.getD_eq_getElem?_getD, List.getElem?_map, List.getElem?_range h]; rfl
theorem list_of {l m : List Rat} (hl : l.length = m.length) (h : ∀ j, j < l.length → l.getD j 0 = m.getD j 0) : l = m := by
  apply List.ext_getElem?
  intro i
  by_cases hi : i < l.length
  · have := h i hi
    rw [List.getD_eq_getElem?_getD, List.getD_eq_getElem?_getD, List.getElem?_eq_getElem hi, List.getElem?_eq_getElem (by omega)] at this
    rw [List.getElem?_eq_getElem hi, List.getElem?_eq_getElem (by omega)]
    exact congrArg some this
  · rw [List.getElem?_eq_none (by omega), List.getElem?_eq_none (by omega)]
theorem hts_Cn (cs : List Rat) (lo hi t : Rat) : L2.Cn t ((L2.hts cs lo hi).length - 1) (fun k => (L2.hts cs lo hi).getD k 0) 0 = Cv.ev cs (lo + (hi - lo) * t) := by
  rw [← L2.hts_meant, L2.cQ_at _ _ _ _ (by rw [L2.hts_length]; omega)]
theorem hts_low (cs : List Rat) (lo hi : Rat) : L2.hts cs lo ((lo + hi) * hf) = lowL (L2.hts cs lo hi) := by
  have l1 := L2.hts_length cs lo ((lo + hi) * hf)
  have l2 := L2.hts_length cs lo hi
  refine list_of (by rw [lowL_length]; omega) fun j hj => ?_
  refine bern_inj (n := (L2.hts cs lo hi).length - 1) (f := fun k => (L2.hts cs lo ((lo + hi) * hf)).getD k 0) (g := fun k => (lowL (L2.hts cs lo hi)).getD k 0) (fun t => ?_) j (by omega)
  have e1 := hts_Cn cs lo ((lo + hi) * hf) t
  rw [show (L2.hts cs lo ((lo + hi) * hf)).length - 1 = (L2.hts cs lo hi).length - 1 by omega] at e1
  rw [e1]
  have e2 : L2.Cn t ((L2.hts cs lo hi).length - 1) (fun k => (lowL (L2.hts cs lo hi)).getD k 0) 0 = L2.Cn t ((L2.hts cs lo hi).length - 1) (fun i => L2.Cn hf i (fun k => (L2.hts cs lo hi).getD k 0) 0) 0 := L2.Cn_congr t _ _ fun i hi' => by
    show (lowL (L2.hts cs lo hi)).getD (0 + i) 0 = L2.Cn hf (0 + i) _ 0
    exact lowL_at (by omega)
  rw [e2, low_half, hts_Cn]
  congr 1
  have := hf2
  grind
theorem hts_up (cs : List Rat) (lo hi : Rat) : L2.hts cs ((lo + hi) * hf) hi = upL (L2.hts cs lo hi) := by
  have l1 := L2.hts_length cs ((lo + hi) * hf) hi
  have l2 := L2.hts_length cs lo hi
  refine list_of (by rw [upL_length]; omega) fun j hj => ?_
  refine bern_inj (n := (L2.hts cs lo hi).length - 1) (f := fun k => (L2.hts cs ((lo + hi) * hf) hi).getD k 0) (g := fun k => (upL (L2.hts cs lo hi)).getD k 0) (fun t => ?_) j (by omega)
  have e1 := hts_Cn cs ((lo + hi) * hf) hi t
  rw [show (L2.hts cs ((lo + hi) * hf) hi).length - 1 = (L2.hts cs lo hi).length - 1 by omega] at e1
  rw [e1]
  have e2 : L2.Cn t ((L2.hts cs lo hi).length - 1) (fun k => (upL (L2.hts cs lo hi)).getD k 0) 0 = L2.Cn t ((L2.hts cs lo hi).length - 1) (fun i => L2.Cn hf ((L2.hts cs lo hi).length - 1 - i) (fun k => (L2.hts cs lo hi).getD k 0) (0 + i)) 0 := L2.Cn_congr t _ _ fun i hi' => by
    show (upL (L2.hts cs lo hi)).getD (0 + i) 0 = L2.Cn hf (_ - (0 + i)) _ (0 + (0 + i))
    rw [upL_at (by omega), Nat.zero_add, Nat.zero_add]
  rw [e2, up_half, hts_Cn]
  congr 1
  have := hf2
  grind
theorem Cn_ge {m : Rat} {f : Nat → Rat} : ∀ k i, (∀ j, j ≤ k → m ≤ f (i + j)) → m ≤ L2.Cn hf k f i
  | 0, i, h => h 0 (Nat.le_refl _)
  | k + 1, i, h => by
    have a := Cn_ge (m := m) (f := f) k i fun j hj => h j (by omega)
    have b := Cn_ge (m := m) (f := f) k (i + 1) fun j hj => by rw [show i + 1 + j = i + (j + 1) by omega]; exact h (j + 1) (by omega)
    show m ≤ L2.Cn hf k f i * (1 - hf) + L2.Cn hf k f (i + 1) * hf
    rw [hf_one]
    have h1 := Rat.mul_le_mul_of_nonneg_right a hf_pos
    have h2 := Rat.mul_le_mul_of_nonneg_right b hf_pos
    have := hf2
    have e : m * hf + m * hf = m := by rw [← Rat.mul_add, this, Rat.mul_one]
    grind
theorem Cn_le {m : Rat} {f : Nat → Rat} : ∀ k i, (∀ j, j ≤ k → f (i + j) ≤ m) → L2.Cn hf k f i ≤ m
  | 0, i, h => h 0 (Nat.le_refl _)
  | k + 1, i, h => by
    have a := Cn_le (m := m) (f := f) k i fun j hj => h j (by omega)
    have b := Cn_le (m := m) (f := f) k (i + 1) fun j hj => by rw [show i + 1 + j = i + (j + 1) by omega]; exact h (j + 1) (by omega)
    show L2.Cn hf k f i * (1 - hf) + L2.Cn hf k f (i + 1) * hf ≤ m
    rw [hf_one]
    have h1 := Rat.mul_le_mul_of_nonneg_right a hf_pos
    have h2 := Rat.mul_le_mul_of_nonneg_right b hf_pos
    have := hf2
    have e : m * hf + m * hf = m := by rw [← Rat.mul_add, this, Rat.mul_one]
    grind
theorem getD_of {hs : List Rat} {j : Nat} (h : j < hs.length) : hs.getD j 0 ∈ hs := by
  rw [List.getD_eq_getElem?_getD, List.getElem?_eq_getElem h]; exact List.getElem_mem h
theorem half_in {hs : List Rat} {m M : Rat} (h : ∀ q ∈ hs, m ≤ q ∧ q ≤ M) {q : Rat} (hq : q ∈ lowL hs ∨ q ∈ upL hs) : m ≤ q ∧ q ≤ M := by
  rcases hq with hq | hq
  · unfold lowL at hq
    obtain ⟨i, hi, rfl⟩ := List.mem_map.mp hq
    have hi := List.mem_range.mp hi
    exact ⟨Cn_ge _ _ fun j hj => (h _ (getD_of (by omega))).1, Cn_le _ _ fun j hj => (h _ (getD_of (by omega))).2⟩
  · unfold upL at hq
    obtain ⟨i, hi, rfl⟩ := List.mem_map.mp hq
    have hi := List.mem_range.mp hi
    exact ⟨Cn_ge _ _ fun j hj => (h _ (getD_of (by omega))).1, Cn_le _ _ fun j hj => (h _ (getD_of (by omega))).2⟩
/-! whole numbers -/
theorem An_int (ts : List Int) : ∀ k i, i + k < ts.length → (((L2.aIN k ts).getD i 0 : Int) : Rat) = L2.An k (fun n => ((ts.getD n 0 : Int) : Rat)) i
  | 0, _, _ => rfl
  | k + 1, i, h => by
    have h0 := An_int ts k i (by omega)
    have h1 := An_int ts k (i + 1) (by omega)
    have hl := L2.aI_length ts k
    show (((L2.aI (L2.aIN k ts)).getD i 0 : Int) : Rat) = L2.An k _ i + L2.An k _ (i + 1)
    rw [← h0, ← h1, ← Rat.intCast_add]
    congr 1
    unfold L2.aI
    rw [List.getD_eq_getElem?_getD, List.getElem?_map, List.getElem?_range (by omega)]; rfl
theorem An_scale (b : Rat) (f : Nat → Rat) : ∀ k i, L2.An k (fun n => f n * b) i = L2.An k f i * b
  | 0, _ => rfl
  | k + 1, i => by
    show L2.An k _ i + L2.An k _ (i + 1) = (L2.An k f i + L2.An k f (i + 1)) * b
    rw [An_scale b f k i, An_scale b f k (i + 1)]; grind
theorem Cn_An (f : Nat → Rat) : ∀ k i, L2.Cn hf k f i * (2 : Rat) ^ k = L2.An k f i
  | 0, i => by show f i * 2 ^ 0 = f i; rw [Rat.pow_zero]; grind
  | k + 1, i => by
    show (L2.Cn hf k f i * (1 - hf) + L2.Cn hf k f (i + 1) * hf) * 2 ^ (k + 1) = L2.An k f i + L2.An k f (i + 1)
    rw [hf_one, ← Cn_An f k i, ← Cn_An f k (i + 1), Rat.pow_succ]
    have e : hf * 2 = 1 := by have := hf2; grind
    have e2 : ∀ a b c : Rat, (a * hf + b * hf) * (c * 2) = (a * c + b * c) * (hf * 2) := fun a b c => by grind
    rw [e2, e, Rat.mul_one]

def spRaised : Sp := fun vs H Q _ => ∃ (b : Int) (n L : Nat), vs = [.int b, .int n] ∧ n ≤ 1000 ∧ Bd L b ∧ L ≤ 60000 ∧ Q (.int (b ^ n)) H
theorem hf_rb : RB 2 hf := ⟨by unfold Bd; decide, by unfold Bd; decide⟩
theorem cQ_rb {n : Nat} {qs : List Rat} (h1 : 1 ≤ n) (h : ∀ q ∈ qs, RB n q) : ∀ q ∈ L2.cQ hf qs, RB (2 * n + 3) q := fun q hq => by
  unfold L2.cQ at hq
  obtain ⟨j, hj, rfl⟩ := List.mem_map.mp hq
  have hj := List.mem_range.mp hj
  rw [hf_one]
  have e : qs.getD j 0 * hf + qs.getD (j + 1) 0 * hf = (qs.getD j 0 + qs.getD (j + 1) 0) * hf := by grind
  rw [e]
  exact ((RB.plus (h _ (getD_of (by omega))) (h _ (getD_of (by omega)))).times hf_rb).mono (by omega)
def mb (n : Nat) : Nat → Nat
  | 0 => n
  | k + 1 => 2 * mb n k + 3
theorem mb_le {n : Nat} (h : n ≤ 100000) : ∀ k, mb n k + 3 ≤ 100003 * 2 ^ k
  | 0 => by show n + 3 ≤ 100003 * 1; omega
  | k + 1 => by
    have := mb_le h k
    show 2 * mb n k + 3 + 3 ≤ 100003 * 2 ^ (k + 1)
    rw [Nat.pow_succ]; omega
theorem mb_ge {n : Nat} (h : 1 ≤ n) : ∀ k, 1 ≤ mb n k
  | 0 => h
  | k + 1 => by show 1 ≤ 2 * mb n k + 3; omega
theorem mb_8 {n k : Nat} (h : n ≤ 100000) (hk : k ≤ 8) : mb n k ≤ 26000000 := by
  have h1 := mb_le h k
  have h2 : 2 ^ k ≤ 2 ^ 8 := Nat.pow_le_pow_right (by decide) hk
  have h3 : 100003 * 2 ^ k ≤ 100003 * 2 ^ 8 := Nat.mul_le_mul_left _ h2
  omega
def spMeans (K : PySem.W.Frag) : Sp := fun vs H Q _ => ∃ (l : Addr) (xs : List V) (qs : List Rat) (n : Nat), vs = [.ref l] ∧ SqL K H l xs ∧ Nums K H xs qs ∧ 1 ≤ qs.length ∧ qs.length ≤ 20 ∧ (∀ q ∈ qs, RB n q) ∧ 1 ≤ n ∧ n ≤ 40000000 ∧
  ∀ (p : Addr) (H' : Hp) (zs : List V), Same H H' → H p = none → H' p = some (.lst zs) → Nums K H' zs (L2.cQ hf qs) → Q (.ref p) H'
/-- two lists of numbers, in a tuple -/
def TwoL (K : PySem.W.Frag) (H : Hp) (t la lb : Addr) (za zb : List V) (ps qs : List Rat) : Prop := SqT K H t [.ref la, .ref lb] ∧ H la = some (.lst za) ∧ H lb = some (.lst zb) ∧ Nums K H za ps ∧ Nums K H zb qs
theorem TwoL.same {K : PySem.W.Frag} {H H' : Hp} {t la lb : Addr} {za zb : List V} {ps qs : List Rat} (h : TwoL K H t la lb za zb ps qs) (s : Same H H') : TwoL K H' t la lb za zb ps qs := let ⟨a, b, c, d, e⟩ := h; ⟨a.same s, s _ _ b, s _ _ c, Nums.same d s, Nums.same e s⟩
def spLH (K : PySem.W.Frag) : Sp := fun vs H Q _ => ∃ (l : Addr) (xs : List V) (qs : List Rat) (n : Nat), vs = [.ref l] ∧ SqL K H l xs ∧ Nums K H xs qs ∧ 1 ≤ qs.length ∧ qs.length ≤ 8 ∧ (∀ q ∈ qs, RB n q) ∧ 1 ≤ n ∧ n ≤ 100000 ∧
  ∀ (t la lb : Addr) (H' : Hp) (za zb : List V), Same H H' → H la = none → H lb = none → la ≠ lb → TwoL K H' t la lb za zb (lowL qs) (upL qs) → Q (.ref t) H'
def prD (ps qs : List Rat) : PyData := .tuple [.list (ps.map nD), .list (qs.map nD)]
theorem prD_eqv (ps qs : List Rat) : PyData.eqv (prD ps qs) (prD ps qs) = true := by
  show (PyData.eqvAll (ps.map nD) (ps.map nD) && (PyData.eqvAll (qs.map nD) (qs.map nD) && true)) = true
  rw [nDs_eqv, nDs_eqv, decide_eq_true rfl, decide_eq_true rfl]; rfl
theorem prD_sh (ps qs : List Rat) : SeqAt.shaped (prD ps qs) = true := by
  show ((PyData.canLayAll0 (ps.map nD) && (PyData.canLayAll0 (qs.map nD) && true)) && decide (max (PyData.depthAll (ps.map nD) + 1) (max (PyData.depthAll (qs.map nD) + 1) 0) + 1 ≤ 64)) = true
  rw [nDs_lay, nDs_lay]
  have h1 := nDs_depth ps
  have h2 := nDs_depth qs
  rw [decide_eq_true (by omega)]; rfl
theorem TwoL.rds {K : PySem.W.Frag} {H : Hp} {t la lb : Addr} {za zb : List V} {ps qs : List Rat} (h : TwoL K H t la lb za zb ps qs) : Rds K H (.ref t) (prD ps qs) := by
  obtain ⟨a, b, c, d, e⟩ := h
  refine .tup a rfl fun i x dd e1 e2 => ?_
  match i with
  | 0 => simp at e1 e2; subst e1; subst e2; exact d.rdsL (SqL.of b)
  | 1 => simp at e1 e2; subst e1; subst e2; exact e.rdsL (SqL.of c)
  | i + 2 => simp at e1
theorem eqTwo {K : PySem.W.Frag} {H : Hp} {t t' la lb la' lb' : Addr} {za zb za' zb' : List V} {ps qs : List Rat} {Q : VK} {neg : Bool} (h1 : TwoL K H t la lb za zb ps qs) (h2 : TwoL K H t' la' lb' za' zb' ps qs) (h : Q (.bl (if neg then !true else true)) H) : rEqD K neg (.ref t) (.ref t') H Q := by
  refine eqD_of ⟨_, _, h1.rds, h2.rds, prD_sh _ _, prD_sh _ _, ?_⟩
  rw [prD_eqv]; exact h
def lowI (ts : List Int) (i : Nat) : List Int := (List.range i).map fun j => 2 ^ (i - 1 - j) * (L2.aIN j ts).getD 0 0
def upI (ts : List Int) (i : Nat) : List Int := (List.range i).map fun j => 2 ^ j * (L2.aIN (i - 1 - j) ts).getD (ts.length - 1 - (i - 1 - j)) 0
theorem lowI_next (ts : List Int) (i : Nat) : (lowI ts i).map (fun z => 2 * z) ++ [(L2.aIN i ts).getD 0 0] = lowI ts (i + 1) := by
  unfold lowI
  rw [List.range_succ, List.map_append, List.map_map]
  congr 1
  · refine List.map_congr_left fun j hj => ?_
    have hj := List.mem_range.mp hj
    show 2 * (2 ^ (i - 1 - j) * _) = 2 ^ (i + 1 - 1 - j) * _
    rw [show i + 1 - 1 - j = (i - 1 - j) + 1 by omega, Int.pow_succ, ← Int.mul_assoc, Int.mul_comm 2]
  · show [_] = [2 ^ (i + 1 - 1 - i) * _]
    rw [show i + 1 - 1 - i = 0 by omega, Int.pow_zero, Int.one_mul]
theorem upI_next (ts : List Int) (i : Nat) : [(L2.aIN i ts).getD (ts.length - 1 - i) 0] ++ (upI ts i).map (fun z => 2 * z) = upI ts (i + 1) := by
  unfold upI
  rw [List.range_succ_eq_map, List.map_cons, List.map_map, List.map_map]
  show _ :: _ = (2 ^ 0 * (L2.aIN (i + 1 - 1 - 0) ts).getD (ts.length - 1 - (i + 1 - 1 - 0)) 0) :: _
  rw [Int.pow_zero, Int.one_mul, show i + 1 - 1 - 0 = i by omega]
  congr 1
  refine List.map_congr_left fun j hj => ?_
  have hj := List.mem_range.mp hj
  show 2 * (2 ^ j * _) = 2 ^ (j + 1) * (L2.aIN (i + 1 - 1 - (j + 1)) ts).getD (ts.length - 1 - (i + 1 - 1 - (j + 1))) 0
  rw [show i + 1 - 1 - (j + 1) = i - 1 - j by omega, Int.pow_succ, ← Int.mul_assoc, Int.mul_comm 2]
def spWH38 (K : PySem.W.Frag) : Sp := fun vs H Q _ => ∃ (l : Addr) (ts : List Int), vs = [.ref l] ∧ SqL K H l (ts.map V.int) ∧ ts.length ≤ 20 ∧
  ∀ (t la lb : Addr) (H' : Hp), Same H H' → H' t = some (.tup [.ref la, .ref lb]) → H' la = some (.lst ((lowI ts ts.length).map V.int)) → H' lb = some (.lst ((upI ts ts.length).map V.int)) → Q (.ref t) H'
theorem half_num {ts : List Int} {f : Nat → Rat} {B : Int} (hB : B ≠ 0) (hf' : ∀ j, j < ts.length → ((ts.getD j 0 : Int) : Rat) = f j * (B : Rat)) {k i : Nat} (h : i + k < ts.length) {e N : Nat} (hN : N = e + k) : Rat.divInt (2 ^ e * (L2.aIN k ts).getD i 0) (B * 2 ^ N) = L2.Cn hf k f i := by
  have h2 : ((2 : Int) ^ N) ≠ 0 := Int.pow_ne_zero (by decide)
  apply Nm.div_eq (Int.mul_ne_zero hB h2)
  rw [Rat.intCast_mul, Rat.intCast_mul, An_int ts k i h]
  have e1 : L2.An k (fun n => ((ts.getD n 0 : Int) : Rat)) i = L2.An k f i * (B : Rat) := by
    rw [← An_scale]
    exact An_congr k i fun j hj => hf' (i + j) (by omega)
  rw [e1, ← Cn_An f k i, hN, Rat.intCast_pow, Rat.intCast_pow, Nm.pow_add]
  have z : ((2 : Int) : Rat) = 2 := rfl
  rw [z]; grind

theorem kit_ll' (K : PySem.W.Frag) : PySem.W.kitOne K (.type "list") (.type "list") = some true := by kernel_rfl
def spR38 (K : PySem.W.Frag) : Sp := fun vs H Q _ => ∃ (l : Addr) (xs : List V) (qs : List Rat) (n : Nat), vs = [.ref l] ∧ SqL K H l xs ∧ Nums K H xs qs ∧ 1 ≤ qs.length ∧ qs.length ≤ 8 ∧ (∀ q ∈ qs, RB n q) ∧ 1 ≤ n ∧ n ≤ 100000 ∧ ∀ H', Same H H' → Q (.bl true) H'
theorem mid_lt {lo hi : Rat} (h : lo < hi) : lo < (lo + hi) * hf ∧ (lo + hi) * hf < hi := by
  have e := hf2
  have hp : (0 : Rat) < hf := by decide
  have d : 0 < hi - lo := by grind
  have m : 0 < (hi - lo) * hf := Rat.mul_pos d hp
  have e1 : (lo + hi) * hf = lo + (hi - lo) * hf := by grind
  have e2 : (lo + hi) * hf = hi - (hi - lo) * hf := by grind
  generalize (hi - lo) * hf = z at m e1 e2
  exact ⟨by rw [e1]; grind, by rw [e2]; grind⟩

section
variable {P : Program} {w : World} {K : PySem.W.Frag} {mg : Str → Option Value} {base : Heap}
theorem sc__law_pen : FnScope ["_law_script", "_law_k", "_law_cell"] ["_law_script", "_law_k"] (defScope (top 27)) := ⟨rfl, rfl, rfl, by decide +kernel, rfl, by decide +kernel, by decide +kernel⟩
set_option maxHeartbeats 4000000 in
theorem ok__law_pen {f : Addr} {fd : FuncData} (F : Fun K "_law_pen" "_law_pen" (top 27) f fd) (b_len : mg "len" = none) (hT : P.given.tree = none) :
    FnOk P w K mg base CX0 33 f fd ["_law_script", "_law_k"] (spPen K) := by
  refine F.ok sc__law_pen (fun vs H Q E h => ?_) (fun cdv A outer s H vs Q E hr h => ?_)
  · obtain ⟨_, _, _, rfl, _⟩ := h; rfl
  refine ⟨_, (pss_cons (ps_set (i := 2) sc__law_pen.nd rfl (Or.inl rfl) (pe_op op_add (pe_op op_mulC pe_int (pv 1)) pe_int))
    (pss_cons (ps_if (pt_cmpR op_lt (pv 1) (pe_callB (lenK K) rfl b_len bt_len (pa_cons (pv 0) pa_nil)) (nomark _)) (pss_one (ps_set (i := 2) sc__law_pen.nd rfl (Or.inl rfl) (pe_ix (ixL K) (pv 0) (pv 1) (fun _ _ => rfl)))) (pss_one (ps_if (pt_cmpR op_gt (pe_callB (lenK K) rfl b_len bt_len (pa_cons (pv 0) pa_nil)) pe_int (nomark _)) (pss_one (ps_set (i := 2) sc__law_pen.nd rfl (Or.inl rfl) (pe_op op_add (pe_ix (ixL K) (pv 0) (pe_op op_mod (pv 1) (pe_callB (lenK K) rfl b_len bt_len (pa_cons (pv 0) pa_nil))) (fun _ _ => rfl)) (pe_op op_mulC pe_int (pv 1))))) pss_nil)))
    (pss_cons (ps_if (pt_cmpR op_ge (pv 2) (pe_op op_pow pe_int pe_int) (nomark _)) (pss_one (ps_ret (pe_lst (pa_cons (pe_op op_sub (pv 2) (pe_op op_pow pe_int pe_int)) (pa_cons (pe_op op_mod (pv 2) pe_int) (pa_cons pe_int pa_nil)))))) pss_nil)
    (pss_one (ps_ret (pe_lst (pa_cons pe_int (pa_cons (pe_op op_add (pe_op op_mod (pv 2) pe_int) (pe_op op_mulC pe_int (pv 1))) (pa_cons pe_int pa_nil))))))))), ?_⟩
  refine absG fun GG kG => ?_
  obtain ⟨a, ns, k, rfl, hS, h63, h0, h62, q⟩ := h
  refine kG ?_
  clear kG GG
  have hl : (ns.map V.int).length = ns.length := List.length_map _
  have P3 : 3 ≤ sizeLine := by decide
  have C1 : CPow 10 18 := by unfold CPow; decide
  refine ⟨_, rfl, _, _, rfl, rfl, .inl ⟨by decide, by decide⟩, _, _, rfl, rfl, ?_⟩
  refine ⟨_, rfl, _, rfl, a, _, rfl, .inl hS, _, _, rfl, rfl, _, rfl, ?_⟩
  rw [hl]
  have hk1 : k < (ns.length : Int) → ∃ v : Int, atI (ns.map V.int) k = some (.int v) := fun c => at_ints h0 c
  have hk2 : 0 < (ns.length : Int) → ∃ v : Int, atI (ns.map V.int) (k % (ns.length : Int)) = some (.int v) := fun c => at_ints (Int.emod_nonneg _ (by omega)) (Int.emod_lt_of_pos _ c)
  refine ite2 (fun c => ?_) (fun c => ?_)
  · obtain ⟨v, hv⟩ := hk1 (of_decide_eq_true c)
    refine ⟨_, rfl, _, rfl, a, _, _, _, rfl, rfl, hS, hv, ?_⟩
    refine ⟨_, rfl, _, _, rfl, rfl, C1, _, _, rfl, rfl, _, rfl, ?_⟩
    refine ite2 (fun c => ?_) (fun c => ?_)
    · exact ⟨_, rfl, _, _, rfl, rfl, C1, _, _, rfl, rfl, _, rfl, _, _, rfl, rfl, (by first | decide | (dsimp only; decide)), P3, fun p hp => q p _ _ hp⟩
    · exact ⟨_, rfl, _, _, rfl, rfl, (by first | decide | (dsimp only; decide)), _, rfl, _, _, rfl, rfl, .inl ⟨by decide, by decide⟩, _, _, rfl, rfl, P3, fun p hp => q p _ _ hp⟩
  · refine ⟨_, rfl, a, _, rfl, .inl hS, _, _, rfl, rfl, _, rfl, ?_⟩
    rw [hl]
    refine ite2 (fun c => ?_) (fun c => ?_)
    · obtain ⟨v, hv⟩ := hk2 (of_decide_eq_true c)
      have c' : 0 < (((ns.map V.int).length : Nat) : Int) := by rw [hl]; exact of_decide_eq_true c
      rw [← hl] at hv
      refine ⟨_, rfl, _, rfl, _, rfl, a, _, rfl, .inl hS, _, _, rfl, rfl, c', a, _, _, _, rfl, rfl, hS, hv, _, rfl, _, _, rfl, rfl, .inl ⟨by decide, by decide⟩, _, _, rfl, rfl, ?_⟩
      refine ⟨_, rfl, _, _, rfl, rfl, C1, _, _, rfl, rfl, _, rfl, ?_⟩
      refine ite2 (fun c => ?_) (fun c => ?_)
      · exact ⟨_, rfl, _, _, rfl, rfl, C1, _, _, rfl, rfl, _, rfl, _, _, rfl, rfl, (by first | decide | (dsimp only; decide)), P3, fun p hp => q p _ _ hp⟩
      · exact ⟨_, rfl, _, _, rfl, rfl, (by first | decide | (dsimp only; decide)), _, rfl, _, _, rfl, rfl, .inl ⟨by decide, by decide⟩, _, _, rfl, rfl, P3, fun p hp => q p _ _ hp⟩
    · refine ⟨_, rfl, _, _, rfl, rfl, C1, _, _, rfl, rfl, _, rfl, ?_⟩
      refine ite2 (fun c => ?_) (fun c => ?_)
      · exact ⟨_, rfl, _, _, rfl, rfl, C1, _, _, rfl, rfl, _, rfl, _, _, rfl, rfl, (by first | decide | (dsimp only; decide)), P3, fun p hp => q p _ _ hp⟩
      · exact ⟨_, rfl, _, _, rfl, rfl, (by first | decide | (dsimp only; decide)), _, rfl, _, _, rfl, rfl, .inl ⟨by decide, by decide⟩, _, _, rfl, rfl, P3, fun p hp => q p _ _ hp⟩
theorem sc__law_lowest : FnScope ["_law_top", "_law_bottom", "_law_one", "_law_other"] ["_law_top", "_law_bottom"] (defScope (top 29)) := ⟨rfl, rfl, rfl, by decide +kernel, rfl, by decide +kernel, by decide +kernel⟩
set_option maxHeartbeats 4000000 in
theorem ok__law_lowest {f : Addr} {fd : FuncData} (F : Fun K "_law_lowest" "_law_lowest" (top 29) f fd) (b_abs : mg "abs" = none) (hT : P.given.tree = none) :
    FnOk P w K mg base CX0 33 f fd ["_law_top", "_law_bottom"] (spLow) := by
  refine F.ok sc__law_lowest (fun vs H Q E h => ?_) (fun cdv A outer s H vs Q E hr h => ?_)
  · obtain ⟨_, _, rfl, _⟩ := h; rfl
  refine ⟨_, (pss_cons (ps_set (i := 2) sc__law_lowest.nd rfl (Or.inl rfl) (pe_callB call_abs rfl b_abs bt_abs (pa_cons (pv 0) pa_nil)))
    (pss_cons (ps_set (i := 3) sc__law_lowest.nd rfl (Or.inl rfl) (pe_callB call_abs rfl b_abs bt_abs (pa_cons (pv 1) pa_nil)))
    (pss_cons (ps_while PassesOwn.never (pt_cmpR op_gt (pv 3) pe_int (nomark _)) (pss_one (ps_par (i := 2) (j := 3) rfl sc__law_lowest.nd rfl rfl (by decide) rfl rfl (pa_cons (pv 3) (pa_cons (pe_op op_mod (pv 2) (pv 3)) pa_nil)) (by with_unfolding_all rfl))))
    (pss_cons (ps_if (pt_cmpR op_lt (pv 1) pe_int (nomark _)) (pss_one (ps_set (i := 2) sc__law_lowest.nd rfl (Or.inl rfl) (pe_op op_sub pe_int (pv 2)))) pss_nil)
    (pss_one (ps_ret (pe_tup (pa_cons (pe_op (op_fdivX hr hT) (pv 0) (pv 2)) (pa_cons (pe_op (op_fdivX hr hT) (pv 1) (pv 2)) pa_nil))))))))), ?_⟩
  refine absG fun GG kG => ?_
  obtain ⟨a, b, rfl, hb, q⟩ := h
  refine kG ?_
  clear kG GG
  refine ⟨_, rfl, a, rfl, ?_⟩
  refine ⟨_, rfl, b, rfl, ?_⟩
  refine while_by (fun σ H' => H' = H ∧ ∃ (x y : Int), σ = [some (.int a), some (.int b), some (.int x), some (.int y)] ∧ 0 ≤ x ∧ 0 ≤ y ∧ Int.gcd x y = Int.gcd a b) (fun σ _ => mu 3 σ)
    ⟨rfl, _, _, rfl, ?_, ?_, ?_⟩ ?_ ?_
  · rw [Nm.abs_if]; exact Int.natCast_nonneg _
  · rw [Nm.abs_if]; exact Int.natCast_nonneg _
  · rw [Nm.abs_if, Nm.abs_if]; rfl
  · rintro σ H' hR2
    refine absG fun GG kG => ?_
    obtain ⟨rfl, x, y, rfl, hx, hy, hg⟩ := hR2
    refine kG ?_
    clear kG GG
    refine ⟨_, rfl, _, _, rfl, rfl, _, rfl, ?_⟩
    by_cases hy0 : y = 0
    · subst hy0
      refine iteF ?_
      have e : (Int.gcd a b : Int) = x := by rw [← hg, Int.gcd_zero]; omega
      subst e
      refine ⟨_, rfl, _, _, rfl, rfl, _, rfl, ?_⟩
      have hd : Nm.msr a b ≠ 0 := Nm.msr_ne hb
      have fin : ∀ p, H' p = none → Q (.ref p) (upd H' p (.tup [.int (a.fdiv (Nm.msr a b)), .int (b.fdiv (Nm.msr a b))])) := fun p hp => by
        rw [Nm.top_msr hb, Nm.bottom_msr hb]; exact q p hp
      by_cases hb0 : b < 0
      · have hd' : Nm.msr a b = 0 - (Int.gcd a b : Int) := by unfold Nm.msr; rw [if_pos hb0]; omega
        rw [hd'] at hd fin
        rw [decide_eq_true hb0]
        refine iteT ⟨_, rfl, _, _, rfl, rfl, ?_⟩
        exact ⟨_, rfl, _, rfl, _, _, rfl, rfl, hd, _, rfl, _, rfl, _, _, rfl, rfl, hd, (by decide : 2 ≤ sizeLine), fin⟩
      · have hd' : Nm.msr a b = (Int.gcd a b : Int) := by unfold Nm.msr; rw [if_neg hb0]
        rw [hd'] at hd fin
        rw [decide_eq_false hb0]
        refine iteF ?_
        exact ⟨_, rfl, _, rfl, _, _, rfl, rfl, hd, _, rfl, _, rfl, _, _, rfl, rfl, hd, (by decide : 2 ≤ sizeLine), fin⟩
    · have hyp : 0 < y := by omega
      rw [decide_eq_true hyp]
      refine iteT ?_
      refine ⟨_, rfl, _, rfl, _, rfl, _, _, rfl, rfl, hyp, _, _, rfl, ⟨rfl, y, x % y, rfl, hy, Int.emod_nonneg _ hy0, ?_⟩, ?_⟩
      · rw [Nm.gcd_turn]; exact hg
      · show (x % y).toNat < y.toNat
        have := Int.emod_lt_of_pos x hyp
        omega
  · rintro σ H' Q1 Q2 hm hR3
    refine absG fun GG kG => ?_
    obtain ⟨v, e, i, j, e1, e2, k, ek, q1⟩ := hR3
    refine kG ?_
    clear kG GG
    exact ⟨v, e, i, j, e1, e2, k, ek, hm _ _ q1⟩
theorem sc__law_draw : FnScope ["_law_pen_here", "_law_many", "_law_drawn", "_law_number_here"] ["_law_pen_here", "_law_many"] (defScope (top 28)) := ⟨rfl, rfl, rfl, by decide +kernel, rfl, by decide +kernel, by decide +kernel⟩
set_option maxHeartbeats 4000000 in
theorem ok__law_draw {f : Addr} {fd : FuncData} (F : Fun K "_law_draw" "_law_draw" (top 28) f fd) (hT : P.given.tree = none) :
    FnOk P w K mg base CX0 33 f fd ["_law_pen_here", "_law_many"] (spDraw) := by
  refine F.ok sc__law_draw (fun vs H Q E h => ?_) (fun cdv A outer s H vs Q E hr h => ?_)
  · obtain ⟨_, _, rfl, _⟩ := h; rfl
  refine ⟨_, (pss_cons (ps_asg (pe_op op_add (pe_ix (ixL K) (pv 0) pe_int (fun _ _ => rfl)) pe_int) (pg_sub (pv 0) pe_int set_list))
    (pss_cons (ps_if (pt_cmpR op_gt (pe_ix (ixL K) (pv 0) pe_int (fun _ _ => rfl)) pe_int (nomark _)) (pss_cons (ps_set (i := 2) sc__law_draw.nd rfl (Or.inl rfl) (pe_op op_mod (pe_ix (ixL K) (pv 0) pe_int (fun _ _ => rfl)) (pv 1)))
    (pss_cons (ps_asg (pe_op (op_fdivX hr hT) (pe_ix (ixL K) (pv 0) pe_int (fun _ _ => rfl)) (pv 1)) (pg_sub (pv 0) pe_int set_list))
    (pss_one (ps_ret (pv 2))))) pss_nil)
    (pss_cons (ps_set (i := 3) sc__law_draw.nd rfl (Or.inl rfl) (pe_op op_mod (pe_op op_mulC (pe_op op_add (pe_op op_add (pe_ix (ixL K) (pv 0) pe_int (fun _ _ => rfl)) (pe_op op_mulC pe_int (pe_ix (ixL K) (pv 0) pe_int (fun _ _ => rfl)))) pe_int) pe_int) pe_int))
    (pss_cons (ps_set (i := 3) sc__law_draw.nd rfl (Or.inl rfl) (pe_op op_mod (pe_op op_mulC (pv 3) (pe_op op_add (pe_op op_add (pe_op op_mod (pv 3) pe_int) (pe_ix (ixL K) (pv 0) pe_int (fun _ _ => rfl))) pe_int)) pe_int))
    (pss_one (ps_ret (pe_op op_mod (pe_op (op_fdivX hr hT) (pe_op op_mod (pe_op op_mulC (pv 3) (pe_op op_add (pe_op op_mod (pv 3) pe_int) pe_int)) pe_int) pe_int) (pv 1)))))))), ?_⟩
  refine absG fun GG kG => ?_
  obtain ⟨a, m, rfl, ⟨c0, c1, c2, hp⟩, h1, h2, q0⟩ := h
  refine kG ?_
  clear kG GG
  have q : ∀ d c0' c2' : Int, 0 ≤ d → d < m → Q (.int d) (upd H a (.lst [.int c0', .int c1, .int c2'])) := fun d _ _ h3 h4 => q0 d _ h3 h4 .put .put
  have hm : m ≠ 0 := by omega
  have q' : ∀ (o : HO) (d c0' c2' : Int), 0 ≤ d → d < m → Q (.int d) (upd (upd H a o) a (.lst [.int c0', .int c1, .int c2'])) := fun o d c0' c2' h3 h4 => by rw [upd_upd]; exact q d c0' c2' h3 h4
  refine ⟨_, rfl, a, _, _, _, rfl, rfl, SqL.of hp, rfl, _, _, rfl, rfl, _, rfl, a, _, _, _, rfl, rfl, hp, rfl, ?_⟩
  refine ⟨_, rfl, a, _, _, _, rfl, rfl, SqL.of upd_same, rfl, _, _, rfl, rfl, _, rfl, ?_⟩
  refine ite2 (fun c => ?_) (fun c => ?_)
  · refine ⟨_, rfl, a, _, _, _, rfl, rfl, SqL.of upd_same, rfl, _, rfl, _, _, rfl, rfl, (by omega : 0 < m), ?_⟩
    refine ⟨_, rfl, a, _, _, _, rfl, rfl, SqL.of upd_same, rfl, _, rfl, _, _, rfl, rfl, hm, _, rfl, a, _, _, _, rfl, rfl, upd_same, rfl, ?_⟩
    refine ⟨_, rfl, ?_⟩
    exact q' _ _ _ _ (Int.emod_nonneg _ (by omega)) (Int.emod_lt_of_pos _ (by omega))
  · have cl : ∀ z : Int, 0 < z → (0 : Int) < z := fun _ h => h
    refine ⟨_, rfl, a, _, _, _, rfl, rfl, SqL.of upd_same, rfl, _, rfl, a, _, _, _, rfl, rfl, SqL.of upd_same, rfl, _, _, rfl, rfl, .inl ⟨by decide, by decide⟩, _, _, rfl, rfl, _, _, rfl, rfl, _, _, rfl, rfl, .inr (.inl ⟨by decide, by decide⟩), _, _, rfl, rfl, (by first | decide | (dsimp only; decide)), ?_⟩
    have n1 := Int.emod_nonneg ((c1 + 40503 * (c2 + 1) + 1) * 48271) (show (2147483647 : Int) ≠ 0 by decide)
    have n2 := Int.emod_lt_of_pos ((c1 + 40503 * (c2 + 1) + 1) * 48271) (show (0 : Int) < 2147483647 by decide)
    generalize hN : (c1 + 40503 * (c2 + 1) + 1) * 48271 % 2147483647 = N at n1 n2
    refine ⟨_, rfl, _, rfl, _, _, rfl, rfl, (by first | decide | (dsimp only; decide)), _, rfl, a, _, _, _, rfl, rfl, SqL.of upd_same, rfl, _, _, rfl, rfl, _, _, rfl, rfl, _, _, rfl, rfl, .inl ?_, _, _, rfl, rfl, (by first | decide | (dsimp only; decide)), ?_⟩
    · rw [hN]; omega
    rw [hN]
    have n3 := Int.emod_nonneg (N * (N % 65521 + (c2 + 1) + 3)) (show (2147483629 : Int) ≠ 0 by decide)
    have n4 := Int.emod_lt_of_pos (N * (N % 65521 + (c2 + 1) + 3)) (show (0 : Int) < 2147483629 by decide)
    generalize N * (N % 65521 + (c2 + 1) + 3) % 2147483629 = M at n3 n4
    refine ⟨_, rfl, _, rfl, _, _, rfl, rfl, (by first | decide | (dsimp only; decide)), _, _, rfl, rfl, _, _, rfl, rfl, .inl ⟨by omega, by omega⟩, _, _, rfl, rfl, (by first | decide | (dsimp only; decide)), _, _, rfl, rfl, (by first | decide | (dsimp only; decide)), _, rfl, _, _, rfl, rfl, (by omega : 0 < m), ?_⟩
    exact q _ _ _ (Int.emod_nonneg _ (by omega)) (Int.emod_lt_of_pos _ (by omega))
theorem sc__law_number : FnScope ["_law_pen_here"] ["_law_pen_here"] (defScope (top 33)) := ⟨rfl, rfl, rfl, by decide +kernel, rfl, by decide +kernel, by decide +kernel⟩
set_option maxHeartbeats 4000000 in
theorem ok__law_number {f : Addr} {fd : FuncData} (F : Fun K "_law_number" "_law_number" (top 33) f fd) (F__law_lowest : Fd P w K mg base 33 "_law_lowest" ["_law_top", "_law_bottom"] (spLow)) (F__law_draw : Fd P w K mg base 33 "_law_draw" ["_law_pen_here", "_law_many"] (spDraw)) (hT : P.given.tree = none) :
    FnOk P w K mg base CX0 34 f fd ["_law_pen_here"] (spNum 8) := by
  refine F.ok sc__law_number (fun vs H Q E h => ?_) (fun cdv A outer s H vs Q E hr h => ?_)
  · obtain ⟨_, rfl, _⟩ := h; rfl
  refine ⟨_, (pss_cons (ps_if (pt_cmpR op_gt (pe_fn F__law_draw hr rfl (pa_cons (pv 0) (pa_cons pe_int pa_nil))) pe_int (nomark _)) (pss_one (ps_ret (pe_fn F__law_lowest hr rfl (pa_cons (pe_op op_sub (pe_fn F__law_draw hr rfl (pa_cons (pv 0) (pa_cons pe_int pa_nil))) pe_int) (pa_cons (pe_op op_add pe_int (pe_fn F__law_draw hr rfl (pa_cons (pv 0) (pa_cons (pe_ix (ixL K) (pe_lst (pa_cons pe_int (pa_cons pe_int pa_nil))) (pe_fn F__law_draw hr rfl (pa_cons (pv 0) (pa_cons pe_int pa_nil))) (fun _ _ => rfl)) pa_nil)))) pa_nil))))) pss_nil)
    (pss_one (ps_ret (pe_fn F__law_lowest hr rfl (pa_cons (pe_op op_sub (pe_fn F__law_draw hr rfl (pa_cons (pv 0) (pa_cons pe_int pa_nil))) pe_int) (pa_cons (pe_op op_add pe_int (pe_fn F__law_draw hr rfl (pa_cons (pv 0) (pa_cons pe_int pa_nil)))) pa_nil)))))), ?_⟩
  refine absG fun GG kG => ?_
  obtain ⟨a, rfl, pn, q⟩ := h
  refine kG ?_
  clear kG GG
  have b8 : ∀ x : Int, -200 < x → x < 200 → Bd 8 x := fun x h1 h2 => by unfold Bd; omega
  refine ⟨_, rfl, a, 6, rfl, pn, by decide, by decide, fun w H1 w0 w1 o1 p1 => ⟨_, _, rfl, rfl, _, rfl, ?_⟩⟩
  refine ite2 (fun c => ?_) (fun c => ?_)
  · refine ⟨_, rfl, a, 19, rfl, p1, by decide, by decide, fun d H2 d0 d1 o2 p2 => ⟨_, _, rfl, rfl, ?_⟩⟩
    refine ⟨_, rfl, (by decide : 2 ≤ sizeLine), fun l hl => ?_⟩
    refine ⟨_, rfl, a, 2, rfl, p2.same hl, by decide, by decide, fun e H3 e0 e1 o3 p3 => ?_⟩
    refine absG fun GG kG => ?_
    obtain ⟨v, hv, hm⟩ := at_menu (xs := [1, 4]) (i := e) e0 e1
    refine kG ?_
    clear kG GG
    have hv1 : 1 ≤ v ∧ v ≤ 4 := by simp at hm; omega
    have hl3 : H3 l = some (.lst [.int 1, .int 4]) := by
      refine absG fun GG kG => ?_
      obtain ⟨x0, x1, x2, ex⟩ := p2
      refine kG ?_
      clear kG GG
      rw [o3 l (ne_of_none ex hl).symm]; exact upd_same
    refine ⟨l, _, _, _, rfl, rfl, SqL.of hl3, hv, a, v, rfl, p3, by omega, by omega, fun g H4 g0 g1 o4 p4 => ⟨_, _, rfl, rfl, _, _, rfl, by omega, fun r hr => ?_⟩⟩
    exact q _ r _ (o1.mv.trans (o2.mv.trans ((Mv.new hl).trans (o3.mv.trans (o4.mv.trans (Mv.new hr)))))) (p4.same hr) upd_same (Bd.num (b8 _ (by omega) (by omega))) (Bd.den (by omega) (b8 _ (by omega) (by omega)))
  · refine ⟨_, rfl, a, 199, rfl, p1, by decide, by decide, fun d H2 d0 d1 o2 p2 => ⟨_, _, rfl, rfl, ?_⟩⟩
    refine ⟨_, rfl, a, 9, rfl, p2, by decide, by decide, fun e H3 e0 e1 o3 p3 => ⟨_, _, rfl, rfl, _, _, rfl, by omega, fun r hr => ?_⟩⟩
    exact q _ r _ (o1.mv.trans (o2.mv.trans (o3.mv.trans (Mv.new hr)))) (p3.same hr) upd_same (Bd.num (b8 _ (by omega) (by omega))) (Bd.den (by omega) (b8 _ (by omega) (by omega)))
theorem sc__law_plus : FnScope ["_law_a", "_law_b"] ["_law_a", "_law_b"] (defScope (top 30)) := ⟨rfl, rfl, rfl, by decide +kernel, rfl, by decide +kernel, by decide +kernel⟩
set_option maxHeartbeats 4000000 in
theorem ok__law_plus {f : Addr} {fd : FuncData} (F : Fun K "_law_plus" "_law_plus" (top 30) f fd) (F__law_lowest : Fd P w K mg base 33 "_law_lowest" ["_law_top", "_law_bottom"] (spLow)) (hT : P.given.tree = none) :
    FnOk P w K mg base CX0 34 f fd ["_law_a", "_law_b"] (spBin K (· + ·)) := by
  refine F.ok sc__law_plus (fun vs H Q E h => ?_) (fun cdv A outer s H vs Q E hr h => ?_)
  · obtain ⟨_, _, _, _, _, _, rfl, _⟩ := h; rfl
  refine ⟨_, (pss_one (ps_ret (pe_fn F__law_lowest hr rfl (pa_cons (pe_op op_add (pe_op op_mulC (pe_ix (ixT K) (pv 0) pe_int (fun _ _ => rfl)) (pe_ix (ixT K) (pv 1) pe_int (fun _ _ => rfl))) (pe_op op_mulC (pe_ix (ixT K) (pv 1) pe_int (fun _ _ => rfl)) (pe_ix (ixT K) (pv 0) pe_int (fun _ _ => rfl)))) (pa_cons (pe_op op_mulC (pe_ix (ixT K) (pv 0) pe_int (fun _ _ => rfl)) (pe_ix (ixT K) (pv 1) pe_int (fun _ _ => rfl))) pa_nil))))), ?_⟩
  refine absG fun GG kG => ?_
  obtain ⟨x, y, p, q, m, n, rfl, ⟨r, rfl, hr⟩, ⟨u, rfl, hu⟩, hp, hq, hmn, k⟩ := h
  refine kG ?_
  clear kG GG
  refine ⟨_, rfl, r, _, _, _, rfl, rfl, hr, rfl, _, rfl, u, _, _, _, rfl, rfl, hu, rfl, _, _, rfl, rfl, MulC.bd hp.1 hq.2, _, rfl, u, _, _, _, rfl, rfl, hu, rfl, _, rfl, r, _, _, _, rfl, rfl, hr, rfl, _, _, rfl, rfl, MulC.bd hq.1 hp.2, _, _, rfl, rfl, ?_⟩
  refine ⟨_, rfl, r, _, _, _, rfl, rfl, hr, rfl, _, rfl, u, _, _, _, rfl, rfl, hu, rfl, _, _, rfl, rfl, MulC.bd hp.2 hq.2, ?_⟩
  refine ⟨_, _, rfl, Int.mul_ne_zero (Nm.den_ne p) (Nm.den_ne q), fun z hz => ?_⟩
  have e := k z hz
  dsimp only at e
  rw [← Nm.plus_eq] at e
  exact e
theorem sc__law_stretch : FnScope ["_law_pen_here", "_law_low", "_law_wide"] ["_law_pen_here"] (defScope (top 37)) := ⟨rfl, rfl, rfl, by decide +kernel, rfl, by decide +kernel, by decide +kernel⟩
set_option maxHeartbeats 4000000 in
theorem ok__law_stretch {f : Addr} {fd : FuncData} (F : Fun K "_law_stretch" "_law_stretch" (top 37) f fd) (F__law_number : Fd P w K mg base 34 "_law_number" ["_law_pen_here"] (spNum 8)) (F__law_plus : Fd P w K mg base 34 "_law_plus" ["_law_a", "_law_b"] (spBin K (· + ·))) (F__law_draw : Fd P w K mg base 33 "_law_draw" ["_law_pen_here", "_law_many"] (spDraw)) (hT : P.given.tree = none) :
    FnOk P w K mg base CX0 35 f fd ["_law_pen_here"] (spStr K) := by
  refine F.ok sc__law_stretch (fun vs H Q E h => ?_) (fun cdv A outer s H vs Q E hr h => ?_)
  · obtain ⟨_, rfl, _⟩ := h; rfl
  refine ⟨_, (pss_cons (ps_set (i := 1) sc__law_stretch.nd rfl (Or.inl rfl) (pe_fn F__law_number hr rfl (pa_cons (pv 0) pa_nil)))
    (pss_cons (ps_set (i := 2) sc__law_stretch.nd rfl (Or.inl rfl) (pe_fn F__law_number hr rfl (pa_cons (pv 0) pa_nil)))
    (pss_cons (ps_if (pt_cmpR op_lt (pe_ix (ixT K) (pv 2) pe_int (fun _ _ => rfl)) pe_int (nomark _)) (pss_one (ps_set (i := 2) sc__law_stretch.nd rfl (Or.inl rfl) (pe_tup (pa_cons (pe_op op_sub pe_int (pe_ix (ixT K) (pv 2) pe_int (fun _ _ => rfl))) (pa_cons (pe_ix (ixT K) (pv 2) pe_int (fun _ _ => rfl)) pa_nil))))) pss_nil)
    (pss_cons (ps_if (pt_cmpR op_eq (pe_ix (ixT K) (pv 2) pe_int (fun _ _ => rfl)) pe_int (nomark _)) (pss_one (ps_set (i := 2) sc__law_stretch.nd rfl (Or.inl rfl) (pe_tup (pa_cons pe_int (pa_cons (pe_op op_add pe_int (pe_fn F__law_draw hr rfl (pa_cons (pv 0) (pa_cons pe_int pa_nil)))) pa_nil))))) pss_nil)
    (pss_one (ps_ret (pe_tup (pa_cons (pv 1) (pa_cons (pe_fn F__law_plus hr rfl (pa_cons (pv 1) (pa_cons (pv 2) pa_nil))) pa_nil))))))))), ?_⟩
  refine absG fun GG kG => ?_
  obtain ⟨a, rfl, pn, q⟩ := h
  refine kG ?_
  clear kG GG
  have P2 : 2 ≤ sizeLine := by decide
  refine ⟨_, rfl, a, rfl, pn, fun lo rl H1 m1 p1 hr1 bn1 bd1 => ?_⟩
  refine ⟨_, rfl, a, rfl, p1, fun w rw' H2 m2 p2 hr2 bn2 bd2 => ?_⟩
  have hlo2 : NumV K H2 (.ref rl) lo := (NumV.of hr1).mv p1 m2
  dsimp only
  refine seq_joinN (fun σ' H' => Same H2 H' ∧ ∃ (r3 : Addr) (w3 : Rat), σ' = [some (.ref a), some (.ref rl), some (.ref r3)] ∧ NumV K H' (.ref r3) w3 ∧ 0 ≤ w3 ∧ RB 8 w3) (fun nx hnx => ?_) ?_
  · refine ⟨_, rfl, rw', _, _, _, rfl, rfl, SqT.of hr2, rfl, _, _, rfl, rfl, _, rfl, ?_⟩
    by_cases hw : w.num < 0
    · rw [decide_eq_true hw]
      refine iteT ⟨_, rfl, rw', _, _, _, rfl, rfl, SqT.of hr2, rfl, _, _, rfl, rfl, _, rfl, rw', _, _, _, rfl, rfl, SqT.of hr2, rfl, P2, fun t ht => ?_⟩
      have e : nT (-w) = .tup [.int (0 - w.num), .int (w.den : Int)] := by
        unfold nT
        rw [Rat.neg_num, Rat.neg_den, Int.zero_sub]
      refine hnx _ _ ⟨Same.new ht, t, -w, rfl, NumV.of (by rw [upd_same, e]), rat_num_nonneg (by rw [Rat.neg_num]; omega), ?_⟩
      exact ⟨by rw [Rat.neg_num]; exact Bd.neg bn2, by rw [Rat.neg_den]; exact bd2⟩
    · rw [decide_eq_false hw]
      exact iteF (hnx _ _ ⟨Same.refl _, rw', w, rfl, NumV.of hr2, rat_num_nonneg (by omega), ⟨bn2, bd2⟩⟩)
  rintro σ' H3 hR2
  refine absG fun GG kG => ?_
  obtain ⟨s3, r3, w3, rfl, hw3, h0, bw3⟩ := hR2
  refine kG ?_
  clear kG GG
  have p3 := p2.sm s3
  have hlo3 := hlo2.same s3
  refine absG fun GG kG => ?_
  obtain ⟨r3', e3, hr3⟩ := id hw3
  refine kG ?_
  clear kG GG
  cases e3
  refine seq_join (s := tIfS _ _ _) (fun σ' H' => Mv a H3 H' ∧ Pen H' a ∧ ∃ (r4 : Addr) (w4 : Rat), σ' = [some (.ref a), some (.ref rl), some (.ref r4)] ∧ NumV K H' (.ref r4) w4 ∧ 0 < w4 ∧ RB 8 w4) (fun nx hnx => ?_) ?_
  · refine ⟨_, rfl, r3, _, _, _, rfl, rfl, hr3, rfl, rfl, _, rfl, ?_⟩
    by_cases hz : w3.num = 0
    · rw [decide_eq_true (show V.int w3.num = V.int 0 by rw [hz])]
      refine iteT ⟨_, rfl, a, 9, rfl, p3, by decide, by decide, fun d H4 d0 d1 o4 p4 => ⟨_, _, rfl, rfl, P2, fun t ht => ?_⟩⟩
      have hd : (1 : Int) + d ≠ 0 := by omega
      have e : nT (Rat.divInt 1 (1 + d)) = .tup [.int 1, .int (1 + d)] := by
        unfold nT
        rw [← Nm.top_msr hd, ← Nm.bottom_msr hd]
        have m1 : Nm.msr 1 (1 + d) = 1 := by
          unfold Nm.msr
          rw [if_neg (by omega), Int.gcd_one_left]; rfl
        rw [m1, Int.fdiv_one, Int.fdiv_one]
      refine hnx _ _ ⟨o4.mv.trans (Mv.new ht), p4.same ht, t, Rat.divInt 1 (1 + d), rfl, NumV.of (by rw [upd_same, e]), ?_, ?_⟩
      · refine rat_pos (rat_num_nonneg ?_) ?_
        · have := congrArg (fun o : HO => match o with | .tup (.int i :: _) => i | _ => 0) e
          have e1 : (Rat.divInt 1 (1 + d)).num = 1 := this
          rw [e1]; decide
        · have := congrArg (fun o : HO => match o with | .tup (.int i :: _) => i | _ => 0) e
          have e1 : (Rat.divInt 1 (1 + d)).num = 1 := this
          rw [e1]; decide
      · exact ⟨Bd.num (show Bd 8 1 by unfold Bd; decide), Bd.den hd (show Bd 8 (1 + d) by unfold Bd; omega)⟩
    · rw [decide_eq_false (show ¬ V.int w3.num = V.int 0 from fun z => hz (V.int.inj z))]
      exact iteF (hnx _ _ ⟨Mv.refl _ _, p3, r3, w3, rfl, hw3, rat_pos h0 hz, bw3⟩)
  rintro σ' H4 hR4
  refine absG fun GG kG => ?_
  obtain ⟨m4, p4, r4, w4, rfl, hw4, hpos, bw4⟩ := hR4
  refine kG ?_
  clear kG GG
  have hlo4 := hlo3.mv p3 m4
  refine ⟨_, rfl, _, rfl, _, rfl, _, _, _, _, 8, 8, rfl, hlo4, hw4, ⟨bn1, bd1⟩, bw4, by decide, fun u hu => ⟨P2, fun t ht => ?_⟩⟩
  have s5 : Same H4 (upd (upd H4 u (nT (lo + w4))) t (.tup [.ref rl, .ref u])) := (Same.new hu).trans (Same.new ht)
  refine q t rl u lo (lo + w4) _ ((((m1.trans m2).trans s3.mv).trans m4).trans s5.mv) (p4.sm s5) upd_same (hlo4.same s5) (NumV.of ((Same.new ht) _ _ upd_same)) (lt_plus hpos) (RB.mono ⟨bn1, bd1⟩ (by decide)) ((RB.plus ⟨bn1, bd1⟩ bw4).mono (by decide))
theorem sc__law_times : FnScope ["_law_a", "_law_b"] ["_law_a", "_law_b"] (defScope (top 32)) := ⟨rfl, rfl, rfl, by decide +kernel, rfl, by decide +kernel, by decide +kernel⟩
set_option maxHeartbeats 4000000 in
theorem ok__law_times {f : Addr} {fd : FuncData} (F : Fun K "_law_times" "_law_times" (top 32) f fd) (F__law_lowest : Fd P w K mg base 33 "_law_lowest" ["_law_top", "_law_bottom"] (spLow)) (hT : P.given.tree = none) :
    FnOk P w K mg base CX0 34 f fd ["_law_a", "_law_b"] (spBin K (· * ·)) := by
  refine F.ok sc__law_times (fun vs H Q E h => ?_) (fun cdv A outer s H vs Q E hr h => ?_)
  · obtain ⟨_, _, _, _, _, _, rfl, _⟩ := h; rfl
  refine ⟨_, (pss_one (ps_ret (pe_fn F__law_lowest hr rfl (pa_cons (pe_op op_mulC (pe_ix (ixT K) (pv 0) pe_int (fun _ _ => rfl)) (pe_ix (ixT K) (pv 1) pe_int (fun _ _ => rfl))) (pa_cons (pe_op op_mulC (pe_ix (ixT K) (pv 0) pe_int (fun _ _ => rfl)) (pe_ix (ixT K) (pv 1) pe_int (fun _ _ => rfl))) pa_nil))))), ?_⟩
  refine absG fun GG kG => ?_
  obtain ⟨x, y, p, q, m, n, rfl, ⟨r, rfl, hr⟩, ⟨u, rfl, hu⟩, hp, hq, hmn, k⟩ := h
  refine kG ?_
  clear kG GG
  refine ⟨_, rfl, r, _, _, _, rfl, rfl, hr, rfl, _, rfl, u, _, _, _, rfl, rfl, hu, rfl, _, _, rfl, rfl, MulC.bd hp.1 hq.1, ?_⟩
  refine ⟨_, rfl, r, _, _, _, rfl, rfl, hr, rfl, _, rfl, u, _, _, _, rfl, rfl, hu, rfl, _, _, rfl, rfl, MulC.bd hp.2 hq.2, ?_⟩
  refine ⟨_, _, rfl, Int.mul_ne_zero (Nm.den_ne p) (Nm.den_ne q), fun z hz => ?_⟩
  have e := k z hz
  dsimp only at e
  rw [← Nm.times_eq] at e
  exact e
theorem sc_common_measure : FnScope ["one", "other", "great", "small", "rest"] ["one", "other"] (defScope (top 5)) := ⟨rfl, rfl, rfl, by decide +kernel, rfl, by decide +kernel, by decide +kernel⟩
set_option maxHeartbeats 4000000 in
theorem ok_common_measure {f : Addr} {fd : FuncData} (F : Fun K "common_measure" "common_measure" (top 5) f fd) (b_abs : mg "abs" = none) (hT : P.given.tree = none) :
    FnOk P w K mg base CX0 33 f fd ["one", "other"] (spGcd) := by
  refine F.ok sc_common_measure (fun vs H Q E h => ?_) (fun cdv A outer s H vs Q E hr h => ?_)
  · obtain ⟨_, _, rfl, _⟩ := h; rfl
  refine ⟨_, (pss_cons (ps_set (i := 2) sc_common_measure.nd rfl (Or.inl rfl) (pe_callB call_abs rfl b_abs bt_abs (pa_cons (pv 0) pa_nil)))
    (pss_cons (ps_set (i := 3) sc_common_measure.nd rfl (Or.inl rfl) (pe_callB call_abs rfl b_abs bt_abs (pa_cons (pv 1) pa_nil)))
    (pss_cons (ps_while PassesOwn.never (pt_cmpR op_ne (pv 3) pe_int (nomark _)) (pss_cons (ps_set (i := 4) sc_common_measure.nd rfl (Or.inl rfl) (pe_op op_mod (pv 2) (pv 3)))
    (pss_cons (ps_set (i := 2) sc_common_measure.nd rfl (Or.inl rfl) (pv 3))
    (pss_one (ps_set (i := 3) sc_common_measure.nd rfl (Or.inl rfl) (pv 4))))))
    (pss_one (ps_ret (pv 2)))))), ?_⟩
  refine absG fun GG kG => ?_
  obtain ⟨a, b, rfl, q⟩ := h
  refine kG ?_
  clear kG GG
  refine ⟨_, rfl, a, rfl, ?_⟩
  refine ⟨_, rfl, b, rfl, ?_⟩
  refine while_by (fun σ H' => H' = H ∧ ∃ (x y : Int) (r : Option V), σ = [some (.int a), some (.int b), some (.int x), some (.int y), r] ∧ 0 ≤ x ∧ 0 ≤ y ∧ Int.gcd x y = Int.gcd a b) (fun σ _ => mu 3 σ)
    ⟨rfl, _, _, none, rfl, ?_, ?_, ?_⟩ ?_ ?_
  · rw [Nm.abs_if]; exact Int.natCast_nonneg _
  · rw [Nm.abs_if]; exact Int.natCast_nonneg _
  · rw [Nm.abs_if, Nm.abs_if]; rfl
  · rintro σ H' hR2
    refine absG fun GG kG => ?_
    obtain ⟨rfl, x, y, r, rfl, hx, hy, hg⟩ := hR2
    refine kG ?_
    clear kG GG
    refine ⟨_, rfl, rfl, _, rfl, ?_⟩
    by_cases hy0 : y = 0
    · subst hy0
      rw [decide_eq_true rfl]
      refine iteF ⟨_, rfl, ?_⟩
      have e : (Int.gcd a b : Int) = x := by rw [← hg, Int.gcd_zero]; omega
      rw [e] at q
      exact q
    · rw [decide_eq_false (fun z => hy0 (V.int.inj z))]
      refine iteT ?_
      have hyp : 0 < y := by omega
      refine ⟨_, rfl, _, rfl, _, _, rfl, rfl, hyp, ?_⟩
      refine ⟨_, rfl, _, rfl, ⟨rfl, y, x % y, _, rfl, hy, Int.emod_nonneg _ hy0, ?_⟩, ?_⟩
      · rw [Nm.gcd_turn]; exact hg
      · show (x % y).toNat < y.toNat
        have := Int.emod_lt_of_pos x hyp
        omega
  · rintro σ H' Q1 Q2 hm hR3
    refine absG fun GG kG => ?_
    obtain ⟨v, e, s1, k, ek, q1⟩ := hR3
    refine kG ?_
    clear kG GG
    exact ⟨v, e, s1, k, ek, hm _ _ q1⟩
theorem sc_number_of : FnScope ["top", "bottom", "measure"] ["top", "bottom"] (defScope (top 6)) := ⟨rfl, rfl, rfl, by decide +kernel, rfl, by decide +kernel, by decide +kernel⟩
set_option maxHeartbeats 4000000 in
theorem ok_number_of {f : Addr} {fd : FuncData} (F : Fun K "number_of" "number_of" (top 6) f fd) (F_common_measure : Fd P w K mg base 33 "common_measure" ["one", "other"] (spGcd)) (hT : P.given.tree = none) :
    FnOk P w K mg base CX0 34 f fd ["top", "bottom"] (spLow) := by
  refine F.ok sc_number_of (fun vs H Q E h => ?_) (fun cdv A outer s H vs Q E hr h => ?_)
  · obtain ⟨_, _, rfl, _⟩ := h; rfl
  refine ⟨_, (pss_cons (ps_if (pt_cmpR op_eq (pv 1) pe_int (nomark _)) (pss_one ps_never) pss_nil)
    (pss_cons (ps_set (i := 2) sc_number_of.nd rfl (Or.inl rfl) (pe_fn F_common_measure hr rfl (pa_cons (pv 0) (pa_cons (pv 1) pa_nil))))
    (pss_cons (ps_if (pt_cmpR op_lt (pv 1) pe_int (nomark _)) (pss_one (ps_set (i := 2) sc_number_of.nd rfl (Or.inl rfl) (pe_un un_neg (pv 2)))) pss_nil)
    (pss_one (ps_ret (pe_tup (pa_cons (pe_op (op_fdivX hr hT) (pv 0) (pv 2)) (pa_cons (pe_op (op_fdivX hr hT) (pv 1) (pv 2)) pa_nil)))))))), ?_⟩
  refine absG fun GG kG => ?_
  obtain ⟨a, b, rfl, hb, q⟩ := h
  refine kG ?_
  clear kG GG
  refine ⟨_, rfl, rfl, _, rfl, ?_⟩
  rw [decide_eq_false (fun z => hb (V.int.inj z))]
  refine iteF ?_
  refine ⟨_, rfl, _, rfl, a, b, rfl, ?_⟩
  refine ⟨_, rfl, _, _, rfl, rfl, _, rfl, ?_⟩
  have hd : Nm.msr a b ≠ 0 := Nm.msr_ne hb
  have fin : ∀ p, H p = none → Q (.ref p) (upd H p (.tup [.int (a.fdiv (Nm.msr a b)), .int (b.fdiv (Nm.msr a b))])) := fun p hp => by
    rw [Nm.top_msr hb, Nm.bottom_msr hb]; exact q p hp
  by_cases hb0 : b < 0
  · have hd' : Nm.msr a b = -(Int.gcd a b : Int) := by unfold Nm.msr; rw [if_pos hb0]
    rw [hd'] at hd fin
    rw [decide_eq_true hb0]
    refine iteT ⟨_, rfl, _, rfl, ?_⟩
    exact ⟨_, rfl, _, rfl, _, _, rfl, rfl, hd, _, rfl, _, rfl, _, _, rfl, rfl, hd, (by decide : 2 ≤ sizeLine), fin⟩
  · have hd' : Nm.msr a b = (Int.gcd a b : Int) := by unfold Nm.msr; rw [if_neg hb0]
    rw [hd'] at hd fin
    rw [decide_eq_false hb0]
    refine iteF ?_
    exact ⟨_, rfl, _, rfl, _, _, rfl, rfl, hd, _, rfl, _, rfl, _, _, rfl, rfl, hd, (by decide : 2 ≤ sizeLine), fin⟩
theorem sc_over : FnScope ["a", "b"] ["a", "b"] (defScope (top 8)) := ⟨rfl, rfl, rfl, by decide +kernel, rfl, by decide +kernel, by decide +kernel⟩
set_option maxHeartbeats 4000000 in
theorem ok_over {f : Addr} {fd : FuncData} (F : Fun K "over" "over" (top 8) f fd) (F_number_of : Fd P w K mg base 34 "number_of" ["top", "bottom"] (spLow)) (hT : P.given.tree = none) :
    FnOk P w K mg base CX0 35 f fd ["a", "b"] (spOver K) := by
  refine F.ok sc_over (fun vs H Q E h => ?_) (fun cdv A outer s H vs Q E hr h => ?_)
  · obtain ⟨_, _, _, _, _, _, rfl, _⟩ := h; rfl
  refine ⟨_, (pss_one (ps_ret (pe_fn F_number_of hr rfl (pa_cons (pe_op op_mulC (pe_ix (ixT K) (pv 0) pe_int (fun _ _ => rfl)) (pe_ix (ixT K) (pv 1) pe_int (fun _ _ => rfl))) (pa_cons (pe_op op_mulC (pe_ix (ixT K) (pv 0) pe_int (fun _ _ => rfl)) (pe_ix (ixT K) (pv 1) pe_int (fun _ _ => rfl))) pa_nil))))), ?_⟩
  refine absG fun GG kG => ?_
  obtain ⟨x, y, p, q, m, n, rfl, ⟨r, rfl, hr'⟩, ⟨u, rfl, hu⟩, q0, hp, hq, hmn, k⟩ := h
  refine kG ?_
  clear kG GG
  have hn : q.num ≠ 0 := fun z => q0 (Rat.num_eq_zero.mp z)
  refine ⟨_, rfl, r, _, _, _, rfl, rfl, hr', rfl, _, rfl, u, _, _, _, rfl, rfl, hu, rfl, _, _, rfl, rfl, MulC.bd hp.1 hq.2, ?_⟩
  refine ⟨_, rfl, r, _, _, _, rfl, rfl, hr', rfl, _, rfl, u, _, _, _, rfl, rfl, hu, rfl, _, _, rfl, rfl, MulC.bd hp.2 hq.1, ?_⟩
  refine ⟨_, _, rfl, Int.mul_ne_zero (Nm.den_ne p) hn, fun z hz => ?_⟩
  have e := k z hz
  rw [← over_eq p q q0] at e
  exact e
theorem sc_parts_along : FnScope ["along", "parts", "ways", "k"] ["along"] (defScope (top 21)) := ⟨rfl, rfl, rfl, by decide +kernel, rfl, by decide +kernel, by decide +kernel⟩
set_option maxHeartbeats 4000000 in
theorem ok_parts_along {f : Addr} {fd : FuncData} (F : Fun K "parts_along" "parts_along" (top 21) f fd) (F_over : Fd P w K mg base 35 "over" ["a", "b"] (spOver K)) (b_range : mg "range" = none) (b_len : mg "len" = none) (hT : P.given.tree = none) :
    FnOk P w K mg base CX0 36 f fd ["along"] (spParts K) := by
  refine F.ok sc_parts_along (fun vs H Q E h => ?_) (fun cdv A outer s H vs Q E hr h => ?_)
  · obtain ⟨_, _, _, rfl, _⟩ := h; rfl
  refine ⟨_, (pss_cons (ps_set (i := 1) sc_parts_along.nd rfl (Or.inl rfl) (pe_lst pa_nil))
    (pss_cons (ps_set (i := 2) sc_parts_along.nd rfl (Or.inl rfl) pe_int)
    (pss_cons (ps_for PassesOwn.never rfl (pi_range1 rfl b_range (pa_cons (pe_callB (lenK K) rfl b_len bt_len (pa_cons (pv 0) pa_nil)) pa_nil)) (pg_name (i := 3) sc_parts_along.nd rfl (Or.inl rfl)) (pss_cons (ps_expr (pe_bm PySem.F.plainAttrs_list PySem.F.slot_list_append PySem.F.type_list_append mt_append (pv 1) (pa_cons (pe_fn F_over hr rfl (pa_cons (pe_ix (ixT K) (pv 0) (pv 3) (fun _ _ => rfl)) (pa_cons (pe_tup (pa_cons (pv 2) (pa_cons pe_int pa_nil))) pa_nil))) pa_nil)))
    (pss_one (ps_set (i := 2) sc_parts_along.nd rfl (Or.inl rfl) (pe_op (op_fdivX hr hT) (pe_op op_mulC (pv 2) (pe_op op_sub (pe_op op_sub (pe_callB (lenK K) rfl b_len bt_len (pa_cons (pv 0) pa_nil)) pe_int) (pv 3))) (pe_op op_add (pv 3) pe_int))))))
    (pss_one (ps_ret (pv 1)))))), ?_⟩
  refine absG fun GG kG => ?_
  obtain ⟨r, al, n, rfl, ⟨xs, hS, hn⟩, h1, h20, hb, hn4, hn1, q⟩ := h
  refine kG ?_
  clear kG GG
  have P0 : 0 ≤ sizeLine := by decide
  have P2 : 2 ≤ sizeLine := by decide
  have hl := hn.length
  refine ⟨P0, fun p hp => ?_⟩
  refine ⟨_, rfl, r, xs, rfl, .inr (hS.same (Same.new hp)), _, rfl, by omega, by omega, ?_⟩
  rw [show ((xs.length : Nat) : Int).toNat = al.length by omega]
  refine for_range (n := al.length) (fun k σ H' => Same H H' ∧ ∃ zs z, σ = [some (.ref r), some (.ref p), some (.int ((ch (al.length - 1) k : Nat) : Int)), z] ∧ H' p = some (.lst zs) ∧ Nums K H' zs ((List.range k).map fun k => al.getD k 0 / ((ch (al.length - 1) k : Nat) : Rat)))
    ⟨Same.new hp, [], none, by rw [ch_zero]; rfl, upd_same, .nil⟩ ?_ ?_
  · rintro k σ H' hk hR2
    refine absG fun GG kG => ?_
    obtain ⟨sm, zs, z, rfl, ep, hz⟩ := hR2
    refine kG ?_
    clear kG GG
    have hzl : zs.length = k := by rw [hz.length, List.length_map, List.length_range]
    refine absG fun GG kG => ?_
    obtain ⟨x, hx, hxn⟩ := Paired.get' hn (getD_some hk)
    refine kG ?_
    clear kG GG
    have hat : atI xs (0 + (k : Int)) = some x := by rw [show 0 + (k : Int) = ((k : Nat) : Int) by omega]; exact atI_nat hx
    have hS' := hS.same sm
    have c64 : -(2 ^ 64) < ((ch (al.length - 1) k : Nat) : Int) ∧ ((ch (al.length - 1) k : Nat) : Int) < 2 ^ 64 := by
      have h1 := ch_le (al.length - 1) k
      have h2 : 2 ^ (al.length - 1) ≤ 2 ^ 20 := Nat.pow_le_pow_right (by decide) (by omega)
      omega
    refine ⟨_, rfl, .inl ⟨rfl, _, SqL.of ep⟩, _, rfl, _, rfl, r, xs, _, x, rfl, rfl, hS', hat, _, rfl, P2, fun t ht => ?_⟩
    have ht' : NumV K (upd H' t (.tup [.int ((ch (al.length - 1) k : Nat) : Int), .int 1])) (.ref t) ((ch (al.length - 1) k : Nat) : Rat) := NumV.of (by rw [upd_same, nT_nat])
    have st : Same H' (upd H' t (.tup [.int ((ch (al.length - 1) k : Nat) : Int), .int 1])) := Same.new ht
    generalize upd H' t (.tup [.int ((ch (al.length - 1) k : Nat) : Int), .int 1]) = Ht at ht' st ⊢
    refine ⟨_, _, _, _, n, 22, rfl, (hxn.same sm).same st, ht', ch_ne (by omega), hb _ (List.mem_of_getElem? (getD_some hk)), ch_rb (by omega), by omega, fun u hu => ?_⟩
    have su := st.trans (Same.new (o := nT (al.getD k 0 / ((ch (al.length - 1) k : Nat) : Rat))) hu)
    have eu : (upd Ht u (nT (al.getD k 0 / ((ch (al.length - 1) k : Nat) : Rat)))) u = some (nT (al.getD k 0 / ((ch (al.length - 1) k : Nat) : Rat))) := upd_same
    generalize upd Ht u (nT (al.getD k 0 / ((ch (al.length - 1) k : Nat) : Rat))) = Hu at su eu ⊢
    have epu := su _ _ ep
    refine ⟨p, zs, .ref u, rfl, rfl, epu, Nat.lt_of_lt_of_le (show zs.length < 300 by omega) (by decide), ?_⟩
    have sP : Same H (upd Hu p (.lst (zs ++ [.ref u]))) := (sm.trans su).put hp
    refine ⟨_, rfl, _, rfl, r, xs, rfl, .inr (hS.same sP), _, _, rfl, rfl, _, rfl, _, _, rfl, rfl, _, _, rfl, rfl, .inl c64, _, rfl, _, _, rfl, rfl, _, _, rfl, rfl, (show (0 : Int) + (k : Int) + 1 ≠ 0 by omega), ?_⟩
    refine ⟨sP, zs ++ [.ref u], some (.int (0 + (k : Int))), ?_, upd_same, ?_⟩
    · have e := ch_next (n := al.length - 1) (k := k) (by omega)
      have e2 : (((ch (al.length - 1) k : Nat) : Int) * ((xs.length : Int) - 1 - (0 + (k : Int)))).fdiv (0 + (k : Int) + 1) = ((ch (al.length - 1) (k + 1) : Nat) : Int) := by
        rw [← e, show (xs.length : Int) - 1 - (0 + (k : Int)) = ((al.length - 1 : Nat) : Int) - (k : Int) by omega, show 0 + (k : Int) + 1 = (k : Int) + 1 by omega]
      show [some (V.ref r), some (V.ref p), some (V.int ((((ch (al.length - 1) k : Nat) : Int) * ((xs.length : Int) - 1 - (0 + (k : Int)))).fdiv (0 + (k : Int) + 1))), some (V.int (0 + (k : Int)))] = _
      rw [e2]
    · rw [List.range_succ, List.map_append]
      exact Nums.put (Paired.snoc (Nums.same hz su) (NumV.of eu)) epu
  · rintro σ H' hR4
    refine absG fun GG kG => ?_
    obtain ⟨sm, zs, z, rfl, ep, hz⟩ := hR4
    refine kG ?_
    clear kG GG
    exact ⟨_, rfl, q p H' zs sm ep hz (parts_rb h20 hn1 hb)⟩
theorem sc_bottom_of : FnScope ["numbers", "bottom", "number"] ["numbers"] (defScope (top 13)) := ⟨rfl, rfl, rfl, by decide +kernel, rfl, by decide +kernel, by decide +kernel⟩
set_option maxHeartbeats 4000000 in
theorem ok_bottom_of {f : Addr} {fd : FuncData} (F : Fun K "bottom_of" "bottom_of" (top 13) f fd) (F_common_measure : Fd P w K mg base 33 "common_measure" ["one", "other"] (spGcd)) (hT : P.given.tree = none) :
    FnOk P w K mg base CX0 34 f fd ["numbers"] (spBot K) := by
  refine F.ok sc_bottom_of (fun vs H Q E h => ?_) (fun cdv A outer s H vs Q E hr h => ?_)
  · obtain ⟨_, _, _, _, _, rfl, _⟩ := h; rfl
  refine ⟨_, (pss_cons (ps_set (i := 1) sc_bottom_of.nd rfl (Or.inl rfl) pe_int)
    (pss_cons (ps_for PassesOwn.never rfl (piS K (pv 0)) (pg_name (i := 2) sc_bottom_of.nd rfl (Or.inl rfl)) (pss_one (ps_set (i := 1) sc_bottom_of.nd rfl (Or.inl rfl) (pe_op op_mulC (pv 1) (pe_op (op_fdivX hr hT) (pe_ix (ixT K) (pv 2) pe_int (fun _ _ => rfl)) (pe_fn F_common_measure hr rfl (pa_cons (pv 1) (pa_cons (pe_ix (ixT K) (pv 2) pe_int (fun _ _ => rfl)) pa_nil))))))))
    (pss_one (ps_ret (pv 1))))), ?_⟩
  refine absG fun GG kG => ?_
  obtain ⟨b, r, xs, qs, n, rfl, hS, hn, hB, hz, q⟩ := h
  refine kG ?_
  clear kG GG
  have hl := hn.length
  refine for_seq (b := b) (a := r) (xs := xs) rfl (fun i σ H' => H' = H ∧ ∃ (B : Int) (z : Option V), σ = [some (.ref r), some (.int B), z] ∧ 0 < B ∧ (∀ q ∈ qs.take i, (q.den : Int) ∣ B) ∧ Bd (n * i + 1) B) ⟨rfl, 1, none, rfl, by decide, fun q hq => by simp at hq, by unfold Bd; rw [Nat.mul_zero]; decide⟩ (fun i σ H' _ p => by rw [p.1]; exact hS) ?_ ?_
  · rintro i x σ H' hx hR2
    refine absG fun GG kG => ?_
    obtain ⟨rfl, B, z, rfl, hB0, hdv, hbd⟩ := hR2
    refine kG ?_
    clear kG GG
    refine absG fun GG kG => ?_
    obtain ⟨c, hc, r', rfl, hr⟩ := Paired.get hn hx
    refine kG ?_
    clear kG GG
    have hi : i < qs.length := (List.getElem?_eq_some_iff.mp hc).1
    have hcm : c ∈ qs := List.mem_of_getElem? hc
    have hd0 : 0 < (c.den : Int) := by have := c.den_pos; omega
    refine absG fun GG kG => ?_
    obtain ⟨l1, l2, l3⟩ := lcm_step hB0 hd0
    refine kG ?_
    clear kG GG
    have g0 : (Int.gcd B c.den : Int) ≠ 0 := by have := Nm.gcd_pos (a := B) (b := c.den) (by omega); omega
    have bd2 : Bd n (Int.fdiv c.den (Int.gcd B c.den : Int)) := (hB c hcm).fdiv
    have hni : n * i ≤ n * qs.length := Nat.mul_le_mul_left n (by omega)
    have hnm : n * (qs.length + 2) = n * qs.length + 2 * n := by rw [Nat.mul_add]; omega
    refine ⟨_, rfl, _, rfl, r', _, _, _, rfl, rfl, hr, rfl, _, rfl, _, rfl, r', _, _, _, rfl, rfl, hr, rfl, _, _, rfl, _, _, rfl, rfl, g0, _, _, rfl, rfl, MulC.bd hbd bd2 (by omega), ?_⟩
    refine ⟨rfl, _, _, rfl, l1, fun q' hq' => ?_, ?_⟩
    · rw [List.take_add_one, hc] at hq'
      rcases List.mem_append.mp hq' with z | z
      · exact Int.dvd_trans (hdv q' z) l2
      · have : q' = c := by simpa using z
        subst this; exact l3
    · have := hbd.mul bd2
      rw [Nat.mul_add, Nat.mul_one, show n * i + n + 1 = n * i + 1 + n by omega]
      exact this
  · rintro σ H' hR5
    refine absG fun GG kG => ?_
    obtain ⟨rfl, B, z, rfl, hB0, hdv, hbd⟩ := hR5
    refine kG ?_
    clear kG GG
    rw [hl, List.take_length] at hdv
    rw [hl] at hbd
    exact ⟨_, rfl, q B hB0 hdv hbd⟩
theorem sc_tops_over : FnScope ["numbers", "bottom"] ["numbers", "bottom"] (defScope (top 14)) := ⟨rfl, rfl, rfl, by decide +kernel, rfl, by decide +kernel, by decide +kernel⟩
set_option maxHeartbeats 4000000 in
theorem ok_tops_over {f : Addr} {fd : FuncData} (F : Fun K "tops_over" "tops_over" (top 14) f fd) (hT : P.given.tree = none) :
    FnOk P w K mg base CX0 33 f fd ["numbers", "bottom"] (spTops K) := by
  refine F.ok sc_tops_over (fun vs H Q E h => ?_) (fun cdv A outer s H vs Q E hr h => ?_)
  · obtain ⟨_, _, _, _, _, _, _, rfl, _⟩ := h; rfl
  refine ⟨_, (pss_one (ps_ret (pe_lc rfl (N := ["number", "bottom"]) (nt := 1) (js := [1]) (CompOk.look (NX := ["numbers", "bottom"]) (sc := defScope (top 14)) rfl rfl (by decide +kernel)) (piS K (pv 0)) (fun _ _ _ _ _ => (pg_name (i := 0) (show List.Nodup (["number", "bottom"] : List Str) from by decide +kernel) rfl (Or.inl rfl))) (stays_name (by decide)) (fun _ _ _ _ _ => pts_nil) (fun _ _ _ _ _ => (pe_op op_mulC (pe_ix (ixT K) (pv 0) pe_int (fun _ _ => rfl)) (pe_op (op_fdivX hr hT) (pv 1) (pe_ix (ixT K) (pv 0) pe_int (fun _ _ => rfl)))))))), ?_⟩
  refine absG fun GG kG => ?_
  obtain ⟨b, r, xs, qs, B, m, n, rfl, hS, hn, hbB, hbn, hmn, hz, q⟩ := h
  refine kG ?_
  clear kG GG
  have hl := hn.length
  refine lc_seq (b := b) (a := r) (xs := xs) rfl (fun i zs H' => H' = H ∧ zs = ((qs.take i).map (topOf B)).map V.int) ⟨rfl, rfl⟩ (fun i zs H' hi p => ⟨by rw [p.1]; exact hS, by rw [p.2, List.length_map, List.length_map, List.length_take]; omega⟩) (by rw [hl]; exact Nat.le_of_lt (small1000 hz)) ?_ ?_
  · rintro i x zs H' hx ⟨rfl, rfl⟩
    refine absG fun GG kG => ?_
    obtain ⟨c, hc, r', rfl, hr⟩ := Paired.get hn hx
    refine kG ?_
    clear kG GG
    have hcm : c ∈ qs := List.mem_of_getElem? hc
    have hd0 : (c.den : Int) ≠ 0 := by have := c.den_pos; omega
    refine ⟨_, rfl, r', _, _, _, rfl, rfl, hr, rfl, _, rfl, _, rfl, r', _, _, _, rfl, rfl, hr, rfl, _, _, rfl, rfl, hd0, _, _, rfl, rfl, MulC.bd (hbn c hcm) (hbB.fdiv (y := c.den)) (by omega), rfl, ?_⟩
    rw [List.take_add_one, hc, List.map_append, List.map_append]
    rfl
  · rintro zs H' ⟨rfl, rfl⟩ p hp
    rw [hl, List.take_length]
    exact q p hp
theorem sc_is_less : FnScope ["a", "b"] ["a", "b"] (defScope (top 9)) := ⟨rfl, rfl, rfl, by decide +kernel, rfl, by decide +kernel, by decide +kernel⟩
set_option maxHeartbeats 4000000 in
theorem ok_is_less {f : Addr} {fd : FuncData} (F : Fun K "is_less" "is_less" (top 9) f fd) (hT : P.given.tree = none) :
    FnOk P w K mg base CX0 33 f fd ["a", "b"] (spLess K) := by
  refine F.ok sc_is_less (fun vs H Q E h => ?_) (fun cdv A outer s H vs Q E hr h => ?_)
  · obtain ⟨_, _, _, _, _, _, rfl, _⟩ := h; rfl
  refine ⟨_, (pss_one (ps_ret (pe_cmpR op_lt (pe_op op_mulC (pe_ix (ixT K) (pv 0) pe_int (fun _ _ => rfl)) (pe_ix (ixT K) (pv 1) pe_int (fun _ _ => rfl))) (pe_op op_mulC (pe_ix (ixT K) (pv 1) pe_int (fun _ _ => rfl)) (pe_ix (ixT K) (pv 0) pe_int (fun _ _ => rfl))) (nomark _)))), ?_⟩
  refine absG fun GG kG => ?_
  obtain ⟨x, y, p, q, m, n, rfl, ⟨r, rfl, hr'⟩, ⟨u, rfl, hu⟩, hp, hq, hmn, k⟩ := h
  refine kG ?_
  clear kG GG
  refine ⟨_, rfl, r, _, _, _, rfl, rfl, hr', rfl, _, rfl, u, _, _, _, rfl, rfl, hu, rfl, _, _, rfl, rfl, MulC.bd hp.1 hq.2, ?_⟩
  refine ⟨_, rfl, u, _, _, _, rfl, rfl, hu, rfl, _, rfl, r, _, _, _, rfl, rfl, hr', rfl, _, _, rfl, rfl, MulC.bd hq.1 hp.2, _, _, rfl, rfl, ?_⟩
  have e := less_eq p q
  show Q (.bl (decide (p.num * q.den < q.num * p.den))) H
  rw [e]
  exact k
theorem sc_curve_of : FnScope ["numbers", "width"] ["numbers"] (defScope (top 12)) := ⟨rfl, rfl, rfl, by decide +kernel, rfl, by decide +kernel, by decide +kernel⟩
set_option maxHeartbeats 4000000 in
theorem ok_curve_of {f : Addr} {fd : FuncData} (F : Fun K "curve_of" "curve_of" (top 12) f fd) (b_len : mg "len" = none) (b_tuple : mg "tuple" = none) {a_NOUGHT : Addr} (c_NOUGHT : mg "NOUGHT" = some (.ref a_NOUGHT)) (n_NOUGHT : ∀ H : Hp, NumV K H (.ref a_NOUGHT) (0)) (hT : P.given.tree = none) :
    FnOk P w K mg base CX0 33 f fd ["numbers"] (spCurveOf K) := by
  refine F.ok sc_curve_of (fun vs H Q E h => ?_) (fun cdv A outer s H vs Q E hr h => ?_)
  · obtain ⟨_, _, _, rfl, _⟩ := h; rfl
  refine ⟨_, (pss_cons (ps_set (i := 1) sc_curve_of.nd rfl (Or.inl rfl) (pe_callB (lenK K) rfl b_len bt_len (pa_cons (pv 0) pa_nil)))
    (pss_cons (ps_while PassesOwn.never (PW.pt (pw_and (pt_cmpR op_gt (pv 1) pe_int (nomark _)) (pw_and1 (pt_cmpR (eqD K hr.units) (pe_ix (ixL K) (pv 0) (pe_op op_sub (pv 1) pe_int) (fun _ _ => rfl)) (pe_glob (v := .ref a_NOUGHT) rfl c_NOUGHT rfl) (nomark _))))) (pss_one (ps_set (i := 1) sc_curve_of.nd rfl (Or.inl rfl) (pe_op op_sub (pv 1) pe_int))))
    (pss_one (ps_ret (pe_callTy (tupleK K) rfl b_tuple bt_tuple (pa_cons (pe_slice (slL K) (pv 0) po_none (po_some (pv 1))) pa_nil)))))), ?_⟩
  refine absG fun GG kG => ?_
  obtain ⟨r, xs, qs, rfl, hS, hn, hz, q⟩ := h
  refine kG ?_
  clear kG GG
  have hl := hn.length
  refine ⟨_, rfl, r, xs, rfl, .inl hS, ?_⟩
  refine wh_by (fun σ H' => H' = H ∧ ∃ (v : Nat), σ = [some (.ref r), some (.int (v : Int))] ∧ v ≤ qs.length ∧ ∀ j q, v ≤ j → qs[j]? = some q → q = 0) (fun σ _ => mu 1 σ) ⟨rfl, qs.length, by rw [← hl]; rfl, Nat.le_refl _, fun j q hj e => absurd (List.getElem?_eq_some_iff.mp e).1 (by omega)⟩ ?_
  rintro σ H' hR2
  refine absG fun GG kG => ?_
  obtain ⟨rfl, v, rfl, hv, hall⟩ := hR2
  refine kG ?_
  clear kG GG
  have fin : (v = 0 ∨ ∃ q, qs[v - 1]? = some q ∧ q ≠ 0) → ∀ p, H' p = none → ∀ p', upd H' p (.lst (cutV xs none (some (v : Int)))) p' = none → Q (.ref p') (upd (upd H' p (.lst (cutV xs none (some (v : Int))))) p' (.tup (cutV xs none (some (v : Int))))) := fun hc p hp p' hp' => by
    have e : cutV xs none (some (v : Int)) = xs.take v := by
      unfold cutV
      have e1 : HT.sIx xs.length 0 none = 0 := rfl
      have e2 : HT.sIx xs.length xs.length (some (v : Int)) = min v xs.length := HT.sIx_nat _ _ v
      rw [e1, e2, List.drop_zero, Nat.sub_zero]
      apply List.ext_getElem?
      intro i
      rw [List.getElem?_take, List.getElem?_take]
      split <;> split <;> first | rfl | omega | (rename_i h1 h2; exact (List.getElem?_eq_none (by omega)).symm) | (rename_i h1 h2; exact List.getElem?_eq_none (by omega))
    have sm : Same H' (upd (upd H' p (.lst (cutV xs none (some (v : Int))))) p' (.tup (cutV xs none (some (v : Int))))) := (Same.new hp).trans (Same.new hp')
    refine q p' _ sm ⟨xs.take v, SqT.of (by rw [e]; exact upd_same), ?_⟩
    rw [← Cv.take_strip qs v hall hc]
    exact Paired.take v (Nums.same hn sm)
  refine ⟨_, rfl, _, _, rfl, rfl, _, rfl, ?_⟩
  by_cases hv0 : v = 0
  · subst hv0
    refine iteF (iteF ?_)
    exact ⟨_, rfl, _, rfl, _, rfl, r, xs, rfl, hS, fun p hp => ⟨p, _, rfl, .inl ⟨SqL.of upd_same, fun p' hp' => fin (.inl rfl) p hp p' hp'⟩⟩⟩
  · rw [decide_eq_true (show (0 : Int) < (v : Int) by omega)]
    refine iteT ?_
    have hvi : v - 1 < qs.length := by omega
    have hq : qs[v - 1]? = some qs[v - 1] := List.getElem?_eq_getElem hvi
    refine absG fun GG kG => ?_
    obtain ⟨x, hx, hxn⟩ := Paired.get' hn hq
    refine kG ?_
    clear kG GG
    have hat : atI xs ((v : Int) - 1) = some x := by
      rw [show (v : Int) - 1 = ((v - 1 : Nat) : Int) by omega]
      exact atI_nat hx
    refine ⟨_, rfl, _, rfl, _, _, rfl, rfl, r, xs, _, x, rfl, rfl, hS, hat, ?_⟩
    refine eqN hxn (n_NOUGHT _) ?_
    refine ⟨_, rfl, ?_⟩
    by_cases hq0 : qs[v - 1] = 0
    · rw [decide_eq_true hq0]
      refine iteT (wh_go ?_)
      refine ⟨_, rfl, _, _, rfl, rfl, ⟨rfl, v - 1, ?_, by omega, fun j q' hj e => ?_⟩, ?_⟩
      · show [some (V.ref r), some (V.int ((v : Int) - 1))] = [some (V.ref r), some (V.int ((v - 1 : Nat) : Int))]
        rw [show (v : Int) - 1 = ((v - 1 : Nat) : Int) by omega]
      · by_cases hjv : v ≤ j
        · exact hall j q' hjv e
        · have : j = v - 1 := by omega
          subst this
          rw [hq] at e
          cases e
          exact hq0
      · show ((v : Int) - 1).toNat < (v : Int).toNat
        omega
    · rw [decide_eq_false hq0]
      refine iteF ?_
      exact ⟨_, rfl, _, rfl, _, rfl, r, xs, rfl, hS, fun p hp => ⟨p, _, rfl, .inl ⟨SqL.of upd_same, fun p' hp' => fin (.inr ⟨_, hq, hq0⟩) p hp p' hp'⟩⟩⟩
theorem sc_curve_over : FnScope ["tops", "bottom"] ["tops", "bottom"] (defScope (top 15)) := ⟨rfl, rfl, rfl, by decide +kernel, rfl, by decide +kernel, by decide +kernel⟩
set_option maxHeartbeats 4000000 in
theorem ok_curve_over {f : Addr} {fd : FuncData} (F : Fun K "curve_over" "curve_over" (top 15) f fd) (F_curve_of : Fd P w K mg base 33 "curve_of" ["numbers"] (spCurveOf K)) (F_number_of : Fd P w K mg base 34 "number_of" ["top", "bottom"] (spLow)) (hT : P.given.tree = none) :
    FnOk P w K mg base CX0 35 f fd ["tops", "bottom"] (spCurveOver K) := by
  refine F.ok sc_curve_over (fun vs H Q E h => ?_) (fun cdv A outer s H vs Q E hr h => ?_)
  · obtain ⟨_, _, _, rfl, _⟩ := h; rfl
  refine ⟨_, (pss_one (ps_ret (pe_fn F_curve_of hr rfl (pa_cons (pe_lc rfl (N := ["top", "bottom"]) (nt := 1) (js := [1]) (CompOk.look (NX := ["tops", "bottom"]) (sc := defScope (top 15)) rfl rfl (by decide +kernel)) (piS K (pv 0)) (fun _ _ _ _ _ => (pg_name (i := 0) (show List.Nodup (["top", "bottom"] : List Str) from by decide +kernel) rfl (Or.inl rfl))) (stays_name (by decide)) (fun _ _ _ _ _ => pts_nil) (fun _ _ _ _ _ => (pe_fn F_number_of hr rfl (pa_cons (pv 0) (pa_cons (pv 1) pa_nil))))) pa_nil)))), ?_⟩
  refine absG fun GG kG => ?_
  obtain ⟨l, ts, b, rfl, hS, hb, hz, q⟩ := h
  refine kG ?_
  clear kG GG
  have ll : (ts.map V.int).length = ts.length := List.length_map _
  refine lc_seq (b := true) (a := l) (xs := ts.map V.int) rfl (fun i zs H' => Same H H' ∧ zs.length = i ∧ Nums K H' zs ((ts.take i).map fun t => Rat.divInt t b)) ⟨Same.refl _, rfl, .nil⟩ (fun i zs H' _ p => ⟨Same.seq p.1 hS, p.2.1⟩) (by rw [ll]; exact Nat.le_of_lt (small1000 hz)) ?_ ?_
  · rintro i x zs H' hx hR2
    refine absG fun GG kG => ?_
    obtain ⟨sm, hl, hn⟩ := hR2
    refine kG ?_
    clear kG GG
    rw [List.getElem?_map] at hx
    cases et : ts[i]? with
    | none => rw [et] at hx; cases hx
    | some t =>
      rw [et] at hx
      cases hx
      refine ⟨_, rfl, _, rfl, t, b, rfl, hb, fun p hp => ⟨sm.trans (Same.new hp), by simp [hl], ?_⟩⟩
      rw [List.take_add_one, et, List.map_append]
      exact Paired.snoc (Nums.same hn (Same.new hp)) (NumV.of upd_same)
  · rintro zs H' hR3 p hp
    refine absG fun GG kG => ?_
    obtain ⟨sm, hl, hn⟩ := hR3
    refine kG ?_
    clear kG GG
    rw [ll, List.take_length] at hn
    refine ⟨p, zs, _, rfl, SqL.of upd_same, Nums.same hn (Same.new hp), by rw [List.length_map]; exact hz, fun r H2 s2 c => q r H2 ((sm.trans (Same.new hp)).trans s2) c⟩
theorem sc_whole_product : FnScope ["first", "second", "product", "k", "j"] ["first", "second"] (defScope (top 16)) := ⟨rfl, rfl, rfl, by decide +kernel, rfl, by decide +kernel, by decide +kernel⟩
set_option maxHeartbeats 4000000 in
theorem ok_whole_product {f : Addr} {fd : FuncData} (F : Fun K "whole_product" "whole_product" (top 16) f fd) (b_range : mg "range" = none) (b_len : mg "len" = none) (hT : P.given.tree = none) :
    FnOk P w K mg base CX0 33 f fd ["first", "second"] (spProd K) := by
  refine F.ok sc_whole_product (fun vs H Q E h => ?_) (fun cdv A outer s H vs Q E hr h => ?_)
  · obtain ⟨_, _, _, _, _, _, rfl, _⟩ := h; rfl
  refine ⟨_, (pss_cons (ps_set (i := 2) sc_whole_product.nd rfl (Or.inl rfl) (pe_op op_rep (pe_lst (pa_cons pe_int pa_nil)) (pe_op op_sub (pe_op op_add (pe_callB (lenK K) rfl b_len bt_len (pa_cons (pv 0) pa_nil)) (pe_callB (lenK K) rfl b_len bt_len (pa_cons (pv 1) pa_nil))) pe_int)))
    (pss_cons (ps_for PassesOwn.never rfl (pi_range1 rfl b_range (pa_cons (pe_callB (lenK K) rfl b_len bt_len (pa_cons (pv 0) pa_nil)) pa_nil)) (pg_name (i := 3) sc_whole_product.nd rfl (Or.inl rfl)) (pss_one (ps_for PassesOwn.never rfl (pi_range1 rfl b_range (pa_cons (pe_callB (lenK K) rfl b_len bt_len (pa_cons (pv 1) pa_nil)) pa_nil)) (pg_name (i := 4) sc_whole_product.nd rfl (Or.inl rfl)) (pss_one (ps_asg (pe_op op_add (pe_ix (ixL K) (pv 2) (pe_op op_add (pv 3) (pv 4)) (fun _ _ => rfl)) (pe_op op_mulC (pe_ix (ixL K) (pv 0) (pv 3) (fun _ _ => rfl)) (pe_ix (ixL K) (pv 1) (pv 4) (fun _ _ => rfl)))) (pg_sub (pv 2) (pe_op op_add (pv 3) (pv 4)) set_list))))))
    (pss_one (ps_ret (pv 2))))), ?_⟩
  refine absG fun GG kG => ?_
  obtain ⟨f, g, fs, gs, m, n, rfl, hf, hg, hg1, hf1000, hg1000, hbf, hbg, hmn, q⟩ := h
  refine kG ?_
  clear kG GG
  have lf : (fs.map V.int).length = fs.length := List.length_map _
  have lg : (gs.map V.int).length = gs.length := List.length_map _
  have P1 : 1 ≤ sizeLine := by decide
  have hfg : fs.length * gs.length ≤ 1000 * 1000 := Nat.mul_le_mul hf1000 hg1000
  refine ⟨P1, fun o ho => ?_⟩
  have hf0 : SqL K (upd H o (.lst [.int 0])) f (fs.map V.int) := sq_new hf ho
  have hg0 : SqL K (upd H o (.lst [.int 0])) g (gs.map V.int) := sq_new hg ho
  refine ⟨_, rfl, f, _, rfl, .inl hf0, _, rfl, g, _, rfl, .inl hg0, _, _, rfl, rfl, _, _, rfl, rfl, o, _, _, rfl, rfl, upd_same, ?_, ?_, ?_, fun p hp => ?_⟩
  · rw [lf, lg]; omega
  · rw [lf, lg]; omega
  · show 1 * (((fs.map V.int).length : Int) + ((gs.map V.int).length : Int) - 1).toNat ≤ sizeLine
    rw [lf, lg, Nat.one_mul]
    exact Nat.le_trans (by omega) (by decide : 2000 ≤ sizeLine)
  have hpH : H p = none := by
    cases z : H p with
    | none => rfl
    | some u => rw [(Same.new ho) p u z] at hp; cases hp
  have eL : (((fs.map V.int).length : Int) + ((gs.map V.int).length : Int) - 1).toNat = fs.length + gs.length - 1 := by rw [lf, lg]; omega
  rw [eL]
  have s0 : Same H (upd (upd H o (.lst [.int 0])) p (.lst (List.replicate (fs.length + gs.length - 1) [V.int 0]).flatten)) := (Same.new ho).trans (Same.new hp)
  have e0 : (List.replicate (fs.length + gs.length - 1) [V.int 0]).flatten = (List.replicate (fs.length + gs.length - 1) (0 : Int)).map V.int := by rw [List.flatten_replicate_singleton, List.map_replicate]
  rw [e0] at s0 ⊢
  refine ⟨_, rfl, f, _, rfl, .inl (Same.seq s0 hf), _, rfl, by rw [lf]; omega, by rw [lf]; omega, ?_⟩
  rw [lf, Int.toNat_natCast]
  refine for_range (n := fs.length) (fun i σ H' => Same H H' ∧ ∃ (ps : List Int) (z3 z4 : Option V), σ = [some (.ref f), some (.ref g), some (.ref p), z3, z4] ∧ H' p = some (.lst (ps.map V.int)) ∧ ps.length = fs.length + gs.length - 1 ∧ (∀ x, Cv.evI ps x = Cv.evI (fs.take i) x * Cv.evI gs x) ∧ ∀ t ∈ ps, Up (i * gs.length) (m + n) t)
    ⟨s0, _, none, none, rfl, upd_same, List.length_replicate, fun x => ?_, fun t ht => ?_⟩ ?_ ?_
  · rw [Cv.evI_zeros, List.take_zero]
    show (0 : Rat) = 0 * _
    grind
  · rw [(List.mem_replicate.mp ht).2]; exact Nat.zero_le _
  · rintro i σ H' hi hR2
    refine absG fun GG kG => ?_
    obtain ⟨sm, ps, z3, z4, rfl, ep, hpl, hev, hup⟩ := hR2
    refine kG ?_
    clear kG GG
    have hfi : fs[i]? = some fs[i] := List.getElem?_eq_getElem hi
    refine ⟨_, rfl, g, _, rfl, .inl (Same.seq sm hg), _, rfl, by rw [lg]; omega, by rw [lg]; omega, ?_⟩
    rw [lg, Int.toNat_natCast]
    refine for_range (n := gs.length) (fun j σ H' => Same H H' ∧ ∃ (ps : List Int) (z4 : Option V), σ = [some (.ref f), some (.ref g), some (.ref p), some (.int (0 + (i : Int))), z4] ∧ H' p = some (.lst (ps.map V.int)) ∧ ps.length = fs.length + gs.length - 1 ∧ (∀ x, Cv.evI ps x = Cv.evI (fs.take i) x * Cv.evI gs x + (fs[i] : Rat) * x ^ i * Cv.evI (gs.take j) x) ∧ ∀ t ∈ ps, Up (i * gs.length + j) (m + n) t)
      ⟨sm, ps, z4, rfl, ep, hpl, fun x => ?_, hup⟩ ?_ ?_
    · rw [hev x, List.take_zero]
      show _ = _ + _ * (0 : Rat)
      grind
    · rintro j σ H2 hj hR3
      refine absG fun GG kG => ?_
      obtain ⟨sm2, ps2, z4', rfl, ep2, hpl2, hev2, hup2⟩ := hR3
      refine kG ?_
      clear kG GG
      have hgj : gs[j]? = some gs[j] := List.getElem?_eq_getElem hj
      have hij : i + j < ps2.length := by omega
      have hpj : ps2[i + j]? = some ps2[i + j] := List.getElem?_eq_getElem hij
      have bm : MulC fs[i] gs[j] := MulC.bd (hbf _ (List.getElem_mem hi)) (hbg _ (List.getElem_mem hj)) (by omega)
      refine ⟨_, rfl, _, rfl, _, rfl, _, _, rfl, rfl, p, _, _, _, rfl, rfl, SqL.of ep2, at_plus hpj (by omega), _, rfl, _, rfl, f, _, _, _, rfl, rfl, Same.seq sm2 hf, at_plus hfi (by omega), _, rfl, _, rfl, g, _, _, _, rfl, rfl, Same.seq sm2 hg, at_plus hgj (by omega), _, _, rfl, rfl, bm, _, _, rfl, rfl, ?_⟩
      refine ⟨_, rfl, _, rfl, _, rfl, _, _, rfl, rfl, p, _, _, i + j, rfl, rfl, ep2, ixN_plus (by rw [List.length_map]; exact hij) (by omega), ?_⟩
      refine ⟨sm2.put hpH, ps2.set (i + j) (ps2[i + j] + fs[i] * gs[j]), _, rfl, ?_, by rw [List.length_set]; exact hpl2, fun x => ?_, fun t ht => ?_⟩
      · rw [upd_same, List.map_set]
      · rw [Cv.evI_set x ps2 (i + j) _ _ hpj, hev2 x, Cv.evI_take_succ x gs j _ hgj, Rat.intCast_mul, Nm.pow_add]
        grind
      · rcases List.mem_or_eq_of_mem_set ht with z | z
        · exact (hup2 t z).mono (by omega)
        · subst z
          exact (hup2 _ (List.getElem_mem hij)).add ((hbf _ (List.getElem_mem hi)).mul (hbg _ (List.getElem_mem hj)))
    · rintro σ H2 hR4
      refine absG fun GG kG => ?_
      obtain ⟨sm2, ps2, z4', rfl, ep2, hpl2, hev2, hup2⟩ := hR4
      refine kG ?_
      clear kG GG
      refine ⟨sm2, ps2, _, _, rfl, ep2, hpl2, fun x => ?_, fun t ht => ?_⟩
      · rw [hev2 x, List.take_length, Cv.evI_take_succ x fs i _ hfi]
        grind
      · have := hup2 t ht
        rw [Nat.add_mul, Nat.one_mul]
        exact this
  · rintro σ H' hR5
    refine absG fun GG kG => ?_
    obtain ⟨sm, ps, z3, z4, rfl, ep, hpl, hev, hup⟩ := hR5
    refine kG ?_
    clear kG GG
    refine ⟨_, rfl, q p H' ps sm hpH ep hpl (fun x => ?_) (fun t ht => ?_)⟩
    · rw [hev x, List.take_length]
    · exact (hup t ht).bd (k := 20) (by omega)
theorem sc_with_line : FnScope ["curve", "a", "b", "under", "line", "bottom", "tops", "scale", "top"] ["curve", "a", "b"] (defScope (top 17)) := ⟨rfl, rfl, rfl, by decide +kernel, rfl, by decide +kernel, by decide +kernel⟩
set_option maxHeartbeats 4000000 in
theorem ok_with_line {f : Addr} {fd : FuncData} (F : Fun K "with_line" "with_line" (top 17) f fd) (F_bottom_of : Fd P w K mg base 34 "bottom_of" ["numbers"] (spBot K)) (F_tops_over : Fd P w K mg base 33 "tops_over" ["numbers", "bottom"] (spTops K)) (F_curve_over : Fd P w K mg base 35 "curve_over" ["tops", "bottom"] (spCurveOver K)) (F_whole_product : Fd P w K mg base 33 "whole_product" ["first", "second"] (spProd K)) (b_reversed : mg "reversed" = none) (hT : P.given.tree = none) :
    FnOk P w K mg base CX0 36 f fd ["curve", "a", "b"] (spLine K) := by
  refine F.ok sc_with_line (fun vs H Q E h => ?_) (fun cdv A outer s H vs Q E hr h => ?_)
  · obtain ⟨_, _, _, _, _, _, _, rfl, _⟩ := h; rfl
  refine ⟨_, (pss_cons (ps_set (i := 3) sc_with_line.nd rfl (Or.inr rfl) (pe_fn F_bottom_of hr rfl (pa_cons (pe_lst (pa_cons (pv 2) (pa_cons (pv 1) pa_nil))) pa_nil)))
    (pss_cons (ps_set (i := 4) sc_with_line.nd rfl (Or.inl rfl) (pe_fn F_tops_over hr rfl (pa_cons (pe_lst (pa_cons (pv 2) (pa_cons (pv 1) pa_nil))) (pa_cons (pv 3) pa_nil))))
    (pss_cons (ps_set (i := 5) sc_with_line.nd rfl (Or.inl rfl) (pe_fn F_bottom_of hr rfl (pa_cons (pv 0) pa_nil)))
    (pss_cons (ps_set (i := 6) sc_with_line.nd rfl (Or.inl rfl) (pe_lst pa_nil))
    (pss_cons (ps_set (i := 7) sc_with_line.nd rfl (Or.inl rfl) pe_int)
    (pss_cons (ps_for PassesOwn.never rfl (piRev K rfl b_reversed (pe_fn F_tops_over hr rfl (pa_cons (pv 0) (pa_cons (pv 5) pa_nil)))) (pg_name (i := 8) sc_with_line.nd rfl (Or.inl rfl)) (pss_cons (ps_set (i := 6) sc_with_line.nd rfl (Or.inl rfl) (pe_fn F_whole_product hr rfl (pa_cons (pv 6) (pa_cons (pv 4) pa_nil))))
    (pss_cons (ps_asg (pe_op op_add (pe_ix (ixL K) (pv 6) pe_int (fun _ _ => rfl)) (pe_op op_mulC (pv 8) (pv 7))) (pg_sub (pv 6) pe_int set_list))
    (pss_one (ps_set (i := 7) sc_with_line.nd rfl (Or.inl rfl) (pe_op op_mulC (pv 7) (pv 3)))))))
    (pss_one (ps_ret (pe_fn F_curve_over hr rfl (pa_cons (pe_lc rfl (N := ["top", "under"]) (nt := 1) (js := [3]) (CompOk.look (NX := ["curve", "a", "b", "under", "line", "bottom", "tops", "scale", "top"]) (sc := defScope (top 17)) rfl rfl (by decide +kernel)) (piS K (pv 6)) (fun _ _ _ _ _ => (pg_name (i := 0) (show List.Nodup (["top", "under"] : List Str) from by decide +kernel) rfl (Or.inl rfl))) (stays_name (by decide)) (fun _ _ _ _ _ => pts_nil) (fun _ _ _ _ _ => (pe_op op_mulC (pv 0) (pv 1)))) (pa_cons (pe_op op_mulC (pv 5) (pv 7)) pa_nil))))))))))), ?_⟩
  refine absG fun GG kG => ?_
  obtain ⟨r, ra, rb, qs, a, b, n, rfl, ⟨xs, hS, hn⟩, ⟨_, era, ha⟩, ⟨_, erb, hb⟩, hB, hba, hbb, hn1, h100, q⟩ := h
  refine kG ?_
  clear kG GG
  cases era
  cases erb
  have hl := hn.length
  have P2 : 2 ≤ sizeLine := by decide
  have bB : ∀ c ∈ [b, a], RB n c := fun c hc => by
    rcases List.mem_cons.mp hc with z | z
    · rw [z]; exact hbb
    · rw [List.mem_singleton.mp z]; exact hba
  have hnq : n * qs.length ≤ 1000 * 100 := Nat.mul_le_mul hn1 h100
  refine ⟨_, rfl, _, rfl, P2, fun l1 h1 => ?_⟩
  have nl1 : Nums K (upd H l1 (.lst [.ref rb, .ref ra])) [.ref rb, .ref ra] [b, a] := .cons ⟨rb, rfl, SqT.same hb (Same.new h1)⟩ (.cons ⟨ra, rfl, SqT.same ha (Same.new h1)⟩ .nil)
  refine ⟨true, l1, _, [b, a], n, rfl, SqL.of upd_same, nl1, (fun c hc => (bB c hc).2), by show n * 4 ≤ _; omega, fun U hU0 hdU hbU => ?_⟩
  have e2n : n * ([b, a] : List Rat).length + 1 = n * 2 + 1 := rfl
  rw [e2n] at hbU
  refine ⟨_, rfl, _, rfl, P2, fun l2 h2 => ?_⟩
  have nl2 : Nums K (upd (upd H l1 (.lst [.ref rb, .ref ra])) l2 (.lst [.ref rb, .ref ra])) [.ref rb, .ref ra] [b, a] := Nums.same nl1 (Same.new h2)
  refine ⟨_, rfl, true, l2, _, [b, a], U, n * 2 + 1, n, rfl, SqL.of upd_same, nl2, hbU, (fun c hc => (bB c hc).1), by omega, (show 2 ≤ 1000 by decide), fun ll h3 => ?_⟩
  have s3 : Same H (upd (upd (upd H l1 (.lst [.ref rb, .ref ra])) l2 (.lst [.ref rb, .ref ra])) ll (.lst (([b, a].map (topOf U)).map V.int))) := ((Same.new h1).trans (Same.new h2)).trans (Same.new h3)
  have ell : (upd (upd (upd H l1 (.lst [.ref rb, .ref ra])) l2 (.lst [.ref rb, .ref ra])) ll (.lst (([b, a].map (topOf U)).map V.int))) ll = some (.lst (([b, a].map (topOf U)).map V.int)) := upd_same
  generalize upd (upd (upd H l1 (.lst [.ref rb, .ref ra])) l2 (.lst [.ref rb, .ref ra])) ll (.lst (([b, a].map (topOf U)).map V.int)) = H3 at s3 ell ⊢
  have hlin : ∀ x, Cv.evI ([b, a].map (topOf U)) x = (a * x + b) * (U : Rat) := fun x => by
    show ((topOf U b : Int) : Rat) + x * (((topOf U a : Int) : Rat) + x * 0) = _
    rw [topOf_rat (hdU b List.mem_cons_self), topOf_rat (hdU a (List.mem_cons_of_mem _ List.mem_cons_self))]
    grind
  have blin : ∀ t ∈ [b, a].map (topOf U), Bd (n * 3 + 1) t := fun t ht => by
    refine absG fun GG kG => ?_
    obtain ⟨c, hc, rfl⟩ := List.mem_map.mp ht
    refine kG ?_
    clear kG GG
    exact ((bB c hc).1.mul (hbU.fdiv (y := c.den))).mono (by omega)
  refine ⟨_, rfl, false, r, xs, qs, n, rfl, SqT.same hS s3, Nums.same hn s3, (fun c hc => (hB c hc).2), by rw [Nat.mul_add]; omega, fun B hB0 hdv hbB => ?_⟩
  refine ⟨(by decide : 0 ≤ sizeLine), fun tp h4 => ?_⟩
  have s4 : Same H (upd H3 tp (.lst [])) := s3.trans (Same.new h4)
  refine ⟨_, rfl, _, rfl, false, r, xs, qs, B, n * qs.length + 1, n, rfl, SqT.same hS s4, Nums.same hn s4, hbB, (fun c hc => (hB c hc).1), by omega, by omega, fun l h5 => ⟨_, rfl, l, _, rfl, SqL.of upd_same, ?_⟩⟩
  have hHl : H l = none := by
    cases z : H l with
    | none => rfl
    | some u => rw [s4 l u z] at h5; cases h5
  have s5 : Same H (upd (upd H3 tp (.lst [])) l (.lst ((qs.map (topOf B)).map V.int))) := s4.trans (Same.new h5)
  have ell5 := (Same.new (o := .lst ((qs.map (topOf B)).map V.int)) h5) _ _ ((Same.new (o := .lst []) h4) _ _ ell)
  have etp5 := (Same.new (o := .lst ((qs.map (topOf B)).map V.int)) h5) _ _ (upd_same (H := H3) (a := tp) (o := .lst []))
  have el5 : (upd (upd H3 tp (.lst [])) l (.lst ((qs.map (topOf B)).map V.int))) l = some (.lst ((qs.map (topOf B)).map V.int)) := upd_same
  have tl : (List.map V.int (qs.map (topOf B))).length = qs.length := by rw [List.length_map, List.length_map]
  have tB : ∀ c ∈ qs, Bd (n * qs.length + n + 1) (topOf B c) := fun c hc => ((hB c hc).1.mul (hbB.fdiv (y := c.den))).mono (by omega)
  generalize hH5 : upd (upd H3 tp (.lst [])) l (.lst ((qs.map (topOf B)).map V.int)) = H5 at s5 ell5 etp5 el5 ⊢
  refine for_rev (fun i σ H' => Same H5 H' ∧ ∃ (tp : Addr) (ts : List Int) (s : Int) (z : Option V), σ = [some (.ref r), some (.ref ra), some (.ref rb), some (.int U), some (.ref ll), some (.int B), some (.ref tp), some (.int s), z] ∧ H' tp = some (.lst (ts.map V.int)) ∧ ts.length = i ∧ s ≠ 0 ∧
    (∀ x, Cv.evI ts x * (U : Rat) = Cv.ev (((qs.map (topOf B)).map fun t : Int => (t : Rat)).drop (qs.length - i)) (a * x + b) * (s : Rat)) ∧ (∀ t ∈ ts, Bd (3 * (n * i) + 22 * i + n * qs.length + 3 * n + 10) t) ∧ Bd (2 * (n * i) + i + 1) s)
    ⟨Same.refl _, tp, [], 1, none, rfl, etp5, rfl, by decide, fun x => ?_, (fun _ h => nomatch h), ?_⟩ (fun i σ H' _ p => SqL.of (p.1 _ _ el5)) ?_ ?_
  · rw [Nat.sub_zero, List.drop_eq_nil_of_le (by rw [List.length_map, List.length_map]; exact Nat.le_refl _)]
    show (0 : Rat) * _ = 0 * _
    grind
  · exact (show Bd 1 1 by unfold Bd; decide).mono (by omega)
  · rintro i v σ H' hi hv hR3
    refine absG fun GG kG => ?_
    obtain ⟨sm, tp', ts, s, z, rfl, etp, htl, hs0, he, hbt, hbs⟩ := hR3
    refine kG ?_
    clear kG GG
    rw [tl] at hi hv
    have hj : qs.length - 1 - i < qs.length := by omega
    rw [List.getElem?_map, List.getElem?_map, List.getElem?_eq_getElem hj] at hv
    cases hv
    have hcm : qs[qs.length - 1 - i] ∈ qs := List.getElem_mem hj
    have bt := tB _ hcm
    have hni : n * i ≤ 1000 * 100 := Nat.mul_le_mul hn1 (by omega)
    have hni1 : n * (i + 1) = n * i + n := by rw [Nat.mul_add, Nat.mul_one]
    refine ⟨_, rfl, _, rfl, tp', ll, ts, [b, a].map (topOf U), 3 * (n * i) + 22 * i + n * qs.length + 3 * n + 10, n * 3 + 1, rfl, SqL.of etp, SqL.of (sm _ _ ell5), (show 1 ≤ 2 by decide), by omega, (show 2 ≤ 1000 by decide), hbt, blin, by omega, fun pr H6 ps s6 hpr epr hpl hpe hpb => ?_⟩
    have hpl' : ps.length = i + 1 := by rw [hpl, htl]; rfl
    have h0 : ps[0]? = some ps[0] := List.getElem?_eq_getElem (by omega)
    have mts : MulC (topOf B qs[qs.length - 1 - i]) s := MulC.bd bt hbs (by omega)
    refine ⟨_, rfl, pr, _, _, _, rfl, rfl, SqL.of epr, at_plus h0 rfl, _, rfl, _, rfl, _, _, rfl, rfl, mts, _, _, rfl, rfl, ?_⟩
    refine ⟨_, rfl, pr, _, _, 0, rfl, rfl, epr, ixN_plus (by rw [List.length_map]; omega) rfl, ?_⟩
    refine ⟨_, rfl, _, rfl, _, _, rfl, rfl, MulC.bd hbs hbU (by omega), ?_⟩
    have sm2 : Same H5 (upd H6 pr (.lst ((ps.map V.int).set 0 (.int (ps[0] + topOf B qs[qs.length - 1 - i] * s))))) := fun bb u zz => by
      have z1 := sm bb u zz
      rw [upd_ne (ne_of_none z1 hpr)]
      exact s6 bb u z1
    refine ⟨sm2, pr, ps.set 0 (ps[0] + topOf B qs[qs.length - 1 - i] * s), s * U, _, rfl, ?_, by rw [List.length_set]; exact hpl', Int.mul_ne_zero hs0 (by omega), fun x => ?_, fun t ht => ?_, ?_⟩
    · rw [upd_same, List.map_set]
    · rw [Cv.evI_set x ps 0 _ _ h0, hpe x, hlin x, Rat.pow_zero]
      have hd : qs.length - i = (qs.length - (i + 1)) + 1 := by omega
      have hlen : qs.length - (i + 1) < ((qs.map (topOf B)).map fun t : Int => (t : Rat)).length := by rw [List.length_map, List.length_map]; omega
      rw [List.drop_eq_getElem_cons hlen, ← hd]
      have hg : ((qs.map (topOf B)).map fun t : Int => (t : Rat))[qs.length - (i + 1)] = ((topOf B qs[qs.length - 1 - i] : Int) : Rat) := by
        rw [List.getElem_map, List.getElem_map]
        congr 3
        omega
      rw [hg]
      have h6 := he x
      show (Cv.evI ts x * ((a * x + b) * (U : Rat)) + ((topOf B qs[qs.length - 1 - i] * s : Int) : Rat) * 1) * (U : Rat) = (_ + (a * x + b) * _) * ((s * U : Int) : Rat)
      rw [Rat.intCast_mul, Rat.intCast_mul]
      grind
    · rcases List.mem_or_eq_of_mem_set ht with zz | zz
      · exact (hpb t zz).mono (by omega)
      · subst zz
        have b1 := (hpb _ (List.getElem_mem (by omega : 0 < ps.length))).mono (n := 3 * (n * i) + 22 * i + n * qs.length + 3 * n + 10 + (n * 3 + 1) + 20) (by omega)
        have b2 := (bt.mul hbs).mono (n := 3 * (n * i) + 22 * i + n * qs.length + 3 * n + 10 + (n * 3 + 1) + 20) (by omega)
        exact (Bd.add b1 b2).mono (by omega)
    · exact (hbs.mul hbU).mono (by omega)
  · rintro σ H' hR4
    refine absG fun GG kG => ?_
    obtain ⟨sm, tp', ts, s, z, rfl, etp, htl, hs0, he, hbt, hbs⟩ := hR4
    refine kG ?_
    clear kG GG
    rw [tl] at htl he hbs hbt
    refine lc_seq (b := true) (a := tp') (xs := ts.map V.int) rfl (fun i zs H2 => H2 = H' ∧ zs = ((ts.take i).map (· * U)).map V.int) ⟨rfl, rfl⟩ (fun i zs H2 hi p => ⟨by rw [p.1]; exact SqL.of etp, by rw [p.2, List.length_map, List.length_map, List.length_take]; rw [List.length_map] at hi; omega⟩) (by rw [List.length_map, htl]; exact Nat.le_of_lt (small1000 (by omega))) ?_ ?_
    · rintro i v zs H2 hv ⟨rfl, rfl⟩
      rw [List.getElem?_map] at hv
      cases et : ts[i]? with
      | none => rw [et] at hv; cases hv
      | some t =>
        rw [et] at hv
        cases hv
        refine ⟨_, rfl, _, rfl, _, _, rfl, rfl, MulC.bd (hbt t (List.mem_of_getElem? et)) hbU (by omega), rfl, ?_⟩
        rw [List.take_add_one, et, List.map_append, List.map_append]
        rfl
    rintro zs H2 ⟨rfl, rfl⟩ p hp
    rw [List.length_map, List.take_length]
    have hb0 : B * s ≠ 0 := Int.mul_ne_zero (by omega) hs0
    refine ⟨_, rfl, _, rfl, _, _, rfl, rfl, MulC.bd hbB hbs (by omega), ?_⟩
    refine ⟨p, ts.map (· * U), B * s, rfl, SqL.of upd_same, hb0, by rw [List.length_map]; omega, fun u H6 s6 c6 => ?_⟩
    refine q u H6 _ ((s5.trans (sm.trans (Same.new hp))).trans s6) c6 (by have := Cv.strip_length ((ts.map (· * U)).map fun t => Rat.divInt t (B * s)); rw [List.length_map, List.length_map] at this; omega) (good_strip _) (fun c hc => ?_) fun x => ?_
    · have hc' := Cv.strip_mem _ c hc
      refine absG fun GG kG => ?_
      obtain ⟨t', ht', rfl⟩ := List.mem_map.mp hc'
      refine kG ?_
      clear kG GG
      refine absG fun GG kG => ?_
      obtain ⟨t, ht, rfl⟩ := List.mem_map.mp ht'
      refine kG ?_
      clear kG GG
      exact RB.div (m := 0) (((hbt t ht).mul hbU).mono (by omega)) ((hbB.mul hbs).mono (by omega)) hb0
    rw [Cv.ev_strip]
    have e : ((ts.map (· * U)).map fun t => Rat.divInt t (B * s)) = (ts.map fun t : Int => (t : Rat)).map (· * ((U : Rat) / ((B * s : Int) : Rat))) := by
      rw [List.map_map, List.map_map]
      refine List.map_congr_left fun t _ => ?_
      show Rat.divInt (t * U) (B * s) = (t : Rat) * ((U : Rat) / ((B * s : Int) : Rat))
      rw [Rat.divInt_eq_div, Rat.intCast_mul, Rat.div_def, Rat.div_def]
      grind
    rw [e, Cv.ev_scale]
    have h7 := he x
    rw [Nat.sub_self, List.drop_zero, tops_ev hdv] at h7
    show Cv.evI ts x * _ = _
    have hne : ((B * s : Int) : Rat) ≠ 0 := Nm.cast_ne hb0
    have hc : ((B * s : Int) : Rat) = (B : Rat) * (s : Rat) := Rat.intCast_mul ..
    have h8 : ((B * s : Int) : Rat) * ((B * s : Int) : Rat)⁻¹ = 1 := Rat.mul_inv_cancel _ hne
    rw [Rat.div_def, ← Rat.mul_assoc, h7, Rat.mul_assoc (Cv.ev qs (a * x + b)), ← hc, Rat.mul_assoc, h8, Rat.mul_one]
theorem sc_minus : FnScope ["a", "b"] ["a", "b"] (defScope (top 7)) := ⟨rfl, rfl, rfl, by decide +kernel, rfl, by decide +kernel, by decide +kernel⟩
set_option maxHeartbeats 4000000 in
theorem ok_minus {f : Addr} {fd : FuncData} (F : Fun K "minus" "minus" (top 7) f fd) (F_number_of : Fd P w K mg base 34 "number_of" ["top", "bottom"] (spLow)) (hT : P.given.tree = none) :
    FnOk P w K mg base CX0 35 f fd ["a", "b"] (spBin K (· - ·)) := by
  refine F.ok sc_minus (fun vs H Q E h => ?_) (fun cdv A outer s H vs Q E hr h => ?_)
  · obtain ⟨_, _, _, _, _, _, rfl, _⟩ := h; rfl
  refine ⟨_, (pss_one (ps_ret (pe_fn F_number_of hr rfl (pa_cons (pe_op op_sub (pe_op op_mulC (pe_ix (ixT K) (pv 0) pe_int (fun _ _ => rfl)) (pe_ix (ixT K) (pv 1) pe_int (fun _ _ => rfl))) (pe_op op_mulC (pe_ix (ixT K) (pv 1) pe_int (fun _ _ => rfl)) (pe_ix (ixT K) (pv 0) pe_int (fun _ _ => rfl)))) (pa_cons (pe_op op_mulC (pe_ix (ixT K) (pv 0) pe_int (fun _ _ => rfl)) (pe_ix (ixT K) (pv 1) pe_int (fun _ _ => rfl))) pa_nil))))), ?_⟩
  refine absG fun GG kG => ?_
  obtain ⟨x, y, p, q, m, n, rfl, ⟨r, rfl, hr⟩, ⟨u, rfl, hu⟩, hp, hq, hmn, k⟩ := h
  refine kG ?_
  clear kG GG
  refine ⟨_, rfl, r, _, _, _, rfl, rfl, hr, rfl, _, rfl, u, _, _, _, rfl, rfl, hu, rfl, _, _, rfl, rfl, MulC.bd hp.1 hq.2, _, rfl, u, _, _, _, rfl, rfl, hu, rfl, _, rfl, r, _, _, _, rfl, rfl, hr, rfl, _, _, rfl, rfl, MulC.bd hq.1 hp.2, _, _, rfl, rfl, ?_⟩
  refine ⟨_, rfl, r, _, _, _, rfl, rfl, hr, rfl, _, rfl, u, _, _, _, rfl, rfl, hu, rfl, _, _, rfl, rfl, MulC.bd hp.2 hq.2, ?_⟩
  refine ⟨_, _, rfl, Int.mul_ne_zero (Nm.den_ne p) (Nm.den_ne q), fun z hz => ?_⟩
  have e := k z hz
  dsimp only at e
  rw [← Nm.minus_eq] at e
  exact e
theorem sc_heights_of : FnScope ["curve", "low", "high", "parts", "bottom", "row", "heights"] ["curve", "low", "high"] (defScope (top 22)) := ⟨rfl, rfl, rfl, by decide +kernel, rfl, by decide +kernel, by decide +kernel⟩
set_option maxHeartbeats 4000000 in
theorem ok_heights_of {f : Addr} {fd : FuncData} (F : Fun K "heights_of" "heights_of" (top 22) f fd) (F_parts_along : Fd P w K mg base 36 "parts_along" ["along"] (spParts K)) (F_bottom_of : Fd P w K mg base 34 "bottom_of" ["numbers"] (spBot K)) (F_tops_over : Fd P w K mg base 33 "tops_over" ["numbers", "bottom"] (spTops K)) (F_is_less : Fd P w K mg base 33 "is_less" ["a", "b"] (spLess K)) (F_with_line : Fd P w K mg base 36 "with_line" ["curve", "a", "b"] (spLine K)) (F_minus : Fd P w K mg base 35 "minus" ["a", "b"] (spBin K (· - ·))) (F_number_of : Fd P w K mg base 34 "number_of" ["top", "bottom"] (spLow)) (b_len : mg "len" = none) (b_range : mg "range" = none) {a_NOUGHT : Addr} (c_NOUGHT : mg "NOUGHT" = some (.ref a_NOUGHT)) (n_NOUGHT : ∀ H : Hp, NumV K H (.ref a_NOUGHT) (0)) (hT : P.given.tree = none) :
    FnOk P w K mg base CX0 37 f fd ["curve", "low", "high"] (spHts K) := by
  refine F.ok sc_heights_of (fun vs H Q E h => ?_) (fun cdv A outer s H vs Q E hr h => ?_)
  · obtain ⟨_, _, _, _, _, _, _, rfl, _⟩ := h; rfl
  refine ⟨_, (pss_cons (ps_if (pt_not (pt_val (pe_fn F_is_less hr rfl (pa_cons (pv 1) (pa_cons (pv 2) pa_nil))))) (pss_one ps_never) pss_nil)
    (pss_cons (ps_if (pt_cmpR op_eq (pe_callB (lenK K) rfl b_len bt_len (pa_cons (pv 0) pa_nil)) pe_int (nomark _)) (pss_one (ps_ret (pe_lst (pa_cons (pe_glob (v := .ref a_NOUGHT) rfl c_NOUGHT rfl) pa_nil)))) pss_nil)
    (pss_cons (ps_set (i := 3) sc_heights_of.nd rfl (Or.inl rfl) (pe_fn F_parts_along hr rfl (pa_cons (pe_fn F_with_line hr rfl (pa_cons (pv 0) (pa_cons (pe_fn F_minus hr rfl (pa_cons (pv 2) (pa_cons (pv 1) pa_nil))) (pa_cons (pv 1) pa_nil)))) pa_nil)))
    (pss_cons (ps_set (i := 4) sc_heights_of.nd rfl (Or.inl rfl) (pe_fn F_bottom_of hr rfl (pa_cons (pv 3) pa_nil)))
    (pss_cons (ps_set (i := 5) sc_heights_of.nd rfl (Or.inr rfl) (pe_fn F_tops_over hr rfl (pa_cons (pv 3) (pa_cons (pv 4) pa_nil))))
    (pss_cons (ps_set (i := 6) sc_heights_of.nd rfl (Or.inl rfl) (pe_lst pa_nil))
    (pss_cons (ps_while PassesOwn.never (pt_cmpR op_gt (pe_callB (lenK K) rfl b_len bt_len (pa_cons (pv 5) pa_nil)) pe_int (nomark _)) (pss_cons (ps_expr (pe_bm PySem.F.plainAttrs_list PySem.F.slot_list_append PySem.F.type_list_append mt_append (pv 6) (pa_cons (pe_fn F_number_of hr rfl (pa_cons (pe_ix (ixL K) (pv 5) pe_int (fun _ _ => rfl)) (pa_cons (pv 4) pa_nil))) pa_nil)))
    (pss_one (ps_set (i := 5) sc_heights_of.nd rfl (Or.inr rfl) (pe_lc rfl (N := ["k", "row"]) (nt := 1) (js := [5]) (CompOk.look (NX := ["curve", "low", "high", "parts", "bottom", "row", "heights"]) (sc := defScope (top 22)) rfl rfl (by decide +kernel)) (pi_range1 rfl b_range (pa_cons (pe_op op_sub (pe_callB (lenK K) rfl b_len bt_len (pa_cons (pv 5) pa_nil)) pe_int) pa_nil)) (fun _ _ _ _ _ => (pg_name (i := 0) (show List.Nodup (["k", "row"] : List Str) from by decide +kernel) rfl (Or.inl rfl))) (stays_name (by decide)) (fun _ _ _ _ _ => pts_nil) (fun _ _ _ _ _ => (pe_op op_add (pe_ix (ixL K) (pv 1) (pv 0) (fun _ _ => rfl)) (pe_ix (ixL K) (pv 1) (pe_op op_add (pv 0) pe_int) (fun _ _ => rfl)))))))))
    (pss_one (ps_ret (pv 6)))))))))), ?_⟩
  refine absG fun GG kG => ?_
  obtain ⟨c, rl, rh, cs, lo, hi, n, rfl, hc, gc, hlo, hhi, hlt, hbc, hbl, hbh, hn, h7, q⟩ := h
  refine kG ?_
  clear kG GG
  have P0 : 0 ≤ sizeLine := by decide
  have P1 : 1 ≤ sizeLine := by decide
  refine ⟨_, rfl, _, rfl, _, _, _, _, n, n, rfl, hlo, hhi, hbl, hbh, by omega, ⟨_, rfl, ?_⟩⟩
  rw [decide_eq_true hlt]
  refine iteF ?_
  refine absG fun GG kG => ?_
  obtain ⟨xs, hS, hcn⟩ := id hc
  refine kG ?_
  clear kG GG
  have hcl := hcn.length
  refine ⟨_, rfl, c, xs, rfl, .inr hS, rfl, _, rfl, ?_⟩
  by_cases hnil : cs = []
  · rw [decide_eq_true (show V.int (xs.length : Int) = V.int 0 by rw [hcl, hnil]; rfl)]
    have e : hts cs lo hi = [0] := by unfold hts; rw [if_pos hnil]
    rw [e] at q
    refine iteT ⟨P1, fun p hp => q p _ [.ref a_NOUGHT] (Same.new hp) hp upd_same (.cons (n_NOUGHT _) .nil) fun c hc => ?_⟩
    rw [List.mem_singleton.mp hc]; exact RB.zero (by decide)
  have hpos : 0 < cs.length := List.length_pos_iff.mpr hnil
  rw [decide_eq_false (show ¬ V.int (xs.length : Int) = V.int 0 from fun z => by have := V.int.inj z; omega)]
  refine iteF ?_
  refine ⟨_, rfl, _, rfl, _, rfl, _, _, _, _, n, n, rfl, hhi, hlo, hbh, hbl, by omega, fun d hd => ?_⟩
  have s1 : Same H (upd H d (nT (hi - lo))) := Same.new hd
  have hdn : NumV K (upd H d (nT (hi - lo))) (.ref d) (hi - lo) := NumV.of upd_same
  generalize upd H d (nT (hi - lo)) = H1 at s1 hdn ⊢
  have hne : hi - lo ≠ 0 := fun z => by
    have e : hi = lo := by grind
    rw [e] at hlt
    exact absurd hlt (Rat.lt_irrefl)
  refine ⟨_, rfl, c, d, rl, cs, hi - lo, lo, 201, rfl, hc.same s1, hdn, hlo.same s1, fun q hq => (hbc q hq).mono (by omega), (hbh.minus hbl).mono (by omega), hbl.mono (by omega), by decide, by omega, fun al H2 rs s2 hal hle hg hb2 hev => ?_⟩
  have ers : rs = compL (hi - lo) lo cs := good_one hg (comp_good hne gc) fun x => by rw [hev x, ev_comp]
  have hrl : rs.length = cs.length := by rw [ers, comp_length]
  have hb7 : ∀ q ∈ rs, RB 7000 q := fun q hq => (hb2 q hq).mono (by omega)
  refine ⟨al, rs, 7000, rfl, hal, by omega, by omega, hb7, by decide, by decide, fun pt H3 zs s3 ept hpt hbp => ?_⟩
  have eh : hts cs lo hi = htsQ rs := by unfold hts; rw [if_neg hnil, ers]
  have pl := partsQ_length rs
  obtain ⟨ps, hps⟩ : ∃ ps, ps = partsQ rs := ⟨_, rfl⟩
  rw [← hps] at hpt hbp pl
  have hpL : ps.length ≤ 7 := by omega
  have hnl : 7022 * ps.length ≤ 7022 * 7 := Nat.mul_le_mul_left _ hpL
  refine ⟨_, rfl, true, pt, zs, ps, 7022, rfl, SqL.of ept, hpt, (fun c hc => (hbp c hc).2), by rw [Nat.mul_add]; omega, fun B hB0 hdv hbB => ?_⟩
  have hB : B ≠ 0 := by omega
  refine ⟨_, rfl, _, rfl, true, pt, zs, ps, B, 7022 * ps.length + 1, 7022, rfl, SqL.of ept, hpt, hbB, (fun c hc => (hbp c hc).1), by omega, by omega, fun r0 hr0 => ?_⟩
  obtain ⟨T, hT'⟩ : ∃ T, T = ps.map (topOf B) := ⟨_, rfl⟩
  rw [← hT']
  have tl : T.length = ps.length := by rw [hT', List.length_map]
  have tB : ∀ t ∈ T, Bd 56300 t := fun t ht => by
    rw [hT'] at ht
    refine absG fun GG kG => ?_
    obtain ⟨c, hc, rfl⟩ := List.mem_map.mp ht
    refine kG ?_
    clear kG GG
    exact ((hbp c hc).1.mul (hbB.fdiv (y := c.den))).mono (by omega)
  have tb : T.map (fun t => Rat.divInt t B) = ps := by rw [hT']; exact topsA hB hdv
  refine ⟨P0, fun p hp => ?_⟩
  have s03 := (s1.trans s2).trans s3
  have er0 : (upd H3 r0 (.lst (T.map V.int))) r0 = some (.lst (T.map V.int)) := upd_same
  have rp : r0 ≠ p := ne_of_none er0 hp
  have s4 : Same H (upd (upd H3 r0 (.lst (T.map V.int))) p (.lst [])) := (s03.trans (Same.new hr0)).trans (Same.new hp)
  have hpH : H p = none := (s03.trans (Same.new (o := .lst (T.map V.int)) hr0)).free hp
  refine wh_by (fun σ H' => Same H H' ∧ ∃ (rr : Addr) (j : Nat) (ys : List V), σ = [some (.ref c), some (.ref rl), some (.ref rh), some (.ref pt), some (.int B), some (.ref rr), some (.ref p)] ∧ rr ≠ p ∧ H' rr = some (.lst ((aIN j T).map V.int)) ∧ H' p = some (.lst ys) ∧ Nums K H' ys ((List.range j).map fun i => Rat.divInt ((aIN i T).getD 0 0) B) ∧ j ≤ T.length) (fun _ H' => match H' p with | some (.lst xs) => 1000 - xs.length | _ => 0)
    ⟨s4, r0, 0, [], rfl, rp, (Same.new hp) _ _ er0, upd_same, .nil, Nat.zero_le _⟩ ?_
  rintro σ H' hR4
  refine absG fun GG kG => ?_
  obtain ⟨sm, rr, j, ys, rfl, rrp, er, ep, hys, hj⟩ := hR4
  refine kG ?_
  clear kG GG
  have hyl : ys.length = j := by rw [hys.length, List.length_map, List.length_range]
  have al' : (aIN j T).length = T.length - j := aI_length T j
  have tb2 := aIN_bd tB j
  generalize hrow : aIN j T = row at er al' tb2
  have rml : (row.map V.int).length = T.length - j := by rw [List.length_map]; exact al'
  refine ⟨_, rfl, rr, _, rfl, .inl (SqL.of er), _, _, rfl, rfl, _, rfl, ?_⟩
  by_cases hjc : j < T.length
  · rw [decide_eq_true (show (0 : Int) < (((row.map V.int).length : Nat) : Int) by omega)]
    refine iteT (wh_go ?_)
    have g0 := getD_someI (l := row) (i := 0) (by omega)
    refine ⟨_, rfl, .inl ⟨rfl, _, SqL.of ep⟩, _, rfl, rr, _, _, _, rfl, rfl, SqL.of er, at_plus g0 rfl, _, rfl, row.getD 0 0, B, rfl, hB, fun u hu => ?_⟩
    have su : Same H' (upd H' u (nT (Rat.divInt (row.getD 0 0) B))) := Same.new hu
    have eu : (upd H' u (nT (Rat.divInt (row.getD 0 0) B))) u = some (nT (Rat.divInt (row.getD 0 0) B)) := upd_same
    generalize upd H' u (nT (Rat.divInt (row.getD 0 0) B)) = Hu at su eu ⊢
    have epu := su _ _ ep
    refine ⟨p, ys, .ref u, rfl, rfl, epu, Nat.lt_of_lt_of_le (show ys.length < 300 by omega) (by decide), ?_⟩
    have sP : Same H (upd Hu p (.lst (ys ++ [.ref u]))) := (sm.trans su).put hpH
    have erP : (upd Hu p (.lst (ys ++ [.ref u]))) rr = some (.lst (row.map V.int)) := by rw [upd_ne rrp]; exact su _ _ er
    have epP : (upd Hu p (.lst (ys ++ [.ref u]))) p = some (.lst (ys ++ [.ref u])) := upd_same
    have hysP : Nums K (upd Hu p (.lst (ys ++ [.ref u]))) (ys ++ [.ref u]) ((List.range (j + 1)).map fun i => Rat.divInt ((aIN i T).getD 0 0) B) := by
      rw [List.range_succ, List.map_append]
      refine Nums.put (Paired.snoc (Nums.same hys su) (NumV.of ?_)) epu
      show Hu u = some (nT (Rat.divInt ((aIN j T).getD 0 0) B))
      rw [hrow]; exact eu
    generalize upd Hu p (.lst (ys ++ [.ref u])) = HP at sP erP epP hysP ⊢
    refine lc_of ⟨_, rfl, rr, _, rfl, .inl (SqL.of erP), _, _, rfl, rfl, _, rfl, by omega, by omega, ?_⟩
    rw [show (((row.map V.int).length : Int) - 1).toNat = row.length - 1 by omega]
    refine lc_itr (fun i zs H2 => H2 = HP ∧ zs = ((List.range i).map fun j => row.getD j 0 + row.getD (j + 1) 0).map V.int) ⟨rfl, rfl⟩ (fun i zs H2 _ h => by rw [h.2, List.length_map, List.length_map, List.length_range]) (Nat.le_of_lt (small1000 (by omega))) ?_ ?_
    · rintro i zs H2 hi ⟨rfl, rfl⟩
      have g1 := getD_someI (l := row) (i := i + 1) (by omega)
      have g0 := getD_someI (l := row) (i := i) (by omega)
      refine ⟨_, rfl, _, rfl, rr, _, _, _, rfl, rfl, SqL.of erP, at_plus g0 (by omega), _, rfl, _, rfl, _, _, rfl, rfl, rr, _, _, _, rfl, rfl, SqL.of erP, at_plus g1 (by omega), _, _, rfl, rfl, rfl, ?_⟩
      rw [List.range_succ, List.map_append, List.map_append]
      rfl
    rintro zs H2 ⟨rfl, rfl⟩ nl hnl
    have np : nl ≠ p := (ne_of_none epP hnl).symm
    have e0 : ((List.range (row.length - 1)).map fun j => row.getD j 0 + row.getD (j + 1) 0) = aIN (j + 1) T := by
      show _ = aI (aIN j T)
      rw [hrow]; rfl
    rw [e0]
    have sn : Same H2 (upd H2 nl (.lst ((aIN (j + 1) T).map V.int))) := Same.new hnl
    refine ⟨⟨sP.trans sn, nl, j + 1, ys ++ [.ref u], rfl, np, upd_same, sn _ _ epP, Nums.same hysP sn, by omega⟩, ?_⟩
    show (match (upd H2 nl (.lst ((aIN (j + 1) T).map V.int))) p with | some (.lst xs) => 1000 - xs.length | _ => 0) < (match H' p with | some (.lst xs) => 1000 - xs.length | _ => 0)
    rw [sn _ _ epP, ep]
    show 1000 - (ys ++ [V.ref u]).length < 1000 - ys.length
    rw [List.length_append, List.length_singleton]
    omega
  · rw [decide_eq_false (show ¬ (0 : Int) < (((row.map V.int).length : Nat) : Int) by omega)]
    have ej : j = T.length := by omega
    have eq : ((List.range j).map fun i => Rat.divInt ((aIN i T).getD 0 0) B) = htsQ rs := by
      unfold htsQ
      rw [ej, tl, pl]
      refine List.map_congr_left fun i _ => ?_
      rw [← hps, ← tb, aQN_map hB, getDA]
    rw [eq] at hys
    rw [eh] at q
    refine iteF ⟨_, rfl, q p H' ys sm hpH ep hys fun c hc => ?_⟩
    rw [← eq] at hc
    refine absG fun GG kG => ?_
    obtain ⟨i, hi, rfl⟩ := List.mem_map.mp hc
    refine kG ?_
    clear kG GG
    have hi' := List.mem_range.mp hi
    have bt : Bd 60000 ((aIN i T).getD 0 0) := by
      rw [List.getD_eq_getElem?_getD]
      cases e : (aIN i T)[0]? with
      | none => exact (show Bd 0 0 by unfold Bd; decide).mono (Nat.zero_le _)
      | some t => exact (aIN_bd tB i t (List.mem_of_getElem? e)).mono (by omega)
    exact RB.div (m := 0) bt (hbB.mono (by omega)) hB
theorem sc_whole_halves : FnScope ["tops", "row", "lower", "upper"] ["tops"] (defScope (top 24)) := ⟨rfl, rfl, rfl, by decide +kernel, rfl, by decide +kernel, by decide +kernel⟩
set_option maxHeartbeats 4000000 in
theorem ok_whole_halves {f : Addr} {fd : FuncData} (F : Fun K "whole_halves" "whole_halves" (top 24) f fd) (b_list : mg "list" = none) (b_len : mg "len" = none) (b_range : mg "range" = none) (hT : P.given.tree = none) :
    FnOk P w K mg base CX0 33 f fd ["tops"] (spWH38 K) := by
  refine F.ok sc_whole_halves (fun vs H Q E h => ?_) (fun cdv A outer s H vs Q E hr h => ?_)
  · obtain ⟨_, _, rfl, _⟩ := h; rfl
  refine ⟨_, (pss_cons (ps_set (i := 1) sc_whole_halves.nd rfl (Or.inr rfl) (pe_callTy (listK K) rfl b_list bt_list (pa_cons (pv 0) pa_nil)))
    (pss_cons (ps_set (i := 2) sc_whole_halves.nd rfl (Or.inl rfl) (pe_lst pa_nil))
    (pss_cons (ps_set (i := 3) sc_whole_halves.nd rfl (Or.inl rfl) (pe_lst pa_nil))
    (pss_cons (ps_while PassesOwn.never (pt_cmpR op_gt (pe_callB (lenK K) rfl b_len bt_len (pa_cons (pv 1) pa_nil)) pe_int (nomark _)) (pss_cons (ps_set (i := 2) sc_whole_halves.nd rfl (Or.inl rfl) (pe_op op_cat (pe_lc rfl (N := ["top"]) (nt := 1) (js := []) (CompOk.look (NX := ["tops", "row", "lower", "upper"]) (sc := defScope (top 24)) rfl rfl (by decide +kernel)) (piL K (pv 2)) (fun _ _ _ _ _ => (pg_name (i := 0) (show List.Nodup (["top"] : List Str) from by decide +kernel) rfl (Or.inl rfl))) (stays_name (by decide)) (fun _ _ _ _ _ => pts_nil) (fun _ _ _ _ _ => (pe_op op_mulC pe_int (pv 0)))) (pe_lst (pa_cons (pe_ix (ixL K) (pv 1) pe_int (fun _ _ => rfl)) pa_nil))))
    (pss_cons (ps_set (i := 3) sc_whole_halves.nd rfl (Or.inl rfl) (pe_op op_cat (pe_lst (pa_cons (pe_ix (ixL K) (pv 1) (pe_un un_neg pe_int) (fun _ _ => rfl)) pa_nil)) (pe_lc rfl (N := ["top"]) (nt := 1) (js := []) (CompOk.look (NX := ["tops", "row", "lower", "upper"]) (sc := defScope (top 24)) rfl rfl (by decide +kernel)) (piL K (pv 3)) (fun _ _ _ _ _ => (pg_name (i := 0) (show List.Nodup (["top"] : List Str) from by decide +kernel) rfl (Or.inl rfl))) (stays_name (by decide)) (fun _ _ _ _ _ => pts_nil) (fun _ _ _ _ _ => (pe_op op_mulC pe_int (pv 0))))))
    (pss_one (ps_set (i := 1) sc_whole_halves.nd rfl (Or.inr rfl) (pe_lc rfl (N := ["k", "row"]) (nt := 1) (js := [1]) (CompOk.look (NX := ["tops", "row", "lower", "upper"]) (sc := defScope (top 24)) rfl rfl (by decide +kernel)) (pi_range1 rfl b_range (pa_cons (pe_op op_sub (pe_callB (lenK K) rfl b_len bt_len (pa_cons (pv 1) pa_nil)) pe_int) pa_nil)) (fun _ _ _ _ _ => (pg_name (i := 0) (show List.Nodup (["k", "row"] : List Str) from by decide +kernel) rfl (Or.inl rfl))) (stays_name (by decide)) (fun _ _ _ _ _ => pts_nil) (fun _ _ _ _ _ => (pe_op op_add (pe_ix (ixL K) (pv 1) (pv 0) (fun _ _ => rfl)) (pe_ix (ixL K) (pv 1) (pe_op op_add (pv 0) pe_int) (fun _ _ => rfl))))))))))
    (pss_one (ps_ret (pe_tup (pa_cons (pv 2) (pa_cons (pv 3) pa_nil))))))))), ?_⟩
  refine absG fun GG kG => ?_
  obtain ⟨l, ts, rfl, hS, h20, q⟩ := h
  refine kG ?_
  clear kG GG
  have P0 : 0 ≤ sizeLine := by decide
  have P1 : 1 ≤ sizeLine := by decide
  have P2 : 2 ≤ sizeLine := by decide
  refine ⟨_, rfl, l, _, rfl, .inl hS, fun rw0 hrw => ⟨P0, fun l0 hl0 => ⟨P0, fun u0 hu0 => ?_⟩⟩⟩
  have s1 := ((Same.new (o := .lst (ts.map V.int)) hrw).trans (Same.new (o := .lst []) hl0)).trans (Same.new (o := .lst []) hu0)
  have er : (upd (upd (upd H rw0 (.lst (ts.map V.int))) l0 (.lst [])) u0 (.lst [])) rw0 = some (.lst (ts.map V.int)) := (Same.new hu0) _ _ ((Same.new hl0) _ _ upd_same)
  have el : (upd (upd (upd H rw0 (.lst (ts.map V.int))) l0 (.lst [])) u0 (.lst [])) l0 = some (.lst []) := (Same.new hu0) _ _ upd_same
  have eu : (upd (upd (upd H rw0 (.lst (ts.map V.int))) l0 (.lst [])) u0 (.lst [])) u0 = some (.lst []) := upd_same
  generalize upd (upd (upd H rw0 (.lst (ts.map V.int))) l0 (.lst [])) u0 (.lst []) = H1 at s1 er el eu ⊢
  refine ⟨fun μ σ H' => Same H H' ∧ ∃ (i : Nat) (r la lb : Addr), σ = [some (.ref l), some (.ref r), some (.ref la), some (.ref lb)] ∧ i ≤ ts.length ∧ μ = ts.length - i ∧ H' r = some (.lst ((L2.aIN i ts).map V.int)) ∧ H' la = some (.lst ((lowI ts i).map V.int)) ∧ H' lb = some (.lst ((upI ts i).map V.int)),
    ⟨_, s1, 0, rw0, l0, u0, rfl, Nat.zero_le _, rfl, er, el, eu⟩, ?_⟩
  rintro μ σ H2 hR2
  refine absG fun GG kG => ?_
  obtain ⟨s2, i, r, la, lb, rfl, hi, rfl, er2, ea2, eb2⟩ := hR2
  refine kG ?_
  clear kG GG
  have hrl := L2.aI_length ts i
  refine ⟨_, rfl, r, _, rfl, .inl (SqL.of er2), _, _, rfl, rfl, _, rfl, ?_⟩
  by_cases hgo : i < ts.length
  · rw [decide_eq_true (show (0 : Int) < (((L2.aIN i ts).map V.int).length : Int) by rw [List.length_map]; omega)]
    refine iteT ⟨_, fun _ _ h => h, ?_⟩
    have g0 : ((L2.aIN i ts).map V.int)[0]? = some (.int ((L2.aIN i ts).getD 0 0)) := by rw [List.getElem?_map, getD_someI (by omega)]; rfl
    have g1 : ((L2.aIN i ts).map V.int)[((L2.aIN i ts).map V.int).length - 1]? = some (.int ((L2.aIN i ts).getD (ts.length - 1 - i) 0)) := by
      rw [List.getElem?_map, List.length_map, getD_someI (by omega), show (L2.aIN i ts).length - 1 = ts.length - 1 - i by omega]; rfl
    have hal : (lowI ts i).length = i := by unfold lowI; rw [List.length_map, List.length_range]
    have hbl : (upI ts i).length = i := by unfold upI; rw [List.length_map, List.length_range]
    have DBL : ∀ (a : Addr) (H : Hp) (ns : List Int), H a = some (.lst (ns.map V.int)) → ns.length ≤ 20 → ∀ (Q : VK) (σ : St) (n : Nat), σ[n]? = some (some (.ref a)) → (∀ p, H p = none → Q (.ref p) (upd H p (.lst ((ns.map fun z => 2 * z).map V.int)))) → tLC (iList K (tVar n)) 1 [] (gName 0) tYes (tOp (rI MulC fun i j => .int (i * j)) (tC (.int 2)) (tVar 0)) σ H Q := fun a H ns e hl Q σ n hσ k => by
      refine lc_of ⟨_, hσ, a, rfl, ⟨_, SqL.of e⟩, ?_⟩
      refine lc_lst (xs := ns.map V.int) (fun i zs H' => H' = H ∧ zs = ((ns.take i).map fun z => 2 * z).map V.int) ⟨rfl, rfl⟩ (fun i zs H' hi h => ⟨by rw [h.1]; exact SqL.of e, by rw [h.2, List.length_map, List.length_map, List.length_take]; rw [List.length_map] at hi; omega⟩) (Nat.le_of_lt (small1000 (by rw [List.length_map]; omega))) ?_ ?_
      · rintro i v zs H' hv ⟨rfl, rfl⟩
        rw [List.getElem?_map] at hv
        cases hz : ns[i]? with
        | none => rw [hz] at hv; simp at hv
        | some z =>
          rw [hz] at hv
          cases hv
          refine ⟨_, rfl, _, _, rfl, rfl, .inl ⟨by decide, by decide⟩, rfl, ?_⟩
          rw [List.take_add_one, hz]
          simp
      · rintro zs H' ⟨rfl, rfl⟩ p hp
        rw [List.length_map, List.take_length]
        exact k p hp
    refine DBL la H2 (lowI ts i) ea2 (by omega) _ _ 2 rfl fun p1 hp1 => ?_
    have sa : Same H2 (upd H2 p1 (.lst (((lowI ts i).map fun z => 2 * z).map V.int))) := Same.new hp1
    refine ⟨_, rfl, r, _, _, _, rfl, rfl, SqL.of (sa _ _ er2), atI_nat (j := 0) g0, P1, fun p2 hp2 => ?_⟩
    have sb := sa.trans (Same.new (o := .lst [.int ((L2.aIN i ts).getD 0 0)]) hp2)
    refine ⟨p1, p2, _, _, rfl, rfl, (Same.new hp2) _ _ upd_same, upd_same, Nat.le_trans (show _ ≤ 300 by rw [List.length_map, List.length_map, hal]; show i + 1 ≤ 300; omega) (by decide), fun p3 hp3 => ?_⟩
    have sc := sb.trans (Same.new (o := .lst (((lowI ts i).map fun z => 2 * z).map V.int ++ [.int ((L2.aIN i ts).getD 0 0)])) hp3)
    have e3 : (upd (upd (upd H2 p1 (.lst (((lowI ts i).map fun z => 2 * z).map V.int))) p2 (.lst [.int ((L2.aIN i ts).getD 0 0)])) p3 (.lst (((lowI ts i).map fun z => 2 * z).map V.int ++ [.int ((L2.aIN i ts).getD 0 0)]))) p3 = some (.lst ((lowI ts (i + 1)).map V.int)) := by
      rw [upd_same, ← lowI_next, List.map_append]; rfl
    generalize upd (upd (upd H2 p1 (.lst (((lowI ts i).map fun z => 2 * z).map V.int))) p2 (.lst [.int ((L2.aIN i ts).getD 0 0)])) p3 (.lst (((lowI ts i).map fun z => 2 * z).map V.int ++ [.int ((L2.aIN i ts).getD 0 0)])) = H3 at sc e3 ⊢
    refine ⟨_, rfl, _, rfl, r, _, _, _, rfl, rfl, SqL.of (sc _ _ er2), atI_back g1, P1, fun p4 hp4 => ?_⟩
    have sd : Same H3 (upd H3 p4 (.lst [.int ((L2.aIN i ts).getD (ts.length - 1 - i) 0)])) := Same.new hp4
    refine DBL lb _ (upI ts i) (sd _ _ (sc _ _ eb2)) (by omega) _ _ 3 rfl fun p5 hp5 => ?_
    have se := sd.trans (Same.new (o := .lst (((upI ts i).map fun z => 2 * z).map V.int)) hp5)
    refine ⟨p4, p5, _, _, rfl, rfl, (Same.new hp5) _ _ upd_same, upd_same, Nat.le_trans (show _ ≤ 300 by rw [List.length_map, List.length_map, hbl]; show 1 + i ≤ 300; omega) (by decide), fun p6 hp6 => ?_⟩
    have sf := se.trans (Same.new (o := .lst ([.int ((L2.aIN i ts).getD (ts.length - 1 - i) 0)] ++ ((upI ts i).map fun z => 2 * z).map V.int)) hp6)
    have e6 : (upd (upd (upd H3 p4 (.lst [.int ((L2.aIN i ts).getD (ts.length - 1 - i) 0)])) p5 (.lst (((upI ts i).map fun z => 2 * z).map V.int))) p6 (.lst ([.int ((L2.aIN i ts).getD (ts.length - 1 - i) 0)] ++ ((upI ts i).map fun z => 2 * z).map V.int))) p6 = some (.lst ((upI ts (i + 1)).map V.int)) := by
      rw [upd_same, ← upI_next, List.map_append]; rfl
    generalize upd (upd (upd H3 p4 (.lst [.int ((L2.aIN i ts).getD (ts.length - 1 - i) 0)])) p5 (.lst (((upI ts i).map fun z => 2 * z).map V.int))) p6 (.lst ([.int ((L2.aIN i ts).getD (ts.length - 1 - i) 0)] ++ ((upI ts i).map fun z => 2 * z).map V.int)) = H4 at sf e6 ⊢
    have s24 := sc.trans sf
    have er4 := s24 _ _ er2
    refine lc_of ⟨_, rfl, r, _, rfl, .inl (SqL.of er4), _, _, rfl, rfl, _, rfl, by rw [List.length_map]; omega, by rw [List.length_map]; omega, ?_⟩
    rw [show ((((L2.aIN i ts).map V.int).length : Int) - 1).toNat = (L2.aIN i ts).length - 1 by rw [List.length_map]; omega]
    refine lc_itr (fun j zs H' => H' = H4 ∧ zs = ((List.range j).map fun j => (L2.aIN i ts).getD j 0 + (L2.aIN i ts).getD (j + 1) 0).map V.int) ⟨rfl, rfl⟩ (fun j zs H' _ h => by rw [h.2, List.length_map, List.length_map, List.length_range]) (Nat.le_of_lt (small1000 (by omega))) ?_ ?_
    · rintro j zs H' hj ⟨rfl, rfl⟩
      have k0 : ((L2.aIN i ts).map V.int)[j]? = some (.int ((L2.aIN i ts).getD j 0)) := by rw [List.getElem?_map, getD_someI (by omega)]; rfl
      have k1 : ((L2.aIN i ts).map V.int)[j + 1]? = some (.int ((L2.aIN i ts).getD (j + 1) 0)) := by rw [List.getElem?_map, getD_someI (by omega)]; rfl
      refine ⟨_, rfl, _, rfl, r, _, _, _, rfl, rfl, SqL.of er4, atV k0 (by omega), _, rfl, _, rfl, _, _, rfl, rfl, r, _, _, _, rfl, rfl, SqL.of er4, atV k1 (by omega), _, _, rfl, rfl, rfl, ?_⟩
      rw [List.range_succ, List.map_append, List.map_append]; rfl
    rintro zs Hq ⟨hq, rfl⟩ p7 hp7
    obtain rfl : H4 = Hq := hq.symm
    have s7 : Same H4 (upd H4 p7 (.lst (((List.range ((L2.aIN i ts).length - 1)).map fun j => (L2.aIN i ts).getD j 0 + (L2.aIN i ts).getD (j + 1) 0).map V.int))) := Same.new hp7
    exact ⟨ts.length - (i + 1), by omega, (s2.trans s24).trans s7, i + 1, p7, p3, p6, rfl, by omega, rfl, upd_same, s7 _ _ (sf _ _ e3), s7 _ _ e6⟩
  · rw [decide_eq_false (show ¬ ((0 : Int) < (((L2.aIN i ts).map V.int).length : Int)) by rw [List.length_map]; omega)]
    refine iteF ?_
    have ei : i = ts.length := by omega
    subst ei
    refine ⟨_, rfl, _, rfl, P2, fun t ht => ?_⟩
    have s3 : Same H2 (upd H2 t (.tup [.ref la, .ref lb])) := Same.new ht
    exact q t la lb _ (s2.trans s3) upd_same (s3 _ _ ea2) (s3 _ _ eb2)
theorem sc_raised : FnScope ["base", "many", "power", "turn"] ["base", "many"] (defScope (top 19)) := ⟨rfl, rfl, rfl, by decide +kernel, rfl, by decide +kernel, by decide +kernel⟩
set_option maxHeartbeats 4000000 in
theorem ok_raised {f : Addr} {fd : FuncData} (F : Fun K "raised" "raised" (top 19) f fd) (b_range : mg "range" = none) (hT : P.given.tree = none) :
    FnOk P w K mg base CX0 33 f fd ["base", "many"] (spRaised) := by
  refine F.ok sc_raised (fun vs H Q E h => ?_) (fun cdv A outer s H vs Q E hr h => ?_)
  · obtain ⟨_, _, _, rfl, _⟩ := h; rfl
  refine ⟨_, (pss_cons (ps_set (i := 2) sc_raised.nd rfl (Or.inl rfl) pe_int)
    (pss_cons (ps_for PassesOwn.never rfl (pi_range1 rfl b_range (pa_cons (pv 1) pa_nil)) (pg_name (i := 3) sc_raised.nd rfl (Or.inl rfl)) (pss_one (ps_set (i := 2) sc_raised.nd rfl (Or.inl rfl) (pe_op op_mulC (pv 2) (pv 0)))))
    (pss_one (ps_ret (pv 2))))), ?_⟩
  refine absG fun GG kG => ?_
  obtain ⟨b, n, L, rfl, hn, hb, hL, q⟩ := h
  refine kG ?_
  clear kG GG
  refine ⟨_, rfl, _, rfl, by omega, by omega, ?_⟩
  rw [Int.toNat_natCast]
  refine for_range (n := n) (fun i σ H' => H' = H ∧ ∃ z, σ = [some (.int b), some (.int n), some (.int (b ^ i)), z]) ⟨rfl, none, by rw [Int.pow_zero]; rfl⟩ ?_ ?_
  · rintro i σ H' hi hR2
    refine absG fun GG kG => ?_
    obtain ⟨rfl, z, rfl⟩ := hR2
    refine kG ?_
    clear kG GG
    have hLi : L * i ≤ 60000 * 1000 := Nat.mul_le_mul hL (by omega)
    exact ⟨_, rfl, _, rfl, _, _, rfl, rfl, MulC.bd (Bd.pow hb i) hb (by omega), rfl, some (.int (0 + (i : Int))), by rw [Int.pow_succ]; rfl⟩
  · rintro σ H' hR3
    refine absG fun GG kG => ?_
    obtain ⟨rfl, z, rfl⟩ := hR3
    refine kG ?_
    clear kG GG
    exact ⟨_, rfl, q⟩
theorem sc_halves_of : FnScope ["some", "bottom", "halves", "scale"] ["some"] (defScope (top 25)) := ⟨rfl, rfl, rfl, by decide +kernel, rfl, by decide +kernel, by decide +kernel⟩
set_option maxHeartbeats 4000000 in
theorem ok_halves_of {f : Addr} {fd : FuncData} (F : Fun K "halves_of" "halves_of" (top 25) f fd) (F_bottom_of : Fd P w K mg base 34 "bottom_of" ["numbers"] (spBot K)) (F_whole_halves : Fd P w K mg base 33 "whole_halves" ["tops"] (spWH38 K)) (F_tops_over : Fd P w K mg base 33 "tops_over" ["numbers", "bottom"] (spTops K)) (F_raised : Fd P w K mg base 33 "raised" ["base", "many"] (spRaised)) (F_number_of : Fd P w K mg base 34 "number_of" ["top", "bottom"] (spLow)) (b_len : mg "len" = none) (hT : P.given.tree = none) :
    FnOk P w K mg base CX0 35 f fd ["some"] (spLH K) := by
  refine F.ok sc_halves_of (fun vs H Q E h => ?_) (fun cdv A outer s H vs Q E hr h => ?_)
  · obtain ⟨_, _, _, _, rfl, _⟩ := h; rfl
  refine ⟨_, (pss_cons (ps_set (i := 1) sc_halves_of.nd rfl (Or.inl rfl) (pe_fn F_bottom_of hr rfl (pa_cons (pv 0) pa_nil)))
    (pss_cons (ps_set (i := 2) sc_halves_of.nd rfl (Or.inl rfl) (pe_fn F_whole_halves hr rfl (pa_cons (pe_fn F_tops_over hr rfl (pa_cons (pv 0) (pa_cons (pv 1) pa_nil))) pa_nil)))
    (pss_cons (ps_set (i := 3) sc_halves_of.nd rfl (Or.inr rfl) (pe_op op_mulC (pv 1) (pe_fn F_raised hr rfl (pa_cons pe_int (pa_cons (pe_op op_sub (pe_callB (lenK K) rfl b_len bt_len (pa_cons (pv 0) pa_nil)) pe_int) pa_nil)))))
    (pss_one (ps_ret (pe_tup (pa_cons (pe_lc rfl (N := ["top", "scale"]) (nt := 1) (js := [3]) (CompOk.look (NX := ["some", "bottom", "halves", "scale"]) (sc := defScope (top 25)) rfl rfl (by decide +kernel)) (piL K (pe_ix (ixT K) (pv 2) pe_int (fun _ _ => rfl))) (fun _ _ _ _ _ => (pg_name (i := 0) (show List.Nodup (["top", "scale"] : List Str) from by decide +kernel) rfl (Or.inl rfl))) (stays_name (by decide)) (fun _ _ _ _ _ => pts_nil) (fun _ _ _ _ _ => (pe_fn F_number_of hr rfl (pa_cons (pv 0) (pa_cons (pv 1) pa_nil))))) (pa_cons (pe_lc rfl (N := ["top", "scale"]) (nt := 1) (js := [3]) (CompOk.look (NX := ["some", "bottom", "halves", "scale"]) (sc := defScope (top 25)) rfl rfl (by decide +kernel)) (piL K (pe_ix (ixT K) (pv 2) pe_int (fun _ _ => rfl))) (fun _ _ _ _ _ => (pg_name (i := 0) (show List.Nodup (["top", "scale"] : List Str) from by decide +kernel) rfl (Or.inl rfl))) (stays_name (by decide)) (fun _ _ _ _ _ => pts_nil) (fun _ _ _ _ _ => (pe_fn F_number_of hr rfl (pa_cons (pv 0) (pa_cons (pv 1) pa_nil))))) pa_nil)))))))), ?_⟩
  refine absG fun GG kG => ?_
  obtain ⟨l, xs, qs, n, rfl, hS, hn, h1, h8, hb, hn1, hn5, q⟩ := h
  refine kG ?_
  clear kG GG
  have P2 : 2 ≤ sizeLine := by decide
  have hl := hn.length
  have hnl : n * (qs.length + 2) ≤ 100000 * 10 := Nat.mul_le_mul hn5 (by omega)
  have hnl' : n * qs.length ≤ 100000 * 8 := Nat.mul_le_mul hn5 (by omega)
  refine ⟨_, rfl, true, l, xs, qs, n, rfl, hS, hn, fun q hq => (hb q hq).2, by omega, fun B hB hdiv hBd => ?_⟩
  have hB0 : B ≠ 0 := by omega
  refine ⟨_, rfl, _, rfl, true, l, xs, qs, B, n * qs.length + 1, n, rfl, hS, hn, hBd, fun q hq => (hb q hq).1, by omega, by omega, fun p hp => ?_⟩
  have s1 : Same H (upd H p (.lst ((qs.map (topOf B)).map V.int))) := Same.new hp
  obtain ⟨ts, hts⟩ : ∃ ts, ts = qs.map (topOf B) := ⟨_, rfl⟩
  have hts' : ∀ j, j < ts.length → ((ts.getD j 0 : Int) : Rat) = qs.getD j 0 * (B : Rat) := fun j hj => by
    rw [hts, List.length_map] at hj
    have g := getD_some hj
    rw [hts, List.getD_eq_getElem?_getD, List.getElem?_map, g]
    exact topOf_rat (hdiv _ (List.mem_of_getElem? g))
  have htl : ts.length = qs.length := by rw [hts, List.length_map]
  rw [← hts] at s1 ⊢
  refine ⟨p, ts, rfl, SqL.of upd_same, by omega, fun t la lb H2 s2 et ea eb => ?_⟩
  have s02 := s1.trans s2
  refine ⟨_, rfl, _, rfl, l, xs, rfl, .inl (Same.seq s02 hS), _, _, rfl, rfl, 2, qs.length - 1, 2, ?_, by omega, by unfold Bd; decide, by decide, ?_⟩
  · show [V.int 2, V.int ((xs.length : Int) - 1)] = [V.int 2, V.int ((qs.length - 1 : Nat) : Int)]
    rw [show ((xs.length : Int) - 1) = ((qs.length - 1 : Nat) : Int) by omega]
  refine ⟨_, _, rfl, rfl, MulC.bd hBd (Bd.pow (L := 2) (b := 2) (by unfold Bd; decide) (qs.length - 1)) (by omega), ?_⟩
  refine lc_of ⟨_, rfl, t, _, _, _, rfl, rfl, SqT.of ((Same.refl H2) _ _ et), rfl, la, rfl, ⟨_, SqL.of ((Same.refl H2) _ _ ea)⟩, ?_⟩
  refine lc_lst (xs := (lowI ts ts.length).map V.int) (fun i zs H' => Same H2 H' ∧ zs.length = i ∧ Nums K H' zs ((lowL qs).take i)) ⟨Same.refl _, rfl, .nil⟩ (fun i zs H' hi h => ⟨SqL.of (h.1 _ _ ((Same.refl H2) _ _ ea)), h.2.1⟩) (Nat.le_of_lt (small1000 (by rw [List.length_map]; unfold lowI; rw [List.length_map, List.length_range]; omega))) ?_ ?_
  · rintro i v zs H' hv hR2
    refine absG fun GG kG => ?_
    obtain ⟨sm, hzl, hzn⟩ := hR2
    refine kG ?_
    clear kG GG
    have hi := (List.getElem?_eq_some_iff.mp hv).1
    rw [List.length_map] at hi
    have hil : i < ts.length := by unfold lowI at hi; rwa [List.length_map, List.length_range] at hi
    rw [List.getElem?_map] at hv
    have hv0 : (lowI ts ts.length)[i]? = some (2 ^ (ts.length - 1 - i) * (L2.aIN i ts).getD 0 0) := by unfold lowI; rw [List.getElem?_map, List.getElem?_range hil]; rfl
    rw [hv0] at hv
    cases hv
    have hq : (lowL qs)[i]? = some ((lowL qs).getD i 0) := getD_some (by rw [lowL_length]; omega)
    refine ⟨_, rfl, _, rfl, 2 ^ (ts.length - 1 - i) * (L2.aIN i ts).getD 0 0, B * 2 ^ (qs.length - 1), rfl, Int.mul_ne_zero hB0 (Int.pow_ne_zero (by decide)), fun p hp => ⟨sm.trans (Same.new hp), by simp [hzl], ?_⟩⟩
    rw [List.take_add_one, hq]
    refine Paired.snoc (Nums.same hzn (Same.new hp)) ?_
    have e : (lowL qs).getD i 0 = Rat.divInt (2 ^ (ts.length - 1 - i) * (L2.aIN i ts).getD 0 0) (B * 2 ^ (qs.length - 1)) := by
      rw [lowL_at (by omega)]
      exact (half_num hB0 hts' (k := i) (i := 0) (by omega) (e := ts.length - 1 - i) (N := qs.length - 1) (by omega)).symm
    rw [e]; exact NumV.of upd_same
  rintro za Ha hR3 lA hla
  refine absG fun GG kG => ?_
  obtain ⟨sa, _, hza⟩ := hR3
  refine kG ?_
  clear kG GG
  rw [List.length_map, List.take_of_length_le (by unfold lowI; rw [List.length_map, List.length_range, lowL_length]; omega)] at hza
  have sA := sa.trans (Same.new (o := .lst za) hla)
  have ela : (upd Ha lA (.lst za)) lA = some (.lst za) := upd_same
  have nza := Nums.same hza (Same.new (o := .lst za) hla)
  generalize upd Ha lA (.lst za) = H3 at sA ela nza ⊢
  refine lc_of ⟨_, rfl, t, _, _, _, rfl, rfl, SqT.of (sA _ _ et), rfl, lb, rfl, ⟨_, SqL.of (sA _ _ eb)⟩, ?_⟩
  refine lc_lst (xs := (upI ts ts.length).map V.int) (fun i zs H' => Same H3 H' ∧ zs.length = i ∧ Nums K H' zs ((upL qs).take i)) ⟨Same.refl _, rfl, .nil⟩ (fun i zs H' hi h => ⟨SqL.of (h.1 _ _ (sA _ _ eb)), h.2.1⟩) (Nat.le_of_lt (small1000 (by rw [List.length_map]; unfold upI; rw [List.length_map, List.length_range]; omega))) ?_ ?_
  · rintro i v zs H' hv hR4
    refine absG fun GG kG => ?_
    obtain ⟨sm, hzl, hzn⟩ := hR4
    refine kG ?_
    clear kG GG
    have hi := (List.getElem?_eq_some_iff.mp hv).1
    rw [List.length_map] at hi
    have hil : i < ts.length := by unfold upI at hi; rwa [List.length_map, List.length_range] at hi
    rw [List.getElem?_map] at hv
    have hv0 : (upI ts ts.length)[i]? = some (2 ^ i * (L2.aIN (ts.length - 1 - i) ts).getD (ts.length - 1 - (ts.length - 1 - i)) 0) := by unfold upI; rw [List.getElem?_map, List.getElem?_range hil]; rfl
    rw [hv0] at hv
    cases hv
    have hq : (upL qs)[i]? = some ((upL qs).getD i 0) := getD_some (by rw [upL_length]; omega)
    refine ⟨_, rfl, _, rfl, 2 ^ i * (L2.aIN (ts.length - 1 - i) ts).getD (ts.length - 1 - (ts.length - 1 - i)) 0, B * 2 ^ (qs.length - 1), rfl, Int.mul_ne_zero hB0 (Int.pow_ne_zero (by decide)), fun p hp => ⟨sm.trans (Same.new hp), by simp [hzl], ?_⟩⟩
    rw [List.take_add_one, hq]
    refine Paired.snoc (Nums.same hzn (Same.new hp)) ?_
    have e : (upL qs).getD i 0 = Rat.divInt (2 ^ i * (L2.aIN (ts.length - 1 - i) ts).getD (ts.length - 1 - (ts.length - 1 - i)) 0) (B * 2 ^ (qs.length - 1)) := by
      rw [upL_at (by omega)]
      rw [show ts.length - 1 - (ts.length - 1 - i) = i by omega, show qs.length - 1 - i = ts.length - 1 - i by omega]
      exact (half_num hB0 hts' (k := ts.length - 1 - i) (i := i) (by omega) (e := i) (N := qs.length - 1) (by omega)).symm
    rw [e]; exact NumV.of upd_same
  rintro zb Hb hR5 lB hlb
  refine absG fun GG kG => ?_
  obtain ⟨sb, _, hzb⟩ := hR5
  refine kG ?_
  clear kG GG
  rw [List.length_map, List.take_of_length_le (by unfold upI; rw [List.length_map, List.length_range, upL_length]; omega)] at hzb
  have sB := sb.trans (Same.new (o := .lst zb) hlb)
  have elb : (upd Hb lB (.lst zb)) lB = some (.lst zb) := upd_same
  have nzb := Nums.same hzb (Same.new (o := .lst zb) hlb)
  have ab : lA ≠ lB := fun z => by rw [← z, sb _ _ ela] at hlb; cases hlb
  have hAH : H lA = none := (s02.trans sa).free hla
  have hBH : H lB = none := ((s02.trans sA).trans sb).free hlb
  generalize upd Hb lB (.lst zb) = H4 at sB elb nzb ⊢
  refine ⟨P2, fun tt htt => ?_⟩
  have s5 : Same H4 (upd H4 tt (.tup [.ref lA, .ref lB])) := Same.new htt
  have s35 := sB.trans s5
  exact q tt lA lB _ za zb ((s02.trans sA).trans s35) hAH hBH ab ⟨SqT.of upd_same, s35 _ _ ela, s5 _ _ elb, Nums.same nza s35, Nums.same nzb s5⟩
theorem sc_bounds_of : FnScope ["curve", "low", "high", "heights", "tops"] ["curve", "low", "high"] (defScope (top 23)) := ⟨rfl, rfl, rfl, by decide +kernel, rfl, by decide +kernel, by decide +kernel⟩
set_option maxHeartbeats 4000000 in
theorem ok_bounds_of {f : Addr} {fd : FuncData} (F : Fun K "bounds_of" "bounds_of" (top 23) f fd) (F_heights_of : Fd P w K mg base 37 "heights_of" ["curve", "low", "high"] (spHts K)) (F_tops_over : Fd P w K mg base 33 "tops_over" ["numbers", "bottom"] (spTops K)) (F_bottom_of : Fd P w K mg base 34 "bottom_of" ["numbers"] (spBot K)) (b_min : mg "min" = none) (b_max : mg "max" = none) (hT : P.given.tree = none) :
    FnOk P w K mg base CX0 38 f fd ["curve", "low", "high"] (spBds K) := by
  refine F.ok sc_bounds_of (fun vs H Q E h => ?_) (fun cdv A outer s H vs Q E hr h => ?_)
  · obtain ⟨_, _, _, _, _, _, _, rfl, _⟩ := h; rfl
  refine ⟨_, (pss_cons (ps_set (i := 3) sc_bounds_of.nd rfl (Or.inl rfl) (pe_fn F_heights_of hr rfl (pa_cons (pv 0) (pa_cons (pv 1) (pa_cons (pv 2) pa_nil)))))
    (pss_cons (ps_set (i := 4) sc_bounds_of.nd rfl (Or.inl rfl) (pe_fn F_tops_over hr rfl (pa_cons (pv 3) (pa_cons (pe_fn F_bottom_of hr rfl (pa_cons (pv 3) pa_nil)) pa_nil))))
    (pss_one (ps_ret (pe_tup (pa_cons (pe_ix (ixL K) (pv 3) (pe_bm PySem.F.plainAttrs_list PySem.F.slot_list_index PySem.F.type_list_index mt_index (pv 4) (pa_cons (pe_callB (call_minI rfl) rfl b_min bt_min (pa_cons (pv 4) pa_nil)) pa_nil)) (fun _ _ => rfl)) (pa_cons (pe_ix (ixL K) (pv 3) (pe_bm PySem.F.plainAttrs_list PySem.F.slot_list_index PySem.F.type_list_index mt_index (pv 4) (pa_cons (pe_callB (call_maxI rfl) rfl b_max bt_max (pa_cons (pv 4) pa_nil)) pa_nil)) (fun _ _ => rfl)) pa_nil))))))), ?_⟩
  refine absG fun GG kG => ?_
  obtain ⟨c, rl, rh, cs, lo, hi, n, rfl, hc, gc, hlo, hhi, hlt, hbc, hbl, hbh, hn, h7, q⟩ := h
  refine kG ?_
  clear kG GG
  have P2 : 2 ≤ sizeLine := by decide
  refine ⟨_, rfl, _, rfl, _, rfl, c, rl, rh, cs, lo, hi, n, rfl, hc, gc, hlo, hhi, hlt, hbc, hbl, hbh, hn, h7, fun hp H1 zs s1 hhp ehp hzs hbz => ?_⟩
  have hhl := hts_length cs lo hi
  generalize hts cs lo hi = hs at hzs hbz hhl q
  have hzl := hzs.length
  refine ⟨_, rfl, _, rfl, true, hp, zs, hs, 60000, rfl, SqL.of ehp, hzs, (fun c hc => (hbz c hc).2), by omega, fun B hB0 hdv hbB => ?_⟩
  refine ⟨true, hp, zs, hs, B, 60000 * hs.length + 1, 60000, rfl, SqL.of ehp, hzs, hbB, (fun c hc => (hbz c hc).1), by omega, by omega, fun tp htp => ?_⟩
  have s2 : Same H1 (upd H1 tp (.lst ((hs.map (topOf B)).map V.int))) := Same.new htp
  have etp : (upd H1 tp (.lst ((hs.map (topOf B)).map V.int))) tp = some (.lst ((hs.map (topOf B)).map V.int)) := upd_same
  generalize upd H1 tp (.lst ((hs.map (topOf B)).map V.int)) = H2 at s2 etp ⊢
  have ehp2 := s2 _ _ ehp
  have hzs2 := Nums.same hzs s2
  have hpos : 0 < (hs.map (topOf B)).length := by rw [List.length_map]; omega
  refine ⟨_, rfl, _, rfl, .inl ⟨rfl, _, SqL.of etp⟩, _, rfl, tp, hs.map (topOf B), rfl, etp, hpos, fun m hm hmin => ?_⟩
  refine absG fun GG kG => ?_
  obtain ⟨lq, hl1, hl2, hl3⟩ := pick hm
  refine kG ?_
  clear kG GG
  refine absG fun GG kG => ?_
  obtain ⟨x, hx, hxn⟩ := Paired.get' hzs2 hl1
  refine kG ?_
  clear kG GG
  refine ⟨tp, hs.map (topOf B), m, rfl, rfl, etp, hm, hp, zs, _, x, rfl, rfl, SqL.of ehp2, atI_nat hx, ?_⟩
  refine ⟨_, rfl, _, rfl, .inl ⟨rfl, _, SqL.of etp⟩, _, rfl, tp, hs.map (topOf B), rfl, etp, hpos, fun M hM hmax => ?_⟩
  refine absG fun GG kG => ?_
  obtain ⟨gq, hg1, hg2, hg3⟩ := pick hM
  refine kG ?_
  clear kG GG
  refine absG fun GG kG => ?_
  obtain ⟨y, hy, hyn⟩ := Paired.get' hzs2 hg1
  refine kG ?_
  clear kG GG
  refine ⟨tp, hs.map (topOf B), M, rfl, rfl, etp, hM, hp, zs, _, y, rfl, rfl, SqL.of ehp2, atI_nat hy, P2, fun p hp' => ?_⟩
  have s3 : Same H2 (upd H2 p (.tup [x, y])) := Same.new hp'
  refine q p _ x y lq gq ((s1.trans s2).trans s3) upd_same (hxn.same s3) (hyn.same s3) hl3 hg3 (fun c hc => ⟨?_, ?_⟩) (hbz _ hl3) (hbz _ hg3)
  · exact top_le hB0 (hdv _ hl3) (hdv _ hc) (by rw [hl2]; exact hmin _ (List.mem_map_of_mem hc))
  · exact top_le hB0 (hdv _ hc) (hdv _ hg3) (by rw [hg2]; exact hmax _ (List.mem_map_of_mem hc))
theorem sc__law_means : FnScope ["_law_some"] ["_law_some"] (defScope (top 38)) := ⟨rfl, rfl, rfl, by decide +kernel, rfl, by decide +kernel, by decide +kernel⟩
set_option maxHeartbeats 4000000 in
theorem ok__law_means {f : Addr} {fd : FuncData} (F : Fun K "_law_means" "_law_means" (top 38) f fd) (F__law_times : Fd P w K mg base 34 "_law_times" ["_law_a", "_law_b"] (spBin K (· * ·))) (F__law_plus : Fd P w K mg base 34 "_law_plus" ["_law_a", "_law_b"] (spBin K (· + ·))) (b_range : mg "range" = none) (b_len : mg "len" = none) (hT : P.given.tree = none) :
    FnOk P w K mg base CX0 35 f fd ["_law_some"] (spMeans K) := by
  refine F.ok sc__law_means (fun vs H Q E h => ?_) (fun cdv A outer s H vs Q E hr h => ?_)
  · obtain ⟨_, _, _, _, rfl, _⟩ := h; rfl
  refine ⟨_, (pss_one (ps_ret (pe_lc rfl (N := ["_law_k", "_law_some"]) (nt := 1) (js := [0]) (CompOk.look (NX := ["_law_some"]) (sc := defScope (top 38)) rfl rfl (by decide +kernel)) (pi_range1 rfl b_range (pa_cons (pe_op op_sub (pe_callB (lenK K) rfl b_len bt_len (pa_cons (pv 0) pa_nil)) pe_int) pa_nil)) (fun _ _ _ _ _ => (pg_name (i := 0) (show List.Nodup (["_law_k", "_law_some"] : List Str) from by decide +kernel) rfl (Or.inl rfl))) (stays_name (by decide)) (fun _ _ _ _ _ => pts_nil) (fun _ _ _ _ _ => (pe_fn F__law_times hr rfl (pa_cons (pe_fn F__law_plus hr rfl (pa_cons (pe_ix (ixL K) (pv 1) (pv 0) (fun _ _ => rfl)) (pa_cons (pe_ix (ixL K) (pv 1) (pe_op op_add (pv 0) pe_int) (fun _ _ => rfl)) pa_nil))) (pa_cons (pe_tup (pa_cons pe_int (pa_cons pe_int pa_nil))) pa_nil))))))), ?_⟩
  refine absG fun GG kG => ?_
  obtain ⟨l, xs, qs, n, rfl, hS, hn, h1, h20, hb, hn1, hn4, q⟩ := h
  refine kG ?_
  clear kG GG
  have P2 : 2 ≤ sizeLine := by decide
  have hl := hn.length
  refine lc_of ⟨_, rfl, l, xs, rfl, .inl hS, _, _, rfl, rfl, _, rfl, by omega, by omega, ?_⟩
  rw [show ((xs.length : Int) - 1).toNat = qs.length - 1 by omega]
  refine lc_itr (fun i zs H' => Same H H' ∧ zs.length = i ∧ Nums K H' zs ((List.range i).map fun j => qs.getD j 0 * (1 - hf) + qs.getD (j + 1) 0 * hf)) ⟨Same.refl _, rfl, .nil⟩ (fun i zs H' _ h => h.2.1) (Nat.le_of_lt (small1000 (by omega))) ?_ ?_
  · rintro i zs H' hi hR2
    refine absG fun GG kG => ?_
    obtain ⟨sm, hzl, hzn⟩ := hR2
    refine kG ?_
    clear kG GG
    have g0 : qs[i]? = some (qs.getD i 0) := getD_some (by omega)
    have g1 : qs[i + 1]? = some (qs.getD (i + 1) 0) := getD_some (by omega)
    refine absG fun GG kG => ?_
    obtain ⟨x0, hx0, n0⟩ := Paired.get' hn g0
    refine kG ?_
    clear kG GG
    refine absG fun GG kG => ?_
    obtain ⟨x1, hx1, n1⟩ := Paired.get' hn g1
    refine kG ?_
    clear kG GG
    refine ⟨_, rfl, _, rfl, l, xs, _, x0, rfl, rfl, Same.seq sm hS, atV hx0 (by omega), _, rfl, _, rfl, _, _, rfl, rfl, l, xs, _, x1, rfl, rfl, Same.seq sm hS, atV hx1 (by omega), _, _, qs.getD i 0, qs.getD (i + 1) 0, n, n, rfl, n0.same sm, n1.same sm, hb _ (List.mem_of_getElem? g0), hb _ (List.mem_of_getElem? g1), by omega, fun r hr => ⟨P2, fun t ht => ?_⟩⟩
    have s2 := (Same.new (o := nT (qs.getD i 0 + qs.getD (i + 1) 0)) hr).trans (Same.new (o := .tup [.int 1, .int 2]) ht)
    refine ⟨_, _, qs.getD i 0 + qs.getD (i + 1) 0, hf, n + n + 1, 2, rfl, NumV.of ((Same.new ht) _ _ upd_same), NumV.of (upd_same (o := nT hf)), RB.plus (hb _ (List.mem_of_getElem? g0)) (hb _ (List.mem_of_getElem? g1)), hf_rb, by omega, fun r2 hr2 => ⟨(sm.trans s2).trans (Same.new hr2), by simp [hzl], ?_⟩⟩
    rw [List.range_succ, List.map_append]
    refine Paired.snoc (Nums.same hzn (s2.trans (Same.new hr2))) ?_
    have e : qs.getD i 0 * (1 - hf) + qs.getD (i + 1) 0 * hf = (qs.getD i 0 + qs.getD (i + 1) 0) * hf := by rw [hf_one]; grind
    show NumV K _ _ (qs.getD i 0 * (1 - hf) + qs.getD (i + 1) 0 * hf)
    rw [e]; exact NumV.of upd_same
  rintro zs H' hR5 p hp
  refine absG fun GG kG => ?_
  obtain ⟨sm, hzl, hzn⟩ := hR5
  refine kG ?_
  clear kG GG
  exact q p _ zs (sm.trans (Same.new hp)) (sm.free hp) upd_same (Nums.same hzn (Same.new hp))
theorem sc__law_halves : FnScope ["_law_some", "_law_lower", "_law_upper"] ["_law_some"] (defScope (top 41)) := ⟨rfl, rfl, rfl, by decide +kernel, rfl, by decide +kernel, by decide +kernel⟩
set_option maxHeartbeats 4000000 in
theorem ok__law_halves {f : Addr} {fd : FuncData} (F : Fun K "_law_halves" "_law_halves" (top 41) f fd) (F__law_means : Fd P w K mg base 35 "_law_means" ["_law_some"] (spMeans K)) (b_len : mg "len" = none) (hT : P.given.tree = none) :
    FnOk P w K mg base CX0 36 f fd ["_law_some"] (spLH K) := by
  refine F.ok sc__law_halves (fun vs H Q E h => ?_) (fun cdv A outer s H vs Q E hr h => ?_)
  · obtain ⟨_, _, _, _, rfl, _⟩ := h; rfl
  refine ⟨_, (pss_cons (ps_set (i := 1) sc__law_halves.nd rfl (Or.inl rfl) (pe_lst (pa_cons (pe_ix (ixL K) (pv 0) pe_int (fun _ _ => rfl)) pa_nil)))
    (pss_cons (ps_set (i := 2) sc__law_halves.nd rfl (Or.inl rfl) (pe_lst (pa_cons (pe_ix (ixL K) (pv 0) (pe_un un_neg pe_int) (fun _ _ => rfl)) pa_nil)))
    (pss_cons (ps_while PassesOwn.never (pt_cmpR op_gt (pe_callB (lenK K) rfl b_len bt_len (pa_cons (pv 0) pa_nil)) pe_int (nomark _)) (pss_cons (ps_set (i := 0) sc__law_halves.nd rfl (Or.inl rfl) (pe_fn F__law_means hr rfl (pa_cons (pv 0) pa_nil)))
    (pss_cons (ps_expr (pe_bm PySem.F.plainAttrs_list PySem.F.slot_list_append PySem.F.type_list_append mt_append (pv 1) (pa_cons (pe_ix (ixL K) (pv 0) pe_int (fun _ _ => rfl)) pa_nil)))
    (pss_one (ps_expr (pe_bm PySem.F.plainAttrs_list PySem.F.slot_list_insert PySem.F.type_list_insert mt_insert (pv 2) (pa_cons pe_int (pa_cons (pe_ix (ixL K) (pv 0) (pe_un un_neg pe_int) (fun _ _ => rfl)) pa_nil))))))))
    (pss_one (ps_ret (pe_tup (pa_cons (pv 1) (pa_cons (pv 2) pa_nil)))))))), ?_⟩
  refine absG fun GG kG => ?_
  obtain ⟨l, xs, qs, n, rfl, hS, hn, h1, h8, hb, hn1, hn5, q⟩ := h
  refine kG ?_
  clear kG GG
  have P1 : 1 ≤ sizeLine := by decide
  have P2 : 2 ≤ sizeLine := by decide
  have hl := hn.length
  have g0 : qs[0]? = some (qs.getD 0 0) := getD_some (by omega)
  have gl : qs[qs.length - 1]? = some (qs.getD (qs.length - 1) 0) := getD_some (by omega)
  refine absG fun GG kG => ?_
  obtain ⟨x0, hx0, n0⟩ := Paired.get' hn g0
  refine kG ?_
  clear kG GG
  refine absG fun GG kG => ?_
  obtain ⟨x1, hx1, n1⟩ := Paired.get' hn gl
  refine kG ?_
  clear kG GG
  refine ⟨_, rfl, l, xs, _, x0, rfl, rfl, hS, atI_nat (j := 0) hx0, P1, fun la hla => ?_⟩
  have s1 : Same H (upd H la (.lst [x0])) := Same.new hla
  refine ⟨_, rfl, _, rfl, l, xs, _, x1, rfl, rfl, Same.seq s1 hS, atI_back (by rw [hl]; exact hx1), P1, fun lb hlb => ?_⟩
  have ab : la ≠ lb := ne_of_none upd_same hlb
  have s2 := s1.trans (Same.new (o := .lst [x1]) hlb)
  have hlbH : H lb = none := s1.free hlb
  have ela : (upd (upd H la (.lst [x0])) lb (.lst [x1])) la = some (.lst [x0]) := (Same.new hlb) _ _ upd_same
  have elb : (upd (upd H la (.lst [x0])) lb (.lst [x1])) lb = some (.lst [x1]) := upd_same
  generalize upd (upd H la (.lst [x0])) lb (.lst [x1]) = H2 at s2 ela elb ⊢
  refine ⟨fun μ σ H' => Same H H' ∧ ∃ (i : Nat) (s : Addr) (ys za zb : List V), σ = [some (.ref s), some (.ref la), some (.ref lb)] ∧ i < qs.length ∧ μ = qs.length - i ∧ SqL K H' s ys ∧ Nums K H' ys (L2.cQN hf i qs) ∧ (∀ q ∈ L2.cQN hf i qs, RB (mb n i) q) ∧ H' la = some (.lst za) ∧ H' lb = some (.lst zb) ∧ Nums K H' za ((List.range (i + 1)).map fun j => L2.Cn hf j (fun k => qs.getD k 0) 0) ∧ Nums K H' zb ((List.range (i + 1)).map fun j => L2.Cn hf (i - j) (fun k => qs.getD k 0) (qs.length - 1 - (i - j))),
    ⟨_, s2, 0, l, xs, [x0], [x1], rfl, by omega, rfl, Same.seq s2 hS, Nums.same hn s2, hb, ela, elb, .cons (n0.same s2) .nil, .cons (n1.same s2) .nil⟩, ?_⟩
  rintro μ σ H3 hR4
  refine absG fun GG kG => ?_
  obtain ⟨s3, i, s, ys, za, zb, rfl, hi, rfl, hsS, hsn, hsb, ela3, elb3, hza, hzb⟩ := hR4
  refine kG ?_
  clear kG GG
  have hcl := L2.cQ_length hf qs i
  have hyl := hsn.length
  refine ⟨_, rfl, s, ys, rfl, .inl hsS, _, _, rfl, rfl, _, rfl, ?_⟩
  by_cases hgo : i + 1 < qs.length
  · rw [decide_eq_true (show (1 : Int) < (ys.length : Int) by omega)]
    refine iteT ⟨_, fun _ _ h => h, ?_⟩
    have hm8 := mb_8 hn5 (show i ≤ 8 by omega)
    refine ⟨_, rfl, s, ys, _, mb n i, rfl, hsS, hsn, by omega, by omega, hsb, mb_ge hn1 i, by omega, fun s' H4 zs s4 hs' es' hzn => ?_⟩
    have hzn : Nums K H4 zs (L2.cQN hf (i + 1) qs) := hzn
    have hcl' := L2.cQ_length hf qs (i + 1)
    have hzl := hzn.length
    have sla : s' ≠ la := fun z => by rw [z, ela3] at hs'; cases hs'
    have slb : s' ≠ lb := fun z => by rw [z, elb3] at hs'; cases hs'
    have k0 : (L2.cQN hf (i + 1) qs)[0]? = some (L2.Cn hf (i + 1) (fun k => qs.getD k 0) 0) := by rw [getD_some (by omega), L2.cQ_at hf qs (i + 1) 0 (by omega)]
    have k1 : (L2.cQN hf (i + 1) qs)[zs.length - 1]? = some (L2.Cn hf (i + 1) (fun k => qs.getD k 0) (qs.length - 1 - (i + 1))) := by
      rw [getD_some (by omega), L2.cQ_at hf qs (i + 1) _ (by omega), show zs.length - 1 = qs.length - 1 - (i + 1) by omega]
    refine absG fun GG kG => ?_
    obtain ⟨y0, hy0, m0⟩ := Paired.get' hzn k0
    refine kG ?_
    clear kG GG
    refine absG fun GG kG => ?_
    obtain ⟨y1, hy1, m1⟩ := Paired.get' hzn k1
    refine kG ?_
    clear kG GG
    have ela4 := s4 _ _ ela3
    have elb4 := s4 _ _ elb3
    have hzal := hza.length
    have hzbl := hzb.length
    rw [List.length_map, List.length_range] at hzal hzbl
    refine ⟨_, rfl, .inl ⟨rfl, _, SqL.of ela4⟩, _, rfl, s', zs, _, y0, rfl, rfl, SqL.of es', atI_nat (j := 0) hy0, la, za, y0, rfl, rfl, ela4, Nat.lt_of_lt_of_le (show za.length < 300 by omega) (by decide), ?_⟩
    have es5 : (upd H4 la (.lst (za ++ [y0]))) s' = some (.lst zs) := by rw [upd_ne sla]; exact es'
    have elb5 : (upd H4 la (.lst (za ++ [y0]))) lb = some (.lst zb) := by rw [upd_ne (Ne.symm ab)]; exact elb4
    refine ⟨_, rfl, .inl ⟨rfl, _, SqL.of elb5⟩, _, rfl, _, rfl, s', zs, _, y1, rfl, rfl, SqL.of es5, atI_back hy1, lb, zb, _, 0, y1, rfl, rfl, rfl, elb5, Nat.zero_le _, by omega, ?_⟩
    have P : ∀ {xs : List V} {ps : List Rat}, Nums K H4 xs ps → Nums K (upd (upd H4 la (.lst (za ++ [y0]))) lb (.lst (zb.take 0 ++ y1 :: zb.drop 0))) xs ps := fun h => Nums.put (Nums.put h ela4) elb5
    have P1' : ∀ {x : V} {p : Rat}, NumV K H4 x p → NumV K (upd (upd H4 la (.lst (za ++ [y0]))) lb (.lst (zb.take 0 ++ y1 :: zb.drop 0))) x p := fun h => NumV.put (NumV.put h ela4) elb5
    refine ⟨qs.length - (i + 1), by omega, ((s3.trans s4).put hla).put hlbH, i + 1, s', zs, za ++ [y0], y1 :: zb, rfl, hgo, rfl, SqL.of (by rw [upd_ne slb]; exact es5), P hzn, ?_, by rw [upd_ne ab]; exact upd_same, upd_same, ?_, ?_⟩
    · exact cQ_rb (mb_ge hn1 i) hsb
    · rw [List.range_succ, List.map_append]
      exact Paired.snoc (P (Nums.same hza s4)) (P1' m0)
    · rw [List.range_succ_eq_map, List.map_cons, List.map_map]
      refine .cons (P1' m1) ?_
      have e : (List.range (i + 1)).map ((fun j => L2.Cn hf (i + 1 - j) (fun k => qs.getD k 0) (qs.length - 1 - (i + 1 - j))) ∘ Nat.succ) = (List.range (i + 1)).map fun j => L2.Cn hf (i - j) (fun k => qs.getD k 0) (qs.length - 1 - (i - j)) := List.map_congr_left fun j _ => by
        show L2.Cn hf (i + 1 - (j + 1)) _ (qs.length - 1 - (i + 1 - (j + 1))) = _
        rw [show i + 1 - (j + 1) = i - j by omega]
      rw [e]; exact P (Nums.same hzb s4)
  · rw [decide_eq_false (show ¬ ((1 : Int) < (ys.length : Int)) by omega)]
    refine iteF ?_
    refine ⟨_, rfl, _, rfl, P2, fun t ht => ?_⟩
    have s4 : Same H3 (upd H3 t (.tup [.ref la, .ref lb])) := Same.new ht
    have e1 : i + 1 = qs.length := by omega
    have e2 : (List.range qs.length).map (fun j => L2.Cn hf (i - j) (fun k => qs.getD k 0) (qs.length - 1 - (i - j))) = upL qs := by
      unfold upL
      refine List.map_congr_left fun j hj => ?_
      have hj := List.mem_range.mp hj
      show L2.Cn hf (i - j) _ (qs.length - 1 - (i - j)) = L2.Cn hf (qs.length - 1 - j) _ j
      rw [show i - j = qs.length - 1 - j by omega, show qs.length - 1 - (qs.length - 1 - j) = j by omega]
    rw [e1] at hza hzb
    rw [e2] at hzb
    exact q t la lb _ za zb (s3.trans s4) hla hlbH ab ⟨SqT.of upd_same, s4 _ _ ela3, s4 _ _ elb3, Nums.same hza s4, Nums.same hzb s4⟩
theorem sc__law_whole : FnScope ["_law_thing"] ["_law_thing"] (defScope (top 35)) := ⟨rfl, rfl, rfl, by decide +kernel, rfl, by decide +kernel, by decide +kernel⟩
set_option maxHeartbeats 4000000 in
theorem ok__law_whole {f : Addr} {fd : FuncData} (F : Fun K "_law_whole" "_law_whole" (top 35) f fd) (b_isinstance : mg "isinstance" = none) (b_int : mg "int" = none) (b_bool : mg "bool" = none) (hT : P.given.tree = none) :
    FnOk P w K mg base CX0 33 f fd ["_law_thing"] (spWhole K) := by
  refine F.ok sc__law_whole (fun vs H Q E h => ?_) (fun cdv A outer s H vs Q E hr h => ?_)
  · obtain ⟨_, _, rfl, _⟩ := h; rfl
  refine ⟨_, (pss_one (ps_ret (pe_and (pe_callB (isiK K) rfl b_isinstance bt_isinstance (pa_cons (pv 0) (pa_cons (pe_bltn (v := .ty "int") rfl b_int bt_int rfl) pa_nil))) (pe_one (pe_not (pe_callB (isiK K) rfl b_isinstance bt_isinstance (pa_cons (pv 0) (pa_cons (pe_bltn (v := .ty "bool") rfl b_bool bt_bool rfl) pa_nil)))))))), ?_⟩
  refine absG fun GG kG => ?_
  obtain ⟨x, b, rfl, wx, q⟩ := h
  refine kG ?_
  clear kG GG
  cases wx with
  | int i => exact ⟨_, rfl, _, _, _, _, rfl, .of (.int i), kit_ii K, true, rfl, iteT ⟨_, rfl, _, _, _, _, rfl, .of (.int i), kit_ib K, false, rfl, q⟩⟩
  | bl y => exact ⟨_, rfl, _, _, _, _, rfl, .of (.bl y), kit_bi K, true, rfl, iteT ⟨_, rfl, _, _, _, _, rfl, .of (.bl y), kit_bb K, true, rfl, q⟩⟩
  | oth ty hk => exact ⟨_, rfl, _, _, _, _, rfl, ty, hk, false, rfl, iteF q⟩
theorem sc__law_is_number : FnScope ["_law_thing"] ["_law_thing"] (defScope (top 36)) := ⟨rfl, rfl, rfl, by decide +kernel, rfl, by decide +kernel, by decide +kernel⟩
set_option maxHeartbeats 4000000 in
theorem ok__law_is_number {f : Addr} {fd : FuncData} (F : Fun K "_law_is_number" "_law_is_number" (top 36) f fd) (F__law_whole : Fd P w K mg base 33 "_law_whole" ["_law_thing"] (spWhole K)) (F__law_lowest : Fd P w K mg base 33 "_law_lowest" ["_law_top", "_law_bottom"] (spLow)) (b_isinstance : mg "isinstance" = none) (b_tuple : mg "tuple" = none) (b_len : mg "len" = none) (hT : P.given.tree = none) :
    FnOk P w K mg base CX0 34 f fd ["_law_thing"] (spIsN K) := by
  refine F.ok sc__law_is_number (fun vs H Q E h => ?_) (fun cdv A outer s H vs Q E hr h => ?_)
  · obtain ⟨_, _, rfl, _⟩ := h; rfl
  refine ⟨_, (pss_cons (ps_if (PW.pt (pw_or (pt_not (pt_val (pe_callB (isiK K) rfl b_isinstance bt_isinstance (pa_cons (pv 0) (pa_cons (pe_bltn (v := .ty "tuple") rfl b_tuple bt_tuple rfl) pa_nil))))) (pw_or (pt_cmpR op_ne (pe_callB (lenK K) rfl b_len bt_len (pa_cons (pv 0) pa_nil)) pe_int (nomark _)) (pw_or (pt_not (pt_val (pe_fn F__law_whole hr rfl (pa_cons (pe_ix (ixT K) (pv 0) pe_int (fun _ _ => rfl)) pa_nil)))) (pw_or1 (pt_not (pt_val (pe_fn F__law_whole hr rfl (pa_cons (pe_ix (ixT K) (pv 0) pe_int (fun _ _ => rfl)) pa_nil))))))))) (pss_one (ps_ret pe_bl)) pss_nil)
    (pss_one (ps_ret (pe_and (pe_cmpR op_gt (pe_ix (ixT K) (pv 0) pe_int (fun _ _ => rfl)) pe_int (nomark _)) (pe_one (pe_cmpR (eqD K hr.units) (pe_fn F__law_lowest hr rfl (pa_cons (pe_ix (ixT K) (pv 0) pe_int (fun _ _ => rfl)) (pa_cons (pe_ix (ixT K) (pv 0) pe_int (fun _ _ => rfl)) pa_nil))) (pv 0) (nomark _))))))), ?_⟩
  refine absG fun GG kG => ?_
  obtain ⟨x, p, rfl, ⟨r, rfl, hr⟩, q⟩ := h
  refine kG ?_
  clear kG GG
  refine ⟨_, rfl, _, _, _, _, rfl, .tup hr, kit_tt K, true, rfl, iteF ?_⟩
  refine ⟨_, rfl, r, _, rfl, .inr hr, rfl, _, rfl, iteF ?_⟩
  refine ⟨_, rfl, r, _, _, _, rfl, rfl, hr, rfl, _, _, rfl, .int _, _, rfl, iteF ?_⟩
  refine ⟨_, rfl, r, _, _, _, rfl, rfl, hr, rfl, _, _, rfl, .int _, _, rfl, iteF ?_⟩
  refine ⟨_, rfl, r, _, _, _, rfl, rfl, hr, rfl, _, _, rfl, rfl, _, rfl, ?_⟩
  rw [decide_eq_true (show (0 : Int) < (p.den : Int) by have := p.den_pos; omega)]
  refine iteT ?_
  refine ⟨_, rfl, r, _, _, _, rfl, rfl, hr, rfl, _, rfl, r, _, _, _, rfl, rfl, hr, rfl, _, _, rfl, Nm.den_ne p, fun z hz => ⟨_, rfl, ?_⟩⟩
  have e : Rat.divInt p.num (p.den : Int) = p := Rat.num_divInt_den p
  rw [e]
  refine eqN (NumV.of upd_same) ⟨r, rfl, SqT.same hr (Same.new hz)⟩ ?_
  rw [decide_eq_true rfl]
  exact q _ (Same.new hz)
theorem sc__law_right : FnScope ["_law_some", "_law_handed", "_law_due", "_law_found", "_law_half"] ["_law_some"] (defScope (top 42)) := ⟨rfl, rfl, rfl, by decide +kernel, rfl, by decide +kernel, by decide +kernel⟩
set_option maxHeartbeats 4000000 in
theorem ok__law_right {f : Addr} {fd : FuncData} (F : Fun K "_law_right" "_law_right" (top 42) f fd) (F__law_halves : Fd P w K mg base 36 "_law_halves" ["_law_some"] (spLH K)) (F_halves_of : Fd P w K mg base 35 "halves_of" ["some"] (spLH K)) (F__law_is_number : Fd P w K mg base 34 "_law_is_number" ["_law_thing"] (spIsN K)) (b_list : mg "list" = none) (b_isinstance : mg "isinstance" = none) (b_tuple : mg "tuple" = none) (b_len : mg "len" = none) (b_all : mg "all" = none) (hT : P.given.tree = none) :
    FnOk P w K mg base CX0 37 f fd ["_law_some"] (spR38 K) := by
  refine F.ok sc__law_right (fun vs H Q E h => ?_) (fun cdv A outer s H vs Q E hr h => ?_)
  · obtain ⟨_, _, _, _, rfl, _⟩ := h; rfl
  refine ⟨_, (pss_cons (ps_set (i := 1) sc__law_right.nd rfl (Or.inl rfl) (pe_callTy (listK K) rfl b_list bt_list (pa_cons (pv 0) pa_nil)))
    (pss_cons (ps_set (i := 2) sc__law_right.nd rfl (Or.inl rfl) (pe_fn F__law_halves hr rfl (pa_cons (pv 0) pa_nil)))
    (pss_cons (ps_set (i := 3) sc__law_right.nd rfl (Or.inl rfl) (pe_fn F_halves_of hr rfl (pa_cons (pv 1) pa_nil)))
    (pss_cons (ps_if (PW.pt (pw_or (pt_not (pt_val (pe_callB (isiK K) rfl b_isinstance bt_isinstance (pa_cons (pv 3) (pa_cons (pe_bltn (v := .ty "tuple") rfl b_tuple bt_tuple rfl) pa_nil))))) (pw_or (pt_cmpR op_ne (pe_callB (lenK K) rfl b_len bt_len (pa_cons (pv 3) pa_nil)) pe_int (nomark _)) (pw_or (pt_cmpR (neD K hr.units) (pv 3) (pv 2) (nomark _)) (pw_or1 (pt_cmpR (neD K hr.units) (pv 1) (pv 0) (nomark _))))))) (pss_one (ps_ret pe_bl)) pss_nil)
    (pss_cons (ps_for PassesOwn.never rfl (piT K (pv 3)) (pg_name (i := 4) sc__law_right.nd rfl (Or.inl rfl)) (pss_one (ps_if (PW.pt (pw_or (pt_not (pt_val (pe_callB (isiK K) rfl b_isinstance bt_isinstance (pa_cons (pv 4) (pa_cons (pe_bltn (v := .ty "list") rfl b_list bt_list rfl) pa_nil))))) (pw_or1 (pt_not (pt_val (pe_callB (allB K rfl) rfl b_all bt_all (pa_cons (pe_lc rfl (N := ["_law_number_here"]) (nt := 1) (js := []) (CompOk.look (NX := ["_law_some", "_law_handed", "_law_due", "_law_found", "_law_half"]) (sc := defScope (top 42)) rfl rfl (by decide +kernel)) (piL K (pv 4)) (fun _ _ _ _ _ => (pg_name (i := 0) (show List.Nodup (["_law_number_here"] : List Str) from by decide +kernel) rfl (Or.inl rfl))) (stays_name (by decide)) (fun _ _ _ _ _ => pts_nil) (fun _ _ _ _ _ => (pe_fn F__law_is_number hr rfl (pa_cons (pv 0) pa_nil)))) pa_nil))))))) (pss_one (ps_ret pe_bl)) pss_nil)))
    (pss_cons (ps_expr (pe_bm0 PySem.F.plainAttrs_list PySem.F.slot_list_clear PySem.F.type_list_clear mt_clear (pe_ix (ixT K) (pv 3) pe_int (fun _ _ => rfl))))
    (pss_cons (ps_expr (pe_bm PySem.F.plainAttrs_list PySem.F.slot_list_append PySem.F.type_list_append mt_append (pe_ix (ixT K) (pv 3) pe_int (fun _ _ => rfl)) (pa_cons (pe_tup (pa_cons pe_int (pa_cons pe_int pa_nil))) pa_nil)))
    (pss_one (ps_ret (pe_cmpR (eqD K hr.units) (pe_fn F_halves_of hr rfl (pa_cons (pv 1) pa_nil)) (pv 2) (nomark _))))))))))), ?_⟩
  refine absG fun GG kG => ?_
  obtain ⟨l, xs, qs, n, rfl, hS, hn, h1, h8, hb, hn1, hn5, q⟩ := h
  refine kG ?_
  clear kG GG
  have P2 : 2 ≤ sizeLine := by decide
  have hl := hn.length
  refine ⟨_, rfl, l, xs, rfl, .inl hS, fun hd hhd => ?_⟩
  have s1 : Same H (upd H hd (.lst xs)) := Same.new hhd
  have ehd : (upd H hd (.lst xs)) hd = some (.lst xs) := upd_same
  generalize upd H hd (.lst xs) = H1 at s1 ehd ⊢
  refine ⟨_, rfl, l, xs, qs, n, rfl, Same.seq s1 hS, Nums.same hn s1, h1, h8, hb, hn1, hn5, fun td da db H2 dza dzb s2 hda hdb dab hd2 => ?_⟩
  have s12 := s1.trans s2
  refine ⟨_, rfl, hd, xs, qs, n, rfl, SqL.of (s2 _ _ ehd), Nums.same hn s12, h1, h8, hb, hn1, hn5, fun tf fa fb H3 fza fzb s3 hfa hfb fab hf3 => ?_⟩
  have s13 := s12.trans s3
  have hd3 := hd2.same s3
  have ehd3 := s3 _ _ (s2 _ _ ehd)
  refine ⟨_, rfl, _, _, _, _, rfl, .tup hf3.1, kit_tt K, true, rfl, iteF ?_⟩
  refine ⟨_, rfl, tf, _, rfl, .inr hf3.1, rfl, _, rfl, ?_⟩
  rw [decide_eq_true (show V.int (([V.ref fa, .ref fb].length : Nat) : Int) = V.int 2 from rfl)]
  refine iteF ?_
  refine ⟨_, rfl, _, rfl, ?_⟩
  refine eqTwo hf3 hd3 ?_
  refine ⟨_, rfl, iteF ?_⟩
  refine ⟨_, rfl, _, rfl, ?_⟩
  refine eqL (SqL.of ehd3) (Nums.same hn s13) (Same.seq s13 hS) (Nums.same hn s13) ?_
  rw [decide_eq_true rfl]
  refine ⟨_, rfl, iteF ?_⟩
  refine ⟨_, rfl, tf, rfl, ⟨_, hf3.1⟩, for_tup (xs := [.ref fa, .ref fb]) (fun _ σ H' => Same H3 H' ∧ ∃ z, σ = [some (.ref l), some (.ref hd), some (.ref td), some (.ref tf), z]) ⟨Same.refl _, none, rfl⟩ (fun _ σ H' _ h => hf3.1.same h.1) ?_ ?_⟩
  · rintro j v σ H' hv hR2
    refine absG fun GG kG => ?_
    obtain ⟨sm, z, rfl⟩ := hR2
    refine kG ?_
    clear kG GG
    have hT : ∃ f zs rs, v = .ref f ∧ H' f = some (.lst zs) ∧ Nums K H' zs rs ∧ zs.length ≤ 8 := by
      have f5 := hf3.same sm
      have la1 := f5.2.2.2.1.length
      have la2 := f5.2.2.2.2.length
      rw [lowL_length] at la1
      rw [upL_length] at la2
      match j, hv with
      | 0, hv => cases hv; exact ⟨fa, fza, _, rfl, f5.2.1, f5.2.2.2.1, by omega⟩
      | 1, hv => cases hv; exact ⟨fb, fzb, _, rfl, f5.2.2.1, f5.2.2.2.2, by omega⟩
      | j + 2, hv => exact absurd hv (by simp)
    refine absG fun GG kG => ?_
    obtain ⟨f, zs, rs, rfl, ef, hzn, hz8⟩ := hT
    refine kG ?_
    clear kG GG
    refine ⟨_, rfl, _, _, _, _, rfl, .lst (SqL.of ef), kit_ll' K, true, rfl, iteF ?_⟩
    refine lc_of ⟨_, rfl, f, rfl, ⟨_, SqL.of ef⟩, ?_⟩
    refine lc_lst (xs := zs) (fun i us H2 => Same H' H2 ∧ us = List.replicate i (.bl true)) ⟨Same.refl _, rfl⟩ (fun i us H2 _ p => ⟨SqL.of (p.1 _ _ ef), by rw [p.2, List.length_replicate]⟩) (Nat.le_of_lt (small1000 (by omega))) ?_ ?_
    · rintro i x us H2 hx ⟨sm2, rfl⟩
      refine absG fun GG kG => ?_
      obtain ⟨c, hc, hcn⟩ := Paired.get hzn hx
      refine kG ?_
      clear kG GG
      refine ⟨_, rfl, x, c, rfl, hcn.same sm2, fun H3 s3 => ⟨sm2.trans s3, ?_⟩⟩
      rw [← List.replicate_succ']
    rintro us H2 ⟨sm2, rfl⟩ al hal
    refine ⟨al, List.replicate zs.length true, rfl, SqL.of (by rw [List.map_replicate]; exact upd_same), _, rfl, ?_⟩
    rw [all_rep]
    exact iteF ⟨(sm.trans sm2).trans (Same.new hal), _, rfl⟩
  rintro σ H4 hR5
  refine absG fun GG kG => ?_
  obtain ⟨s4, z, rfl⟩ := hR5
  refine kG ?_
  clear kG GG
  have f4 := hf3.same s4
  have s14 := s13.trans s4
  have hd4 := hd3.same s4
  have ehd4 := s4 _ _ ehd3
  have hfaH : H2 fa = none := hfa
  have daf : da ≠ fa := fun z => by have := hd2.2.1; rw [z, hfa] at this; cases this
  have dbf : db ≠ fa := fun z => by have := hd2.2.2.1; rw [z, hfa] at this; cases this
  have daf' : da ≠ fb := fun z => by have := hd2.2.1; rw [z, hfb] at this; cases this
  have dbf' : db ≠ fb := fun z => by have := hd2.2.2.1; rw [z, hfb] at this; cases this
  have hdf : hd ≠ fa := fun z => by have := s2 _ _ ehd; rw [z, hfa] at this; cases this
  have hdf' : hd ≠ fb := fun z => by have := s2 _ _ ehd; rw [z, hfb] at this; cases this
  have s24 : Same H2 H4 := s3.trans s4
  refine ⟨_, rfl, tf, _, _, _, rfl, rfl, f4.1, rfl, .inl ⟨rfl, _, SqL.of f4.2.1⟩, fa, fza, rfl, rfl, f4.2.1, ?_⟩
  have f5 : SqT K (upd H4 fa (.lst [])) tf [.ref fa, .ref fb] := f4.1.put f4.2.1
  have efb5 : (upd H4 fa (.lst [])) fb = some (.lst fzb) := by rw [upd_ne (Ne.symm fab)]; exact f4.2.2.1
  refine ⟨_, rfl, tf, _, _, _, rfl, rfl, f5, rfl, .inl ⟨rfl, _, SqL.of efb5⟩, P2, fun t7 ht7 => ?_⟩
  have s6 : Same (upd H4 fa (.lst [])) (upd (upd H4 fa (.lst [])) t7 (.tup [.int 0, .int 1])) := Same.new ht7
  have fzl := f4.2.2.2.2.length
  rw [upL_length] at fzl
  refine ⟨fb, fzb, .ref t7, rfl, rfl, s6 _ _ efb5, Nat.lt_of_lt_of_le (show fzb.length < 300 by omega) (by decide), ?_⟩
  have S : Same H2 (upd (upd (upd H4 fa (.lst [])) t7 (.tup [.int 0, .int 1])) fb (.lst (fzb ++ [.ref t7]))) := ((s24.put hfa).trans s6).put hfb
  generalize upd (upd (upd H4 fa (.lst [])) t7 (.tup [.int 0, .int 1])) fb (.lst (fzb ++ [.ref t7])) = H7 at S ⊢
  refine ⟨_, rfl, hd, xs, qs, n, rfl, SqL.of (S _ _ (s2 _ _ ehd)), Nums.same hn (s12.trans S), h1, h8, hb, hn1, hn5, fun tg ga gb H8 gza gzb s8 _ _ _ hg8 => ⟨_, rfl, ?_⟩⟩
  refine eqTwo hg8 (hd2.same (S.trans s8)) ?_
  exact q _ ((s12.trans S).trans s8)
theorem sc__law_curve : FnScope ["_law_pen_here", "_law_most", "_law_some"] ["_law_pen_here", "_law_most"] (defScope (top 34)) := ⟨rfl, rfl, rfl, by decide +kernel, rfl, by decide +kernel, by decide +kernel⟩
set_option maxHeartbeats 4000000 in
theorem ok__law_curve {f : Addr} {fd : FuncData} (F : Fun K "_law_curve" "_law_curve" (top 34) f fd) (F__law_number : Fd P w K mg base 34 "_law_number" ["_law_pen_here"] (spNum 8)) (F__law_draw : Fd P w K mg base 33 "_law_draw" ["_law_pen_here", "_law_many"] (spDraw)) (b_tuple : mg "tuple" = none) (b_range : mg "range" = none) (hT : P.given.tree = none) :
    FnOk P w K mg base CX0 35 f fd ["_law_pen_here", "_law_most"] (spCurve K 8) := by
  refine F.ok sc__law_curve (fun vs H Q E h => ?_) (fun cdv A outer s H vs Q E hr h => ?_)
  · obtain ⟨_, _, rfl, _⟩ := h; rfl
  refine ⟨_, (pss_cons (ps_lc (i := 2) rfl sc__law_curve.nd rfl rfl (N := ["_law_k", "_law_pen_here"]) (nt := 1) (js := [0]) (CompOk.look (NX := ["_law_pen_here", "_law_most", "_law_some"]) (sc := defScope (top 34)) rfl rfl (by decide +kernel)) (pi_range1 rfl b_range (pa_cons (pe_fn F__law_draw hr rfl (pa_cons (pv 0) (pa_cons (pe_op op_add (pv 1) pe_int) pa_nil))) pa_nil)) (fun _ _ _ _ _ => (pg_name (i := 0) (show List.Nodup (["_law_k", "_law_pen_here"] : List Str) from by decide +kernel) rfl (Or.inl rfl))) (stays_name (by decide)) (fun _ _ _ _ _ => pts_nil) (fun _ _ _ _ _ => (pe_fn F__law_number hr rfl (pa_cons (pv 1) pa_nil))) rfl)
    (pss_cons (ps_while PassesOwn.never (PW.pt (pw_and (pt_cmpR (neD K hr.units) (pv 2) (pe_lst pa_nil) (nomark _)) (pw_and1 (pt_cmpR (eqD K hr.units) (pe_ix (ixL K) (pv 2) (pe_un un_neg pe_int) (fun _ _ => rfl)) (pe_tup (pa_cons pe_int (pa_cons pe_int pa_nil))) (nomark _))))) (pss_one (ps_expr (pe_bm0 PySem.F.plainAttrs_list PySem.F.slot_list_pop PySem.F.type_list_pop mt_pop (pv 2)))))
    (pss_one (ps_ret (pe_callTy (tupleK K) rfl b_tuple bt_tuple (pa_cons (pv 2) pa_nil)))))), ?_⟩
  refine absG fun GG kG => ?_
  obtain ⟨a, most, rfl, pn, h0, h1, q⟩ := h
  refine kG ?_
  clear kG GG
  have P0 : 0 ≤ sizeLine := by decide
  have P2 : 2 ≤ sizeLine := by decide
  refine lc_of ⟨_, rfl, _, rfl, _, _, rfl, rfl, a, most + 1, rfl, pn, by omega, by omega, fun n H1 n0 n1 o1 p1 => ⟨n, rfl, by omega, by omega, ?_⟩⟩
  have hN : (n.toNat : Int) ≤ most := by omega
  generalize n.toNat = N at hN
  refine lc_itr (fun i zs H' => Mv a H H' ∧ Pen H' a ∧ zs.length = i ∧ ∃ qs, Nums K H' zs qs ∧ ∀ q ∈ qs, RB 8 q) ⟨o1.mv, p1, rfl, [], .nil, (fun _ h => nomatch h)⟩ (fun i zs H' _ h => h.2.2.1) (Nat.le_of_lt (small1000 (by omega))) ?_ ?_
  · rintro i zs H' hi hR2
    refine absG fun GG kG => ?_
    obtain ⟨mv, pn', hz, qs, hq, hb⟩ := hR2
    refine kG ?_
    clear kG GG
    refine ⟨_, rfl, a, rfl, pn', fun x r H3 m3 p3 hr bn bd => ⟨mv.trans m3, p3, by simp [hz], qs ++ [x], Paired.snoc (Nums.mv hq pn' m3) (NumV.of hr), fun c hc => ?_⟩⟩
    rcases List.mem_append.mp hc with z | z
    · exact hb c z
    · have e : c = x := by simpa using z
      subst e; exact ⟨bn, bd⟩
  rintro zs Hz hR3 l hl
  refine absG fun GG kG => ?_
  obtain ⟨mvz, pnz, hzl, qs, hqz, hb⟩ := hR3
  refine kG ?_
  clear kG GG
  have hql : qs.length = N := by rw [← hqz.length]; exact hzl
  have la : l ≠ a := by
    refine absG fun GG kG => ?_
    obtain ⟨x0, x1, x2, ex⟩ := pnz
    refine kG ?_
    clear kG GG
    exact (ne_of_none ex hl).symm
  have hHl : H l = none := by
    cases z : H l with
    | none => rfl
    | some u => rw [mvz l u la z] at hl; cases hl
  refine wh_by (fun σ H' => Mv a H H' ∧ Pen H' a ∧ Nums K H' zs qs ∧ σ = [some (.ref a), some (.int most), some (.ref l)] ∧ ∃ v, v ≤ N ∧ H' l = some (.lst (zs.take v)) ∧ ∀ j q, v ≤ j → qs[j]? = some q → q = 0)
    (fun _ H' => match H' l with | some (.lst xs) => xs.length | _ => 0) ⟨Mv.put' mvz hHl, pnz.same hl, Nums.same hqz (Same.new hl), rfl, N, Nat.le_refl _, by rw [List.take_of_length_le (by omega)]; exact upd_same, fun j c hj e => absurd (List.getElem?_eq_some_iff.mp e).1 (by omega)⟩ ?_
  rintro σ Hc hR5
  refine absG fun GG kG => ?_
  obtain ⟨mv, pn', hq, rfl, v, hv, el, hall⟩ := hR5
  refine kG ?_
  clear kG GG
  refine ⟨_, rfl, P0, fun e he => ?_⟩
  have sE : Same Hc (upd Hc e (.lst [])) := Same.new he
  refine eqL (ps := qs.take v) (qs := []) (SqL.of (sE _ _ el)) (Paired.take v (Nums.same hq sE)) (SqL.of upd_same) .nil ?_
  refine ⟨_, rfl, ?_⟩
  have fin : (v = 0 ∨ ∃ q, qs[v - 1]? = some q ∧ q ≠ 0) → qs.take v = Cv.strip qs := fun hc => Cv.take_strip qs v hall hc
  by_cases hv0 : v = 0
  · have e0 : qs.take v = [] := by rw [hv0]; rfl
    rw [decide_eq_true e0]
    refine iteF (iteF ?_)
    refine ⟨_, rfl, l, _, rfl, .inl ⟨SqL.of (sE _ _ el), fun r hr => ?_⟩⟩
    have sZ := sE.trans (Same.new (o := .tup (zs.take v)) hr)
    refine q (qs.take v) r _ (mv.trans sZ.mv) (pn'.sm sZ) ⟨zs.take v, SqT.of upd_same, Paired.take v (Nums.same hq sZ)⟩ ?_ ?_ fun c hc => hb c (List.mem_of_mem_take hc)
    · rw [fin (.inl hv0)]; exact good_strip _
    · rw [List.length_take]; omega
  
  have hvi : v - 1 < qs.length := by omega
  have hqv : qs[v - 1]? = some qs[v - 1] := List.getElem?_eq_getElem hvi
  have hne : qs.take v ≠ [] := fun z => by
    have := congrArg List.length z
    rw [List.length_take, Nat.min_eq_left (by omega)] at this
    exact hv0 this
  rw [decide_eq_false hne]
  refine iteT ?_
  refine absG fun GG kG => ?_
  obtain ⟨x, hx, hxn⟩ := Paired.get' hq hqv
  refine kG ?_
  clear kG GG
  have hlast : (zs.take v)[(zs.take v).length - 1]? = some x := by
    rw [List.length_take, Nat.min_eq_left (by omega), List.getElem?_take, if_pos (by omega)]
    exact hx
  refine ⟨_, rfl, _, rfl, l, _, _, x, rfl, rfl, SqL.of (sE _ _ el), atI_back hlast, P2, fun t0 ht0 => ?_⟩
  have sF := sE.trans (Same.new (o := .tup [.int 0, .int 1]) ht0)
  refine eqN (q := 0) (hxn.same sF) (NumV.of (upd_same (o := nT 0))) ?_
  refine ⟨_, rfl, ?_⟩
  by_cases hq0 : qs[v - 1] = 0
  · rw [decide_eq_true hq0]
    refine iteT (wh_go ?_)
    have elF := sF _ _ el
    refine ⟨_, rfl, .inl ⟨rfl, _, SqL.of elF⟩, l, _, x, rfl, rfl, elF, hlast, ?_⟩
    refine ⟨⟨Mv.put' (mv.trans sF.mv) hHl, ?_, Nums.put (Nums.same hq sF) elF, rfl, v - 1, by omega, ?_, fun j c hj e => ?_⟩, ?_⟩
    · refine absG fun GG kG => ?_
      obtain ⟨x0, x1, x2, ex⟩ := pn'.sm sF
      refine kG ?_
      clear kG GG
      exact ⟨x0, x1, x2, by rw [upd_ne (Ne.symm la)]; exact ex⟩
    · rw [upd_same, List.dropLast_eq_take, List.length_take, Nat.min_eq_left (by omega), List.take_take, Nat.min_eq_left (by omega)]
    · by_cases hjv : v ≤ j
      · exact hall j c hjv e
      · have : j = v - 1 := by omega
        subst this
        rw [hqv] at e
        cases e
        exact hq0
    · show (match upd _ l _ l with | some (.lst xs) => xs.length | _ => 0) < (match Hc l with | some (.lst xs) => xs.length | _ => 0)
      rw [upd_same, el]
      show (zs.take v).dropLast.length < (zs.take v).length
      have e1 : (zs.take v).length = v := by rw [List.length_take, Nat.min_eq_left (by omega)]
      rw [List.length_dropLast, e1]
      exact Nat.sub_lt (Nat.pos_of_ne_zero hv0) Nat.zero_lt_one
  · rw [decide_eq_false hq0]
    refine iteF ?_
    refine ⟨_, rfl, l, _, rfl, .inl ⟨SqL.of (sF _ _ el), fun r hr => ?_⟩⟩
    have sZ := sF.trans (Same.new (o := .tup (zs.take v)) hr)
    refine q (qs.take v) r _ (mv.trans sZ.mv) (pn'.sm sZ) ⟨zs.take v, SqT.of upd_same, Paired.take v (Nums.same hq sZ)⟩ ?_ ?_ fun c hc => hb c (List.mem_of_mem_take hc)
    · rw [fin (.inr ⟨_, hqv, hq0⟩)]; exact good_strip _
    · rw [List.length_take]; omega
theorem sc__law_less : FnScope ["_law_a", "_law_b"] ["_law_a", "_law_b"] (defScope (top 40)) := ⟨rfl, rfl, rfl, by decide +kernel, rfl, by decide +kernel, by decide +kernel⟩
set_option maxHeartbeats 4000000 in
theorem ok__law_less {f : Addr} {fd : FuncData} (F : Fun K "_law_less" "_law_less" (top 40) f fd) (hT : P.given.tree = none) :
    FnOk P w K mg base CX0 33 f fd ["_law_a", "_law_b"] (spLess K) := by
  refine F.ok sc__law_less (fun vs H Q E h => ?_) (fun cdv A outer s H vs Q E hr h => ?_)
  · obtain ⟨_, _, _, _, _, _, rfl, _⟩ := h; rfl
  refine ⟨_, (pss_one (ps_ret (pe_cmpR op_lt (pe_op op_mulC (pe_ix (ixT K) (pv 0) pe_int (fun _ _ => rfl)) (pe_ix (ixT K) (pv 1) pe_int (fun _ _ => rfl))) (pe_op op_mulC (pe_ix (ixT K) (pv 1) pe_int (fun _ _ => rfl)) (pe_ix (ixT K) (pv 0) pe_int (fun _ _ => rfl))) (nomark _)))), ?_⟩
  refine absG fun GG kG => ?_
  obtain ⟨x, y, p, q, m, n, rfl, ⟨r, rfl, hr'⟩, ⟨u, rfl, hu⟩, hp, hq, hmn, k⟩ := h
  refine kG ?_
  clear kG GG
  refine ⟨_, rfl, r, _, _, _, rfl, rfl, hr', rfl, _, rfl, u, _, _, _, rfl, rfl, hu, rfl, _, _, rfl, rfl, MulC.bd hp.1 hq.2, ?_⟩
  refine ⟨_, rfl, u, _, _, _, rfl, rfl, hu, rfl, _, rfl, r, _, _, _, rfl, rfl, hr', rfl, _, _, rfl, rfl, MulC.bd hq.1 hp.2, _, _, rfl, rfl, ?_⟩
  have e := less_eq p q
  show Q (.bl (decide (p.num * q.den < q.num * p.den))) H
  rw [e]
  exact k
theorem sc_law : FnScope ["_law_script", "_law_pen_here", "_law_curve_here", "_law_low", "_law_high", "_law_middle", "_law_some", "_law_lower", "_law_upper", "_law_whole_here", "_law_least", "_law_most"] ["_law_script"] (defScope (top 43)) := ⟨rfl, rfl, rfl, by decide +kernel, rfl, by decide +kernel, by decide +kernel⟩
set_option maxHeartbeats 4000000 in
theorem ok_law {f : Addr} {fd : FuncData} (F : Fun K "law" "law" (top 43) f fd) (F__law_pen : Fd P w K mg base 33 "_law_pen" ["_law_script", "_law_k"] (spPen K)) (F__law_stretch : Fd P w K mg base 35 "_law_stretch" ["_law_pen_here"] (spStr K)) (F__law_times : Fd P w K mg base 34 "_law_times" ["_law_a", "_law_b"] (spBin K (· * ·))) (F_heights_of : Fd P w K mg base 37 "heights_of" ["curve", "low", "high"] (spHts K)) (F_halves_of : Fd P w K mg base 35 "halves_of" ["some"] (spLH K)) (F_bounds_of : Fd P w K mg base 38 "bounds_of" ["curve", "low", "high"] (spBds K)) (F__law_right : Fd P w K mg base 37 "_law_right" ["_law_some"] (spR38 K)) (F__law_curve : Fd P w K mg base 35 "_law_curve" ["_law_pen_here", "_law_most"] (spCurve K 8)) (F__law_plus : Fd P w K mg base 34 "_law_plus" ["_law_a", "_law_b"] (spBin K (· + ·))) (F__law_number : Fd P w K mg base 34 "_law_number" ["_law_pen_here"] (spNum 8)) (F__law_draw : Fd P w K mg base 33 "_law_draw" ["_law_pen_here", "_law_many"] (spDraw)) (F__law_less : Fd P w K mg base 33 "_law_less" ["_law_a", "_law_b"] (spLess K)) (b_range : mg "range" = none) (hT : P.given.tree = none) :
    FnOk P w K mg base CX0 39 f fd ["_law_script"] (spLaw K) := by
  refine F.ok sc_law (fun vs H Q E h => ?_) (fun cdv A outer s H vs Q E hr h => ?_)
  · obtain ⟨_, _, rfl, _⟩ := h; rfl
  refine ⟨_, (pss_cons (ps_set (i := 1) sc_law.nd rfl (Or.inr rfl) (pe_fn F__law_pen hr rfl (pa_cons (pv 0) (pa_cons pe_int pa_nil))))
    (pss_cons (ps_if (pt_not (pt_val (pe_fn F__law_right hr rfl (pa_cons (pe_lc rfl (N := ["_law_k", "_law_pen_here"]) (nt := 1) (js := [1]) (CompOk.look (NX := ["_law_script", "_law_pen_here", "_law_curve_here", "_law_low", "_law_high", "_law_middle", "_law_some", "_law_lower", "_law_upper", "_law_whole_here", "_law_least", "_law_most"]) (sc := defScope (top 43)) rfl rfl (by decide +kernel)) (pi_range1 rfl b_range (pa_cons (pe_op op_add pe_int (pe_fn F__law_draw hr rfl (pa_cons (pv 1) (pa_cons pe_int pa_nil)))) pa_nil)) (fun _ _ _ _ _ => (pg_name (i := 0) (show List.Nodup (["_law_k", "_law_pen_here"] : List Str) from by decide +kernel) rfl (Or.inl rfl))) (stays_name (by decide)) (fun _ _ _ _ _ => pts_nil) (fun _ _ _ _ _ => (pe_fn F__law_number hr rfl (pa_cons (pv 1) pa_nil)))) pa_nil)))) (pss_one (ps_ret pe_bl)) pss_nil)
    (pss_cons (ps_set (i := 2) sc_law.nd rfl (Or.inl rfl) (pe_op (catTA K) (pe_fn F__law_curve hr rfl (pa_cons (pv 1) (pa_cons pe_int pa_nil))) (pe_tup (pa_cons (pe_fn F__law_number hr rfl (pa_cons (pv 1) pa_nil)) (pa_cons (pe_tup (pa_cons pe_int (pa_cons (pe_op op_add pe_int (pe_fn F__law_draw hr rfl (pa_cons (pv 1) (pa_cons pe_int pa_nil)))) pa_nil))) pa_nil)))))
    (pss_cons (ps_set (i := 2) sc_law.nd rfl (Or.inl rfl) (pe_slice (slTA K) (pv 2) (po_some (pe_fn F__law_draw hr rfl (pa_cons (pv 1) (pa_cons pe_int pa_nil)))) po_none))
    (pss_cons (ps_asg (pe_fn F__law_stretch hr rfl (pa_cons (pv 1) pa_nil)) (pgT K (n := 2) rfl (pgs_cons (pg_name (i := 3) sc_law.nd rfl (Or.inl rfl)) (pgs_cons (pg_name (i := 4) sc_law.nd rfl (Or.inl rfl)) pgs_nil))))
    (pss_cons (ps_set (i := 5) sc_law.nd rfl (Or.inl rfl) (pe_fn F__law_times hr rfl (pa_cons (pe_fn F__law_plus hr rfl (pa_cons (pv 3) (pa_cons (pv 4) pa_nil))) (pa_cons (pe_tup (pa_cons pe_int (pa_cons pe_int pa_nil))) pa_nil))))
    (pss_cons (ps_set (i := 6) sc_law.nd rfl (Or.inl rfl) (pe_fn F_heights_of hr rfl (pa_cons (pv 2) (pa_cons (pv 3) (pa_cons (pv 4) pa_nil)))))
    (pss_cons (ps_if (pt_not (pt_val (pe_fn F__law_right hr rfl (pa_cons (pv 6) pa_nil)))) (pss_one (ps_ret pe_bl)) pss_nil)
    (pss_cons (ps_asg (pe_fn F_halves_of hr rfl (pa_cons (pv 6) pa_nil)) (pgT K (n := 2) rfl (pgs_cons (pg_name (i := 7) sc_law.nd rfl (Or.inl rfl)) (pgs_cons (pg_name (i := 8) sc_law.nd rfl (Or.inl rfl)) pgs_nil))))
    (pss_cons (ps_if (PW.pt (pw_or (pt_cmpR (neD K hr.units) (pe_fn F_heights_of hr rfl (pa_cons (pv 2) (pa_cons (pv 3) (pa_cons (pv 5) pa_nil)))) (pv 7) (nomark _)) (pw_or1 (pt_cmpR (neD K hr.units) (pe_fn F_heights_of hr rfl (pa_cons (pv 2) (pa_cons (pv 5) (pa_cons (pv 4) pa_nil)))) (pv 8) (nomark _))))) (pss_one (ps_ret pe_bl)) pss_nil)
    (pss_cons (ps_set (i := 9) sc_law.nd rfl (Or.inl rfl) (pe_fn F_bounds_of hr rfl (pa_cons (pv 2) (pa_cons (pv 3) (pa_cons (pv 4) pa_nil)))))
    (pss_cons (ps_for PassesOwn.never rfl (piL K (pe_lst (pa_cons (pe_fn F_bounds_of hr rfl (pa_cons (pv 2) (pa_cons (pv 3) (pa_cons (pv 5) pa_nil)))) (pa_cons (pe_fn F_bounds_of hr rfl (pa_cons (pv 2) (pa_cons (pv 5) (pa_cons (pv 4) pa_nil)))) pa_nil)))) (pgT K (n := 2) rfl (pgs_cons (pg_name (i := 10) sc_law.nd rfl (Or.inl rfl)) (pgs_cons (pg_name (i := 11) sc_law.nd rfl (Or.inl rfl)) pgs_nil))) (pss_one (ps_if (PW.pt (pw_or (pt_val (pe_fn F__law_less hr rfl (pa_cons (pv 10) (pa_cons (pe_ix (ixT K) (pv 9) pe_int (fun _ _ => rfl)) pa_nil)))) (pw_or1 (pt_val (pe_fn F__law_less hr rfl (pa_cons (pe_ix (ixT K) (pv 9) pe_int (fun _ _ => rfl)) (pa_cons (pv 11) pa_nil))))))) (pss_one (ps_ret pe_bl)) pss_nil)))
    (pss_one (ps_ret pe_bl)))))))))))))), ?_⟩
  refine absG fun GG kG => ?_
  obtain ⟨a, ns, rfl, hS, h63, q⟩ := h
  refine kG ?_
  clear kG GG
  have P2 : 2 ≤ sizeLine := by decide
  refine ⟨_, rfl, a, ns, 0, rfl, hS, h63, by decide, by decide, fun p c0 c1 hp => ?_⟩
  have pn : Pen (upd H p (.lst [.int c0, .int c1, .int 0])) p := .put
  generalize upd H p (.lst [.int c0, .int c1, .int 0]) = H1 at pn ⊢
  clear hS hp
  refine lc_of ⟨_, rfl, p, 8, rfl, pn, by decide, by decide, fun d H2 d0 d1 o2 p2 => ⟨_, _, rfl, rfl, _, rfl, by omega, by omega, ?_⟩⟩
  obtain ⟨N, hN⟩ : ∃ N, N = (1 + d).toNat := ⟨_, rfl⟩
  dsimp only
  rw [← hN]
  refine lc_nums (K := K) (n := 8) rfl p2 (by omega) (fun zs H3 qs m3 p3 hz hzl hql hbq => fun l hl => ?_)
  have s4 : Same H3 (upd H3 l (.lst zs)) := Same.new hl
  refine ⟨l, zs, qs, 8, rfl, SqL.of upd_same, Nums.same hz s4, by omega, by omega, hbq, by decide, by decide, fun H5 s5 => ⟨_, rfl, iteF ?_⟩⟩
  have p5 := p3.sm (s4.trans s5)
  clear hz hzl hql hbq hl s4 s5 p3 m3 p2 o2 pn
  refine ⟨_, rfl, p, 5, rfl, p5, by decide, by decide, fun cs0 c0 H6 m6 p6 hc0 hg0 hcl0 hcb0 => ?_⟩
  refine ⟨_, rfl, p, rfl, p6, fun y ry H7 m7 p7 hry bn bd => ?_⟩
  refine ⟨_, rfl, p, 9, rfl, p7, by decide, by decide, fun e H8 e0 e1 o8 p8 => ⟨_, _, rfl, rfl, P2, fun t1 ht1 => ⟨P2, fun t2 ht2 => ?_⟩⟩⟩
  obtain ⟨E, hE⟩ : ∃ E : Nat, 1 + e = (E : Int) := ⟨(1 + e).toNat, by omega⟩
  have hE1 : 1 ≤ E ∧ E ≤ 9 := by omega
  obtain ⟨w, hwn, hwd, hw0⟩ : ∃ w : Rat, w.num = 1 ∧ (w.den : Int) = 1 + e ∧ w ≠ 0 := ⟨⟨1, E, by omega, by show Nat.gcd 1 E = 1; exact Nat.gcd_one_left E⟩, rfl, hE.symm, fun z => by have := congrArg Rat.num z; simp at this⟩
  have ew : nT w = .tup [.int 1, .int (1 + e)] := by unfold nT; rw [hwn, hwd]
  have hwb : RB 8 w := ⟨by rw [hwn]; unfold Bd; decide, by rw [hwd]; unfold Bd; omega⟩
  have et1 : (upd H8 t1 (.tup [.int 1, .int (1 + e)])) t1 = some (nT w) := by rw [ew]; exact upd_same
  have s9 := (Same.new (o := .tup [.int 1, .int (1 + e)]) ht1).trans (Same.new (o := .tup [.ref ry, .ref t1]) ht2)
  refine absG fun GG kG => ?_
  obtain ⟨xc, hxc, hxn⟩ := (hc0.mv p6 (m7.trans o8.mv)).same s9
  refine kG ?_
  clear kG GG
  have hxl := hxn.length
  refine cat_pts hxc (SqT.of upd_same) (Nat.le_trans (show _ ≤ 300 by show _ + 2 ≤ 300; omega) (by decide)) (fun c1 H10 s10 hc1 => ?_)
  have hry8 := o8.mv _ _ (p7.ne hry (nT_ne y)) hry
  have hn10 : Nums K H10 (xc ++ [.ref ry, .ref t1]) (cs0 ++ [y, w]) := Nums.same (Paired.append hxn (.cons (NumV.of (s9 _ _ hry8)) (.cons (NumV.of ((Same.new ht2) _ _ et1)) .nil))) s10
  have p10 := (p8.sm s9).sm s10
  have hcb1 : ∀ q ∈ cs0 ++ [y, w], RB 8 q := fun q hq => by
    rcases List.mem_append.mp hq with z | z
    · exact hcb0 q z
    · rcases List.mem_cons.mp z with z | z
      · rw [z]; exact ⟨bn, bd⟩
      · rw [List.mem_singleton.mp z]; exact hwb
  refine ⟨_, rfl, _, rfl, p, 2, rfl, p10, by decide, by decide, fun g H11 g0 g1 o11 p11 => ?_⟩
  obtain ⟨G, rfl⟩ : ∃ G : Nat, g = (G : Int) := ⟨g.toNat, by omega⟩
  have hc11 := hc1.mv p10 o11.mv
  have hn11 := hn10.mv p10 o11.mv
  refine ⟨_, rfl, slice_from hc11 (by rw [List.length_append]; show G ≤ _ + 2; omega) fun c H12 s12 hc12 => ?_⟩
  obtain ⟨cs, hcs⟩ : ∃ cs, cs = (cs0 ++ [y, w]).drop G := ⟨_, rfl⟩
  have hc : Crv K H12 c cs := ⟨_, hc12, by rw [hcs]; exact paired_drop G (Nums.same hn11 s12)⟩
  have hcl : 1 ≤ cs.length ∧ cs.length ≤ 7 := by rw [hcs, List.length_drop, List.length_append]; show 1 ≤ _ + 2 - G ∧ _ + 2 - G ≤ 7; omega
  have hg : Good cs := .inr ⟨w, by
    have e1 : (cs0 ++ [y, w])[cs0.length + 1]? = some w := by rw [List.getElem?_append_right (by omega), show cs0.length + 1 - cs0.length = 1 by omega]; rfl
    have e2 : cs.length - 1 + G = cs0.length + 1 := by rw [hcs, List.length_drop, List.length_append]; show _ + 2 - G - 1 + G = _; omega
    conv => lhs; rw [hcs]
    rw [List.getElem?_drop, ← hcs, show G + (cs.length - 1) = cs0.length + 1 by omega]; exact e1, hw0⟩
  have hcb : ∀ q ∈ cs, RB 100 q := fun q hq => by rw [hcs] at hq; exact (hcb1 q (List.mem_of_mem_drop hq)).mono (by decide)
  have p12 := p11.sm s12
  clear hcs hc12 hn11 hc11 p11 o11 hcb1 p10 hn10 hry8 hc1 s10 hxl hxn hxc s9 et1 ew hwb ht1 ht2 p8 o8 p7 m7 hry hc0 p6 m6 hcb0 p5
  refine ⟨_, rfl, p, rfl, p12, fun t rl rh lo hi H13 m13 p13 et hlo hhi hlt bl bh => ?_⟩
  refine ⟨t, _, rfl, SqT.of et, rfl, _, _, rfl, _, _, rfl, rfl, ?_⟩
  have hc13 := hc.mv p12 m13
  clear hc p12 m13 p13 et
  refine ⟨_, rfl, _, rfl, _, _, lo, hi, 20, 20, rfl, hlo, hhi, bl, bh, by decide, fun r1 hr1 => ⟨P2, fun t3 ht3 => ?_⟩⟩
  have s14 := (Same.new (o := nT (lo + hi)) hr1).trans (Same.new (o := .tup [.int 1, .int 2]) ht3)
  refine ⟨_, _, lo + hi, hf, 41, 2, rfl, NumV.of ((Same.new ht3) _ _ upd_same), NumV.of (upd_same (o := nT hf)), RB.plus bl bh, hf_rb, by decide, fun rm hrm => ?_⟩
  have s15 := s14.trans (Same.new (o := nT ((lo + hi) * hf)) hrm)
  have hmid : NumV K (upd (upd (upd H13 r1 (nT (lo + hi))) t3 (.tup [.int 1, .int 2])) rm (nT ((lo + hi) * hf))) (.ref rm) ((lo + hi) * hf) := NumV.of upd_same
  generalize upd (upd (upd H13 r1 (nT (lo + hi))) t3 (.tup [.int 1, .int 2])) rm (nT ((lo + hi) * hf)) = H15 at s15 hmid ⊢
  have bmid : RB 100 ((lo + hi) * hf) := ((RB.plus bl bh).times hf_rb).mono (by decide)
  have bl' : RB 100 lo := bl.mono (by decide)
  have bh' : RB 100 hi := bh.mono (by decide)
  obtain ⟨hl1, hl2⟩ := mid_lt hlt
  have hc15 := hc13.same s15
  have hlo15 := hlo.same s15
  have hhi15 := hhi.same s15
  clear hc13 hlo hhi s14 s15 hr1 ht3 hrm
  refine ⟨_, rfl, _, rfl, _, rfl, c, rl, rh, cs, lo, hi, 100, rfl, hc15, hg, hlo15, hhi15, hlt, hcb, bl', bh', by decide, hcl.2, fun ls H16 zs s16 hls els hzn hzb => ?_⟩
  have hhl := L2.hts_length cs lo hi
  refine ⟨_, rfl, ls, zs, _, 60000, rfl, SqL.of els, hzn, by omega, by omega, hzb, by decide, by decide, fun H17 s17 => ⟨_, rfl, iteF ?_⟩⟩
  have s157 := s16.trans s17
  refine ⟨_, rfl, ls, zs, _, 60000, rfl, SqL.of (s17 _ _ els), Nums.same hzn s17, by omega, by omega, hzb, by decide, by decide, fun tt la lb H18 za zb s18 _ _ _ h18 => ?_⟩
  refine ⟨tt, _, rfl, h18.1, rfl, _, _, rfl, _, _, rfl, rfl, ?_⟩
  have s158 := s157.trans s18
  refine ⟨_, rfl, _, rfl, _, rfl, c, rl, rm, cs, lo, (lo + hi) * hf, 100, rfl, hc15.same s158, hg, hlo15.same s158, hmid.same s158, hl1, hcb, bl', bmid, by decide, hcl.2, fun l1 H19 z1 s19 _ e1 hz1 _ => ⟨_, rfl, ?_⟩⟩
  have h19 := h18.same s19
  refine eqL (SqL.of e1) hz1 (SqL.of h19.2.1) h19.2.2.2.1 ?_
  rw [decide_eq_true (hts_low cs lo hi)]
  refine ⟨_, rfl, iteF ?_⟩
  have s159 := s158.trans s19
  refine ⟨_, rfl, _, rfl, _, rfl, c, rm, rh, cs, (lo + hi) * hf, hi, 100, rfl, hc15.same s159, hg, hmid.same s159, hhi15.same s159, hl2, hcb, bmid, bh', by decide, hcl.2, fun l2 H20 z2 s20 _ e2 hz2 _ => ⟨_, rfl, ?_⟩⟩
  have h20 := h19.same s20
  refine eqL (SqL.of e2) hz2 (SqL.of h20.2.2.1) h20.2.2.2.2 ?_
  rw [decide_eq_true (hts_up cs lo hi)]
  refine ⟨_, rfl, iteF ?_⟩
  have s160 := s159.trans s20
  clear hz1 hz2 e1 e2 h18 h19 h20 hzn hzb els
  refine ⟨_, rfl, _, rfl, _, rfl, c, rl, rh, cs, lo, hi, 100, rfl, hc15.same s160, hg, hlo15.same s160, hhi15.same s160, hlt, hcb, bl', bh', by decide, hcl.2, fun wf H21 x1 x2 m M s21 ewf hx1 hx2 _ _ hmM bm bM => ?_⟩
  have s161 := s160.trans s21
  refine ⟨_, rfl, _, rfl, _, rfl, c, rl, rm, cs, lo, (lo + hi) * hf, 100, rfl, hc15.same s161, hg, hlo15.same s161, hmid.same s161, hl1, hcb, bl', bmid, by decide, hcl.2, fun w1 H22 u1 u2 m1 M1 s22 ew1 hu1 hu2 hm1 hM1 _ bm1 bM1 => ?_⟩
  have s162 := s161.trans s22
  refine ⟨_, rfl, _, rfl, _, rfl, c, rm, rh, cs, (lo + hi) * hf, hi, 100, rfl, hc15.same s162, hg, hmid.same s162, hhi15.same s162, hl2, hcb, bmid, bh', by decide, hcl.2, fun w2 H23 v1 v2 m2 M2 s23 ew2 hv1 hv2 hm2 hM2 _ bm2 bM2 => ⟨P2, fun lf hlf => ?_⟩⟩
  rw [hts_low] at hm1 hM1
  rw [hts_up] at hm2 hM2
  have i1 := half_in hmM (.inl hm1)
  have i2 := half_in hmM (.inl hM1)
  have i3 := half_in hmM (.inr hm2)
  have i4 := half_in hmM (.inr hM2)
  have s24 : Same H23 (upd H23 lf (.lst [.ref w1, .ref w2])) := Same.new hlf
  have elf : (upd H23 lf (.lst [.ref w1, .ref w2])) lf = some (.lst [.ref w1, .ref w2]) := upd_same
  generalize upd H23 lf (.lst [.ref w1, .ref w2]) = H24 at s24 elf ⊢
  have s224 := s23.trans s24
  have s214 := s22.trans s224
  have nlt : ∀ {x y : Rat}, x ≤ y → ¬ y < x := fun h z => absurd h (by grind)
  refine ⟨lf, rfl, ⟨_, SqL.of elf⟩, for_list (xs := [.ref w1, .ref w2]) (fun _ σ H' => H' = H24 ∧ ∃ z10 z11, σ = [some (.ref a), some (.ref p), some (.ref c), some (.ref rl), some (.ref rh), some (.ref rm), some (.ref ls), some (.ref la), some (.ref lb), some (.ref wf), z10, z11]) ⟨rfl, none, none, rfl⟩ (fun _ σ H' _ h => by rw [h.1]; exact SqL.of elf) ?_ ?_⟩
  · rintro j v σ H' hv hR3
    refine absG fun GG kG => ?_
    obtain ⟨rfl, z10, z11, rfl⟩ := hR3
    refine kG ?_
    clear kG GG
    have hT : ∃ (w : Addr) (y1 y2 : V) (k1 k2 : Rat), v = .ref w ∧ SqT K H' w [y1, y2] ∧ NumV K H' y1 k1 ∧ NumV K H' y2 k2 ∧ RB 60000 k1 ∧ RB 60000 k2 ∧ m ≤ k1 ∧ k2 ≤ M := by
      match j, hv with
      | 0, hv => cases hv; exact ⟨w1, u1, u2, m1, M1, rfl, SqT.of (s224 _ _ ew1), hu1.same s224, hu2.same s224, bm1, bM1, i1.1, i2.2⟩
      | 1, hv => cases hv; exact ⟨w2, v1, v2, m2, M2, rfl, SqT.of (s24 _ _ ew2), hv1.same s24, hv2.same s24, bm2, bM2, i3.1, i4.2⟩
      | j + 2, hv => exact absurd hv (by simp)
    refine absG fun GG kG => ?_
    obtain ⟨w, y1, y2, k1, k2, rfl, hw, hy1, hy2, b1, b2, c1, c2⟩ := hT
    refine kG ?_
    clear kG GG
    refine ⟨w, _, rfl, hw, rfl, _, _, rfl, _, _, rfl, rfl, ?_⟩
    have hwf := SqT.of (K := K) (s214 _ _ ewf)
    refine ⟨_, rfl, _, rfl, wf, _, _, _, rfl, rfl, hwf, rfl, _, _, k1, m, 60000, 60000, rfl, hy1, hx1.same s214, b1, bm, by decide, _, rfl, ?_⟩
    rw [decide_eq_false (nlt c1)]
    refine iteF ?_
    refine ⟨_, rfl, wf, _, _, _, rfl, rfl, hwf, rfl, _, rfl, _, _, M, k2, 60000, 60000, rfl, hx2.same s214, hy2, bM, b2, by decide, _, rfl, ?_⟩
    rw [decide_eq_false (nlt c2)]
    exact iteF ⟨rfl, _, _, rfl⟩
  rintro σ H' hR5
  refine absG fun GG kG => ?_
  obtain ⟨rfl, z10, z11, rfl⟩ := hR5
  refine kG ?_
  clear kG GG
  exact q _
end
set_option maxHeartbeats 4000000 in
theorem all_mk {l : PySem.W.OpenLaw} {w : World} {K : PySem.W.Frag} {h : Heap} {mg : Str → Option Value} {fa f1 f2 f3 f4 f5 f6 f7 f8 f9 f10 f11 f12 f13 f14 f15 f16 f17 f18 f19 f20 f21 f22 f23 f24 f25 f26 f27 f28 f29 f30 f31 f32 : Addr} (hT : l.prog.given.tree = none) (X : K.In h) (G : h.Ns mainGlobals mg) (hfa : mg "law" = some (.ref fa))
    {od1 an1 od2 an2 od3 an3 od4 an4 od5 an5 od6 an6 od7 an7 od8 an8 od9 an9 od10 an10 od11 an11 od12 an12 od13 an13 od14 an14 od15 an15 od16 an16 od17 an17 od18 an18 od19 an19 od20 an20 od21 an21 od22 an22 od23 an23 od24 an24 od25 an25 od26 an26 od27 an27 od28 an28 od29 an29 od30 an30 od31 an31 od32 an32 : Option Addr} {sl1 sl2 sl3 sl4 sl5 sl6 sl7 sl8 sl9 sl10 sl11 sl12 sl13 sl14 sl15 sl16 sl17 sl18 sl19 sl20 sl21 sl22 sl23 sl24 sl25 sl26 sl27 sl28 sl29 sl30 sl31 sl32 : Array (Option Value)} {oc1 kV1 dc1 pm1 cd1 ct1 oc2 kV2 dc2 pm2 cd2 ct2 oc3 kV3 dc3 pm3 cd3 ct3 oc4 kV4 dc4 pm4 cd4 ct4 oc5 kV5 dc5 pm5 cd5 ct5 oc6 kV6 dc6 pm6 cd6 ct6 oc7 kV7 dc7 pm7 cd7 ct7 oc8 kV8 dc8 pm8 cd8 ct8 oc9 kV9 dc9 pm9 cd9 ct9 oc10 kV10 dc10 pm10 cd10 ct10 oc11 kV11 dc11 pm11 cd11 ct11 oc12 kV12 dc12 pm12 cd12 ct12 oc13 kV13 dc13 pm13 cd13 ct13 oc14 kV14 dc14 pm14 cd14 ct14 oc15 kV15 dc15 pm15 cd15 ct15 oc16 kV16 dc16 pm16 cd16 ct16 oc17 kV17 dc17 pm17 cd17 ct17 oc18 kV18 dc18 pm18 cd18 ct18 oc19 kV19 dc19 pm19 cd19 ct19 oc20 kV20 dc20 pm20 cd20 ct20 oc21 kV21 dc21 pm21 cd21 ct21 oc22 kV22 dc22 pm22 cd22 ct22 oc23 kV23 dc23 pm23 cd23 ct23 oc24 kV24 dc24 pm24 cd24 ct24 oc25 kV25 dc25 pm25 cd25 ct25 oc26 kV26 dc26 pm26 cd26 ct26 oc27 kV27 dc27 pm27 cd27 ct27 oc28 kV28 dc28 pm28 cd28 ct28 oc29 kV29 dc29 pm29 cd29 ct29 oc30 kV30 dc30 pm30 cd30 ct30 oc31 kV31 dc31 pm31 cd31 ct31 oc32 kV32 dc32 pm32 cd32 ct32 : Value}
    (a1 : PySem.W.nsIn K mainGlobals "_law_pen" = some (some (.ref f1))) (l1 : K.lookup f1 = some ⟨oc1, od1, .func (PySem.W.fnOf "_law_pen" "_law_pen" (defArgs (top 27)) (defBody (top 27)) (defScope (top 27)) .none kV1 dc1 pm1 an1 cd1 ct1), sl1⟩) (c1 : PySem.W.codeIn K cd1 "_law_pen" = true) (k1 : PySem.W.keepIn K (.ref f1) = true)
    (a2 : PySem.W.nsIn K mainGlobals "_law_lowest" = some (some (.ref f2))) (l2 : K.lookup f2 = some ⟨oc2, od2, .func (PySem.W.fnOf "_law_lowest" "_law_lowest" (defArgs (top 29)) (defBody (top 29)) (defScope (top 29)) .none kV2 dc2 pm2 an2 cd2 ct2), sl2⟩) (c2 : PySem.W.codeIn K cd2 "_law_lowest" = true) (k2 : PySem.W.keepIn K (.ref f2) = true)
    (a3 : PySem.W.nsIn K mainGlobals "_law_draw" = some (some (.ref f3))) (l3 : K.lookup f3 = some ⟨oc3, od3, .func (PySem.W.fnOf "_law_draw" "_law_draw" (defArgs (top 28)) (defBody (top 28)) (defScope (top 28)) .none kV3 dc3 pm3 an3 cd3 ct3), sl3⟩) (c3 : PySem.W.codeIn K cd3 "_law_draw" = true) (k3 : PySem.W.keepIn K (.ref f3) = true)
    (a4 : PySem.W.nsIn K mainGlobals "_law_number" = some (some (.ref f4))) (l4 : K.lookup f4 = some ⟨oc4, od4, .func (PySem.W.fnOf "_law_number" "_law_number" (defArgs (top 33)) (defBody (top 33)) (defScope (top 33)) .none kV4 dc4 pm4 an4 cd4 ct4), sl4⟩) (c4 : PySem.W.codeIn K cd4 "_law_number" = true) (k4 : PySem.W.keepIn K (.ref f4) = true)
    (a5 : PySem.W.nsIn K mainGlobals "_law_plus" = some (some (.ref f5))) (l5 : K.lookup f5 = some ⟨oc5, od5, .func (PySem.W.fnOf "_law_plus" "_law_plus" (defArgs (top 30)) (defBody (top 30)) (defScope (top 30)) .none kV5 dc5 pm5 an5 cd5 ct5), sl5⟩) (c5 : PySem.W.codeIn K cd5 "_law_plus" = true) (k5 : PySem.W.keepIn K (.ref f5) = true)
    (a6 : PySem.W.nsIn K mainGlobals "_law_stretch" = some (some (.ref f6))) (l6 : K.lookup f6 = some ⟨oc6, od6, .func (PySem.W.fnOf "_law_stretch" "_law_stretch" (defArgs (top 37)) (defBody (top 37)) (defScope (top 37)) .none kV6 dc6 pm6 an6 cd6 ct6), sl6⟩) (c6 : PySem.W.codeIn K cd6 "_law_stretch" = true) (k6 : PySem.W.keepIn K (.ref f6) = true)
    (a7 : PySem.W.nsIn K mainGlobals "_law_times" = some (some (.ref f7))) (l7 : K.lookup f7 = some ⟨oc7, od7, .func (PySem.W.fnOf "_law_times" "_law_times" (defArgs (top 32)) (defBody (top 32)) (defScope (top 32)) .none kV7 dc7 pm7 an7 cd7 ct7), sl7⟩) (c7 : PySem.W.codeIn K cd7 "_law_times" = true) (k7 : PySem.W.keepIn K (.ref f7) = true)
    (a8 : PySem.W.nsIn K mainGlobals "common_measure" = some (some (.ref f8))) (l8 : K.lookup f8 = some ⟨oc8, od8, .func (PySem.W.fnOf "common_measure" "common_measure" (defArgs (top 5)) (defBody (top 5)) (defScope (top 5)) .none kV8 dc8 pm8 an8 cd8 ct8), sl8⟩) (c8 : PySem.W.codeIn K cd8 "common_measure" = true) (k8 : PySem.W.keepIn K (.ref f8) = true)
    (a9 : PySem.W.nsIn K mainGlobals "number_of" = some (some (.ref f9))) (l9 : K.lookup f9 = some ⟨oc9, od9, .func (PySem.W.fnOf "number_of" "number_of" (defArgs (top 6)) (defBody (top 6)) (defScope (top 6)) .none kV9 dc9 pm9 an9 cd9 ct9), sl9⟩) (c9 : PySem.W.codeIn K cd9 "number_of" = true) (k9 : PySem.W.keepIn K (.ref f9) = true)
    (a10 : PySem.W.nsIn K mainGlobals "over" = some (some (.ref f10))) (l10 : K.lookup f10 = some ⟨oc10, od10, .func (PySem.W.fnOf "over" "over" (defArgs (top 8)) (defBody (top 8)) (defScope (top 8)) .none kV10 dc10 pm10 an10 cd10 ct10), sl10⟩) (c10 : PySem.W.codeIn K cd10 "over" = true) (k10 : PySem.W.keepIn K (.ref f10) = true)
    (a11 : PySem.W.nsIn K mainGlobals "parts_along" = some (some (.ref f11))) (l11 : K.lookup f11 = some ⟨oc11, od11, .func (PySem.W.fnOf "parts_along" "parts_along" (defArgs (top 21)) (defBody (top 21)) (defScope (top 21)) .none kV11 dc11 pm11 an11 cd11 ct11), sl11⟩) (c11 : PySem.W.codeIn K cd11 "parts_along" = true) (k11 : PySem.W.keepIn K (.ref f11) = true)
    (a12 : PySem.W.nsIn K mainGlobals "bottom_of" = some (some (.ref f12))) (l12 : K.lookup f12 = some ⟨oc12, od12, .func (PySem.W.fnOf "bottom_of" "bottom_of" (defArgs (top 13)) (defBody (top 13)) (defScope (top 13)) .none kV12 dc12 pm12 an12 cd12 ct12), sl12⟩) (c12 : PySem.W.codeIn K cd12 "bottom_of" = true) (k12 : PySem.W.keepIn K (.ref f12) = true)
    (a13 : PySem.W.nsIn K mainGlobals "tops_over" = some (some (.ref f13))) (l13 : K.lookup f13 = some ⟨oc13, od13, .func (PySem.W.fnOf "tops_over" "tops_over" (defArgs (top 14)) (defBody (top 14)) (defScope (top 14)) .none kV13 dc13 pm13 an13 cd13 ct13), sl13⟩) (c13 : PySem.W.codeIn K cd13 "tops_over" = true) (k13 : PySem.W.keepIn K (.ref f13) = true)
    (a14 : PySem.W.nsIn K mainGlobals "is_less" = some (some (.ref f14))) (l14 : K.lookup f14 = some ⟨oc14, od14, .func (PySem.W.fnOf "is_less" "is_less" (defArgs (top 9)) (defBody (top 9)) (defScope (top 9)) .none kV14 dc14 pm14 an14 cd14 ct14), sl14⟩) (c14 : PySem.W.codeIn K cd14 "is_less" = true) (k14 : PySem.W.keepIn K (.ref f14) = true)
    (a15 : PySem.W.nsIn K mainGlobals "curve_of" = some (some (.ref f15))) (l15 : K.lookup f15 = some ⟨oc15, od15, .func (PySem.W.fnOf "curve_of" "curve_of" (defArgs (top 12)) (defBody (top 12)) (defScope (top 12)) .none kV15 dc15 pm15 an15 cd15 ct15), sl15⟩) (c15 : PySem.W.codeIn K cd15 "curve_of" = true) (k15 : PySem.W.keepIn K (.ref f15) = true)
    (a16 : PySem.W.nsIn K mainGlobals "curve_over" = some (some (.ref f16))) (l16 : K.lookup f16 = some ⟨oc16, od16, .func (PySem.W.fnOf "curve_over" "curve_over" (defArgs (top 15)) (defBody (top 15)) (defScope (top 15)) .none kV16 dc16 pm16 an16 cd16 ct16), sl16⟩) (c16 : PySem.W.codeIn K cd16 "curve_over" = true) (k16 : PySem.W.keepIn K (.ref f16) = true)
    (a17 : PySem.W.nsIn K mainGlobals "whole_product" = some (some (.ref f17))) (l17 : K.lookup f17 = some ⟨oc17, od17, .func (PySem.W.fnOf "whole_product" "whole_product" (defArgs (top 16)) (defBody (top 16)) (defScope (top 16)) .none kV17 dc17 pm17 an17 cd17 ct17), sl17⟩) (c17 : PySem.W.codeIn K cd17 "whole_product" = true) (k17 : PySem.W.keepIn K (.ref f17) = true)
    (a18 : PySem.W.nsIn K mainGlobals "with_line" = some (some (.ref f18))) (l18 : K.lookup f18 = some ⟨oc18, od18, .func (PySem.W.fnOf "with_line" "with_line" (defArgs (top 17)) (defBody (top 17)) (defScope (top 17)) .none kV18 dc18 pm18 an18 cd18 ct18), sl18⟩) (c18 : PySem.W.codeIn K cd18 "with_line" = true) (k18 : PySem.W.keepIn K (.ref f18) = true)
    (a19 : PySem.W.nsIn K mainGlobals "minus" = some (some (.ref f19))) (l19 : K.lookup f19 = some ⟨oc19, od19, .func (PySem.W.fnOf "minus" "minus" (defArgs (top 7)) (defBody (top 7)) (defScope (top 7)) .none kV19 dc19 pm19 an19 cd19 ct19), sl19⟩) (c19 : PySem.W.codeIn K cd19 "minus" = true) (k19 : PySem.W.keepIn K (.ref f19) = true)
    (a20 : PySem.W.nsIn K mainGlobals "heights_of" = some (some (.ref f20))) (l20 : K.lookup f20 = some ⟨oc20, od20, .func (PySem.W.fnOf "heights_of" "heights_of" (defArgs (top 22)) (defBody (top 22)) (defScope (top 22)) .none kV20 dc20 pm20 an20 cd20 ct20), sl20⟩) (c20 : PySem.W.codeIn K cd20 "heights_of" = true) (k20 : PySem.W.keepIn K (.ref f20) = true)
    (a21 : PySem.W.nsIn K mainGlobals "whole_halves" = some (some (.ref f21))) (l21 : K.lookup f21 = some ⟨oc21, od21, .func (PySem.W.fnOf "whole_halves" "whole_halves" (defArgs (top 24)) (defBody (top 24)) (defScope (top 24)) .none kV21 dc21 pm21 an21 cd21 ct21), sl21⟩) (c21 : PySem.W.codeIn K cd21 "whole_halves" = true) (k21 : PySem.W.keepIn K (.ref f21) = true)
    (a22 : PySem.W.nsIn K mainGlobals "raised" = some (some (.ref f22))) (l22 : K.lookup f22 = some ⟨oc22, od22, .func (PySem.W.fnOf "raised" "raised" (defArgs (top 19)) (defBody (top 19)) (defScope (top 19)) .none kV22 dc22 pm22 an22 cd22 ct22), sl22⟩) (c22 : PySem.W.codeIn K cd22 "raised" = true) (k22 : PySem.W.keepIn K (.ref f22) = true)
    (a23 : PySem.W.nsIn K mainGlobals "halves_of" = some (some (.ref f23))) (l23 : K.lookup f23 = some ⟨oc23, od23, .func (PySem.W.fnOf "halves_of" "halves_of" (defArgs (top 25)) (defBody (top 25)) (defScope (top 25)) .none kV23 dc23 pm23 an23 cd23 ct23), sl23⟩) (c23 : PySem.W.codeIn K cd23 "halves_of" = true) (k23 : PySem.W.keepIn K (.ref f23) = true)
    (a24 : PySem.W.nsIn K mainGlobals "bounds_of" = some (some (.ref f24))) (l24 : K.lookup f24 = some ⟨oc24, od24, .func (PySem.W.fnOf "bounds_of" "bounds_of" (defArgs (top 23)) (defBody (top 23)) (defScope (top 23)) .none kV24 dc24 pm24 an24 cd24 ct24), sl24⟩) (c24 : PySem.W.codeIn K cd24 "bounds_of" = true) (k24 : PySem.W.keepIn K (.ref f24) = true)
    (a25 : PySem.W.nsIn K mainGlobals "_law_means" = some (some (.ref f25))) (l25 : K.lookup f25 = some ⟨oc25, od25, .func (PySem.W.fnOf "_law_means" "_law_means" (defArgs (top 38)) (defBody (top 38)) (defScope (top 38)) .none kV25 dc25 pm25 an25 cd25 ct25), sl25⟩) (c25 : PySem.W.codeIn K cd25 "_law_means" = true) (k25 : PySem.W.keepIn K (.ref f25) = true)
    (a26 : PySem.W.nsIn K mainGlobals "_law_halves" = some (some (.ref f26))) (l26 : K.lookup f26 = some ⟨oc26, od26, .func (PySem.W.fnOf "_law_halves" "_law_halves" (defArgs (top 41)) (defBody (top 41)) (defScope (top 41)) .none kV26 dc26 pm26 an26 cd26 ct26), sl26⟩) (c26 : PySem.W.codeIn K cd26 "_law_halves" = true) (k26 : PySem.W.keepIn K (.ref f26) = true)
    (a27 : PySem.W.nsIn K mainGlobals "_law_whole" = some (some (.ref f27))) (l27 : K.lookup f27 = some ⟨oc27, od27, .func (PySem.W.fnOf "_law_whole" "_law_whole" (defArgs (top 35)) (defBody (top 35)) (defScope (top 35)) .none kV27 dc27 pm27 an27 cd27 ct27), sl27⟩) (c27 : PySem.W.codeIn K cd27 "_law_whole" = true) (k27 : PySem.W.keepIn K (.ref f27) = true)
    (a28 : PySem.W.nsIn K mainGlobals "_law_is_number" = some (some (.ref f28))) (l28 : K.lookup f28 = some ⟨oc28, od28, .func (PySem.W.fnOf "_law_is_number" "_law_is_number" (defArgs (top 36)) (defBody (top 36)) (defScope (top 36)) .none kV28 dc28 pm28 an28 cd28 ct28), sl28⟩) (c28 : PySem.W.codeIn K cd28 "_law_is_number" = true) (k28 : PySem.W.keepIn K (.ref f28) = true)
    (a29 : PySem.W.nsIn K mainGlobals "_law_right" = some (some (.ref f29))) (l29 : K.lookup f29 = some ⟨oc29, od29, .func (PySem.W.fnOf "_law_right" "_law_right" (defArgs (top 42)) (defBody (top 42)) (defScope (top 42)) .none kV29 dc29 pm29 an29 cd29 ct29), sl29⟩) (c29 : PySem.W.codeIn K cd29 "_law_right" = true) (k29 : PySem.W.keepIn K (.ref f29) = true)
    (a30 : PySem.W.nsIn K mainGlobals "_law_curve" = some (some (.ref f30))) (l30 : K.lookup f30 = some ⟨oc30, od30, .func (PySem.W.fnOf "_law_curve" "_law_curve" (defArgs (top 34)) (defBody (top 34)) (defScope (top 34)) .none kV30 dc30 pm30 an30 cd30 ct30), sl30⟩) (c30 : PySem.W.codeIn K cd30 "_law_curve" = true) (k30 : PySem.W.keepIn K (.ref f30) = true)
    (a31 : PySem.W.nsIn K mainGlobals "_law_less" = some (some (.ref f31))) (l31 : K.lookup f31 = some ⟨oc31, od31, .func (PySem.W.fnOf "_law_less" "_law_less" (defArgs (top 40)) (defBody (top 40)) (defScope (top 40)) .none kV31 dc31 pm31 an31 cd31 ct31), sl31⟩) (c31 : PySem.W.codeIn K cd31 "_law_less" = true) (k31 : PySem.W.keepIn K (.ref f31) = true)
    (a32 : PySem.W.nsIn K mainGlobals "law" = some (some (.ref f32))) (l32 : K.lookup f32 = some ⟨oc32, od32, .func (PySem.W.fnOf "law" "law" (defArgs (top 43)) (defBody (top 43)) (defScope (top 43)) .none kV32 dc32 pm32 an32 cd32 ct32), sl32⟩) (c32 : PySem.W.codeIn K cd32 "law" = true) (k32 : PySem.W.keepIn K (.ref f32) = true)
    (z_len : PySem.W.nsIn K mainGlobals "len" = some none)
    (z_abs : PySem.W.nsIn K mainGlobals "abs" = some none)
    (z_range : PySem.W.nsIn K mainGlobals "range" = some none)
    (z_tuple : PySem.W.nsIn K mainGlobals "tuple" = some none)
    (z_reversed : PySem.W.nsIn K mainGlobals "reversed" = some none)
    (z_list : PySem.W.nsIn K mainGlobals "list" = some none)
    (z_min : PySem.W.nsIn K mainGlobals "min" = some none)
    (z_max : PySem.W.nsIn K mainGlobals "max" = some none)
    (z_isinstance : PySem.W.nsIn K mainGlobals "isinstance" = some none)
    (z_int : PySem.W.nsIn K mainGlobals "int" = some none)
    (z_bool : PySem.W.nsIn K mainGlobals "bool" = some none)
    (z_all : PySem.W.nsIn K mainGlobals "all" = some none)
    {g_NOUGHT : Addr} {o_NOUGHT : Obj} {v_NOUGHT : Array Value} {m_NOUGHT : Nat} (x_NOUGHT : PySem.W.nsIn K mainGlobals "NOUGHT" = some (some (.ref g_NOUGHT))) (y_NOUGHT : K.lookup g_NOUGHT = some o_NOUGHT) (w_NOUGHT : o_NOUGHT.cls = .type "tuple") (d_NOUGHT : o_NOUGHT.data = .seq v_NOUGHT m_NOUGHT) (e_NOUGHT : v_NOUGHT.toList.map absV = [some (.int (0 : Rat).num), some (.int ((0 : Rat).den : Int))]) :
    ∃ fd : FuncData, (∀ (s : Shared) (v : Value), BindsTo s fd ⟨[v], []⟩ [("_law_script", v)]) ∧ ∀ base : Heap, K.In base → base.Ns mainGlobals mg → FnOk l.prog w K mg base CX0 39 fa fd ["_law_script"] (spLaw K) := by
  have e := hfa.symm.trans (PySem.W.mg_of X G a32)
  cases e
  have b_len := PySem.W.mg_none_of X G z_len
  have b_abs := PySem.W.mg_none_of X G z_abs
  have b_range := PySem.W.mg_none_of X G z_range
  have b_tuple := PySem.W.mg_none_of X G z_tuple
  have b_reversed := PySem.W.mg_none_of X G z_reversed
  have b_list := PySem.W.mg_none_of X G z_list
  have b_min := PySem.W.mg_none_of X G z_min
  have b_max := PySem.W.mg_none_of X G z_max
  have b_isinstance := PySem.W.mg_none_of X G z_isinstance
  have b_int := PySem.W.mg_none_of X G z_int
  have b_bool := PySem.W.mg_none_of X G z_bool
  have b_all := PySem.W.mg_none_of X G z_all
  have c_NOUGHT := PySem.W.mg_of X G x_NOUGHT
  have n_NOUGHT : ∀ H : Hp, NumV K H (.ref g_NOUGHT) (0) := fun H => ⟨_, rfl, const_num y_NOUGHT w_NOUGHT d_NOUGHT e_NOUGHT⟩
  have F1 := fun_mk (st := top 27) l1 c1 k1
  have B1 := F1.binds (ps := ["_law_script", "_law_k"]) fun _ _ _ _ _ _ us hl => match us, hl with | [_, _], _ => rfl
  have F2 := fun_mk (st := top 29) l2 c2 k2
  have B2 := F2.binds (ps := ["_law_top", "_law_bottom"]) fun _ _ _ _ _ _ us hl => match us, hl with | [_, _], _ => rfl
  have F3 := fun_mk (st := top 28) l3 c3 k3
  have B3 := F3.binds (ps := ["_law_pen_here", "_law_many"]) fun _ _ _ _ _ _ us hl => match us, hl with | [_, _], _ => rfl
  have F4 := fun_mk (st := top 33) l4 c4 k4
  have B4 := F4.binds (ps := ["_law_pen_here"]) fun _ _ _ _ _ _ us hl => match us, hl with | [_], _ => rfl
  have F5 := fun_mk (st := top 30) l5 c5 k5
  have B5 := F5.binds (ps := ["_law_a", "_law_b"]) fun _ _ _ _ _ _ us hl => match us, hl with | [_, _], _ => rfl
  have F6 := fun_mk (st := top 37) l6 c6 k6
  have B6 := F6.binds (ps := ["_law_pen_here"]) fun _ _ _ _ _ _ us hl => match us, hl with | [_], _ => rfl
  have F7 := fun_mk (st := top 32) l7 c7 k7
  have B7 := F7.binds (ps := ["_law_a", "_law_b"]) fun _ _ _ _ _ _ us hl => match us, hl with | [_, _], _ => rfl
  have F8 := fun_mk (st := top 5) l8 c8 k8
  have B8 := F8.binds (ps := ["one", "other"]) fun _ _ _ _ _ _ us hl => match us, hl with | [_, _], _ => rfl
  have F9 := fun_mk (st := top 6) l9 c9 k9
  have B9 := F9.binds (ps := ["top", "bottom"]) fun _ _ _ _ _ _ us hl => match us, hl with | [_, _], _ => rfl
  have F10 := fun_mk (st := top 8) l10 c10 k10
  have B10 := F10.binds (ps := ["a", "b"]) fun _ _ _ _ _ _ us hl => match us, hl with | [_, _], _ => rfl
  have F11 := fun_mk (st := top 21) l11 c11 k11
  have B11 := F11.binds (ps := ["along"]) fun _ _ _ _ _ _ us hl => match us, hl with | [_], _ => rfl
  have F12 := fun_mk (st := top 13) l12 c12 k12
  have B12 := F12.binds (ps := ["numbers"]) fun _ _ _ _ _ _ us hl => match us, hl with | [_], _ => rfl
  have F13 := fun_mk (st := top 14) l13 c13 k13
  have B13 := F13.binds (ps := ["numbers", "bottom"]) fun _ _ _ _ _ _ us hl => match us, hl with | [_, _], _ => rfl
  have F14 := fun_mk (st := top 9) l14 c14 k14
  have B14 := F14.binds (ps := ["a", "b"]) fun _ _ _ _ _ _ us hl => match us, hl with | [_, _], _ => rfl
  have F15 := fun_mk (st := top 12) l15 c15 k15
  have B15 := F15.binds (ps := ["numbers"]) fun _ _ _ _ _ _ us hl => match us, hl with | [_], _ => rfl
  have F16 := fun_mk (st := top 15) l16 c16 k16
  have B16 := F16.binds (ps := ["tops", "bottom"]) fun _ _ _ _ _ _ us hl => match us, hl with | [_, _], _ => rfl
  have F17 := fun_mk (st := top 16) l17 c17 k17
  have B17 := F17.binds (ps := ["first", "second"]) fun _ _ _ _ _ _ us hl => match us, hl with | [_, _], _ => rfl
  have F18 := fun_mk (st := top 17) l18 c18 k18
  have B18 := F18.binds (ps := ["curve", "a", "b"]) fun _ _ _ _ _ _ us hl => match us, hl with | [_, _, _], _ => rfl
  have F19 := fun_mk (st := top 7) l19 c19 k19
  have B19 := F19.binds (ps := ["a", "b"]) fun _ _ _ _ _ _ us hl => match us, hl with | [_, _], _ => rfl
  have F20 := fun_mk (st := top 22) l20 c20 k20
  have B20 := F20.binds (ps := ["curve", "low", "high"]) fun _ _ _ _ _ _ us hl => match us, hl with | [_, _, _], _ => rfl
  have F21 := fun_mk (st := top 24) l21 c21 k21
  have B21 := F21.binds (ps := ["tops"]) fun _ _ _ _ _ _ us hl => match us, hl with | [_], _ => rfl
  have F22 := fun_mk (st := top 19) l22 c22 k22
  have B22 := F22.binds (ps := ["base", "many"]) fun _ _ _ _ _ _ us hl => match us, hl with | [_, _], _ => rfl
  have F23 := fun_mk (st := top 25) l23 c23 k23
  have B23 := F23.binds (ps := ["some"]) fun _ _ _ _ _ _ us hl => match us, hl with | [_], _ => rfl
  have F24 := fun_mk (st := top 23) l24 c24 k24
  have B24 := F24.binds (ps := ["curve", "low", "high"]) fun _ _ _ _ _ _ us hl => match us, hl with | [_, _, _], _ => rfl
  have F25 := fun_mk (st := top 38) l25 c25 k25
  have B25 := F25.binds (ps := ["_law_some"]) fun _ _ _ _ _ _ us hl => match us, hl with | [_], _ => rfl
  have F26 := fun_mk (st := top 41) l26 c26 k26
  have B26 := F26.binds (ps := ["_law_some"]) fun _ _ _ _ _ _ us hl => match us, hl with | [_], _ => rfl
  have F27 := fun_mk (st := top 35) l27 c27 k27
  have B27 := F27.binds (ps := ["_law_thing"]) fun _ _ _ _ _ _ us hl => match us, hl with | [_], _ => rfl
  have F28 := fun_mk (st := top 36) l28 c28 k28
  have B28 := F28.binds (ps := ["_law_thing"]) fun _ _ _ _ _ _ us hl => match us, hl with | [_], _ => rfl
  have F29 := fun_mk (st := top 42) l29 c29 k29
  have B29 := F29.binds (ps := ["_law_some"]) fun _ _ _ _ _ _ us hl => match us, hl with | [_], _ => rfl
  have F30 := fun_mk (st := top 34) l30 c30 k30
  have B30 := F30.binds (ps := ["_law_pen_here", "_law_most"]) fun _ _ _ _ _ _ us hl => match us, hl with | [_, _], _ => rfl
  have F31 := fun_mk (st := top 40) l31 c31 k31
  have B31 := F31.binds (ps := ["_law_a", "_law_b"]) fun _ _ _ _ _ _ us hl => match us, hl with | [_, _], _ => rfl
  have F32 := fun_mk (st := top 43) l32 c32 k32
  refine ⟨PySem.W.fnOf "law" "law" (defArgs (top 43)) (defBody (top 43)) (defScope (top 43)) .none kV32 dc32 pm32 an32 cd32 ct32, fun s v => .of_eq rfl, fun base _ _ => ?_⟩
  have E__law_pen : Fd l.prog w K mg base 33 "_law_pen" ["_law_script", "_law_k"] (spPen K) := ⟨_, _, ok__law_pen F1 b_len hT, B1, k1, PySem.W.mg_of X G a1⟩
  have E__law_lowest : Fd l.prog w K mg base 33 "_law_lowest" ["_law_top", "_law_bottom"] (spLow) := ⟨_, _, ok__law_lowest F2 b_abs hT, B2, k2, PySem.W.mg_of X G a2⟩
  have E__law_draw : Fd l.prog w K mg base 33 "_law_draw" ["_law_pen_here", "_law_many"] (spDraw) := ⟨_, _, ok__law_draw F3 hT, B3, k3, PySem.W.mg_of X G a3⟩
  have E__law_number : Fd l.prog w K mg base 34 "_law_number" ["_law_pen_here"] (spNum 8) := ⟨_, _, ok__law_number F4 E__law_lowest E__law_draw hT, B4, k4, PySem.W.mg_of X G a4⟩
  have E__law_plus : Fd l.prog w K mg base 34 "_law_plus" ["_law_a", "_law_b"] (spBin K (· + ·)) := ⟨_, _, ok__law_plus F5 E__law_lowest hT, B5, k5, PySem.W.mg_of X G a5⟩
  have E__law_stretch : Fd l.prog w K mg base 35 "_law_stretch" ["_law_pen_here"] (spStr K) := ⟨_, _, ok__law_stretch F6 E__law_number E__law_plus E__law_draw hT, B6, k6, PySem.W.mg_of X G a6⟩
  have E__law_times : Fd l.prog w K mg base 34 "_law_times" ["_law_a", "_law_b"] (spBin K (· * ·)) := ⟨_, _, ok__law_times F7 E__law_lowest hT, B7, k7, PySem.W.mg_of X G a7⟩
  have E_common_measure : Fd l.prog w K mg base 33 "common_measure" ["one", "other"] (spGcd) := ⟨_, _, ok_common_measure F8 b_abs hT, B8, k8, PySem.W.mg_of X G a8⟩
  have E_number_of : Fd l.prog w K mg base 34 "number_of" ["top", "bottom"] (spLow) := ⟨_, _, ok_number_of F9 E_common_measure hT, B9, k9, PySem.W.mg_of X G a9⟩
  have E_over : Fd l.prog w K mg base 35 "over" ["a", "b"] (spOver K) := ⟨_, _, ok_over F10 E_number_of hT, B10, k10, PySem.W.mg_of X G a10⟩
  have E_parts_along : Fd l.prog w K mg base 36 "parts_along" ["along"] (spParts K) := ⟨_, _, ok_parts_along F11 E_over b_range b_len hT, B11, k11, PySem.W.mg_of X G a11⟩
  have E_bottom_of : Fd l.prog w K mg base 34 "bottom_of" ["numbers"] (spBot K) := ⟨_, _, ok_bottom_of F12 E_common_measure hT, B12, k12, PySem.W.mg_of X G a12⟩
  have E_tops_over : Fd l.prog w K mg base 33 "tops_over" ["numbers", "bottom"] (spTops K) := ⟨_, _, ok_tops_over F13 hT, B13, k13, PySem.W.mg_of X G a13⟩
  have E_is_less : Fd l.prog w K mg base 33 "is_less" ["a", "b"] (spLess K) := ⟨_, _, ok_is_less F14 hT, B14, k14, PySem.W.mg_of X G a14⟩
  have E_curve_of : Fd l.prog w K mg base 33 "curve_of" ["numbers"] (spCurveOf K) := ⟨_, _, ok_curve_of F15 b_len b_tuple c_NOUGHT n_NOUGHT hT, B15, k15, PySem.W.mg_of X G a15⟩
  have E_curve_over : Fd l.prog w K mg base 35 "curve_over" ["tops", "bottom"] (spCurveOver K) := ⟨_, _, ok_curve_over F16 E_curve_of E_number_of hT, B16, k16, PySem.W.mg_of X G a16⟩
  have E_whole_product : Fd l.prog w K mg base 33 "whole_product" ["first", "second"] (spProd K) := ⟨_, _, ok_whole_product F17 b_range b_len hT, B17, k17, PySem.W.mg_of X G a17⟩
  have E_with_line : Fd l.prog w K mg base 36 "with_line" ["curve", "a", "b"] (spLine K) := ⟨_, _, ok_with_line F18 E_bottom_of E_tops_over E_curve_over E_whole_product b_reversed hT, B18, k18, PySem.W.mg_of X G a18⟩
  have E_minus : Fd l.prog w K mg base 35 "minus" ["a", "b"] (spBin K (· - ·)) := ⟨_, _, ok_minus F19 E_number_of hT, B19, k19, PySem.W.mg_of X G a19⟩
  have E_heights_of : Fd l.prog w K mg base 37 "heights_of" ["curve", "low", "high"] (spHts K) := ⟨_, _, ok_heights_of F20 E_parts_along E_bottom_of E_tops_over E_is_less E_with_line E_minus E_number_of b_len b_range c_NOUGHT n_NOUGHT hT, B20, k20, PySem.W.mg_of X G a20⟩
  have E_whole_halves : Fd l.prog w K mg base 33 "whole_halves" ["tops"] (spWH38 K) := ⟨_, _, ok_whole_halves F21 b_list b_len b_range hT, B21, k21, PySem.W.mg_of X G a21⟩
  have E_raised : Fd l.prog w K mg base 33 "raised" ["base", "many"] (spRaised) := ⟨_, _, ok_raised F22 b_range hT, B22, k22, PySem.W.mg_of X G a22⟩
  have E_halves_of : Fd l.prog w K mg base 35 "halves_of" ["some"] (spLH K) := ⟨_, _, ok_halves_of F23 E_bottom_of E_whole_halves E_tops_over E_raised E_number_of b_len hT, B23, k23, PySem.W.mg_of X G a23⟩
  have E_bounds_of : Fd l.prog w K mg base 38 "bounds_of" ["curve", "low", "high"] (spBds K) := ⟨_, _, ok_bounds_of F24 E_heights_of E_tops_over E_bottom_of b_min b_max hT, B24, k24, PySem.W.mg_of X G a24⟩
  have E__law_means : Fd l.prog w K mg base 35 "_law_means" ["_law_some"] (spMeans K) := ⟨_, _, ok__law_means F25 E__law_times E__law_plus b_range b_len hT, B25, k25, PySem.W.mg_of X G a25⟩
  have E__law_halves : Fd l.prog w K mg base 36 "_law_halves" ["_law_some"] (spLH K) := ⟨_, _, ok__law_halves F26 E__law_means b_len hT, B26, k26, PySem.W.mg_of X G a26⟩
  have E__law_whole : Fd l.prog w K mg base 33 "_law_whole" ["_law_thing"] (spWhole K) := ⟨_, _, ok__law_whole F27 b_isinstance b_int b_bool hT, B27, k27, PySem.W.mg_of X G a27⟩
  have E__law_is_number : Fd l.prog w K mg base 34 "_law_is_number" ["_law_thing"] (spIsN K) := ⟨_, _, ok__law_is_number F28 E__law_whole E__law_lowest b_isinstance b_tuple b_len hT, B28, k28, PySem.W.mg_of X G a28⟩
  have E__law_right : Fd l.prog w K mg base 37 "_law_right" ["_law_some"] (spR38 K) := ⟨_, _, ok__law_right F29 E__law_halves E_halves_of E__law_is_number b_list b_isinstance b_tuple b_len b_all hT, B29, k29, PySem.W.mg_of X G a29⟩
  have E__law_curve : Fd l.prog w K mg base 35 "_law_curve" ["_law_pen_here", "_law_most"] (spCurve K 8) := ⟨_, _, ok__law_curve F30 E__law_number E__law_draw b_tuple b_range hT, B30, k30, PySem.W.mg_of X G a30⟩
  have E__law_less : Fd l.prog w K mg base 33 "_law_less" ["_law_a", "_law_b"] (spLess K) := ⟨_, _, ok__law_less F31 hT, B31, k31, PySem.W.mg_of X G a31⟩
  exact ok_law F32 E__law_pen E__law_stretch E__law_times E_heights_of E_halves_of E_bounds_of E__law_right E__law_curve E__law_plus E__law_number E__law_draw E__law_less b_range hT
theorem walk {l : PySem.W.OpenLaw} {q : Program} {loose : List Str} {XP : (Str → Option Value) → Heap → Prop} {YP : World → Heap → Prop} {d : DefRec} {K : Params → PySem.W.Frag} (hI : PyProof.Rows.importsNone q = true) (hn : l.most = some 63) (hdf : d.params.defaults = [])
    (hY : ∀ (w : World) (h : Heap), YP w h → (K w.params).In h)
    (F : ∀ (w : World) (mg : Str → Option Value) (fa : Addr) (h : Heap), (K w.params).In h → h.Ns mainGlobals mg → mg d.name = some (.ref fa) →
      ∃ fd : FuncData, (∀ (s : Shared) (u : Value), BindsTo s fd ⟨[u], []⟩ [("_law_script", u)]) ∧ ∀ base : Heap, (K w.params).In base → base.Ns mainGlobals mg → FnOk l.prog w (K w.params) mg base CX0 39 fa fd ["_law_script"] ((fun (K : PySem.W.Frag) => (spLaw K : Sp)) (K w.params))) :
    PySem.W.WalkO q loose XP YP l.row.toRowW d [] (fun f vs => PySem.call f vs) :=
  L2.walk_of (n := 63) (k := 39) (x := "_law_script") (CX := fun _ => CX0) (sp := fun w => (fun (K : PySem.W.Frag) => (spLaw K : Sp)) (K w.params)) hI hn (by decide) hdf ⟨rfl, by decide, by decide⟩ hY F (fun _ _ a ns hl _ hS => ⟨a, ns, rfl, hS, hl, fun _ => rfl⟩) fun _ _ _ _ _ z => z
end Pf
open PySem PySem.W PyProof.Rows
set_option maxRecDepth 100000 in
set_option maxHeartbeats 0 in
theorem PySem.Challenge.cw_onecurve_k38_halves_of_a_stretch_holds : PySem.Challenge.rw_onecurve_k38_halves_of_a_stretch.Holds := by
  w_on; o_law; k_head; (case hw => w_witness2)
  k_fill
  refine Pf.walk (l := PySem.Challenge.rw_onecurve_k38_halves_of_a_stretch) (by decide +kernel) rfl rfl (fun w h Y => PySem.W.kIn_of Y) ?F
  case F =>
    intro w mg fa h KX G hmg
    refine' Pf.all_mk rfl KX G hmg ?a1 ?l1 ?c1 ?k1 ?a2 ?l2 ?c2 ?k2 ?a3 ?l3 ?c3 ?k3 ?a4 ?l4 ?c4 ?k4 ?a5 ?l5 ?c5 ?k5 ?a6 ?l6 ?c6 ?k6 ?a7 ?l7 ?c7 ?k7 ?a8 ?l8 ?c8 ?k8 ?a9 ?l9 ?c9 ?k9 ?a10 ?l10 ?c10 ?k10 ?a11 ?l11 ?c11 ?k11 ?a12 ?l12 ?c12 ?k12 ?a13 ?l13 ?c13 ?k13 ?a14 ?l14 ?c14 ?k14 ?a15 ?l15 ?c15 ?k15 ?a16 ?l16 ?c16 ?k16 ?a17 ?l17 ?c17 ?k17 ?a18 ?l18 ?c18 ?k18 ?a19 ?l19 ?c19 ?k19 ?a20 ?l20 ?c20 ?k20 ?a21 ?l21 ?c21 ?k21 ?a22 ?l22 ?c22 ?k22 ?a23 ?l23 ?c23 ?k23 ?a24 ?l24 ?c24 ?k24 ?a25 ?l25 ?c25 ?k25 ?a26 ?l26 ?c26 ?k26 ?a27 ?l27 ?c27 ?k27 ?a28 ?l28 ?c28 ?k28 ?a29 ?l29 ?c29 ?k29 ?a30 ?l30 ?c30 ?k30 ?a31 ?l31 ?c31 ?k31 ?a32 ?l32 ?c32 ?k32 ?z_len ?z_abs ?z_range ?z_tuple ?z_reversed ?z_list ?z_min ?z_max ?z_isinstance ?z_int ?z_bool ?z_all ?x_NOUGHT ?y_NOUGHT ?w_NOUGHT ?d_NOUGHT ?e_NOUGHT
    (case a1 => k_is)
    (case l1 => k_is)
    (case c1 => k_is)
    (case k1 => k_is)
    (case a2 => k_is)
    (case l2 => k_is)
    (case c2 => k_is)
    (case k2 => k_is)
    (case a3 => k_is)
    (case l3 => k_is)
    (case c3 => k_is)
    (case k3 => k_is)
    (case a4 => k_is)
    (case l4 => k_is)
    (case c4 => k_is)
    (case k4 => k_is)
    (case a5 => k_is)
    (case l5 => k_is)
    (case c5 => k_is)
    (case k5 => k_is)
    (case a6 => k_is)
    (case l6 => k_is)
    (case c6 => k_is)
    (case k6 => k_is)
    (case a7 => k_is)
    (case l7 => k_is)
    (case c7 => k_is)
    (case k7 => k_is)
    (case a8 => k_is)
    (case l8 => k_is)
    (case c8 => k_is)
    (case k8 => k_is)
    (case a9 => k_is)
    (case l9 => k_is)
    (case c9 => k_is)
    (case k9 => k_is)
    (case a10 => k_is)
    (case l10 => k_is)
    (case c10 => k_is)
    (case k10 => k_is)
    (case a11 => k_is)
    (case l11 => k_is)
    (case c11 => k_is)
    (case k11 => k_is)
    (case a12 => k_is)
    (case l12 => k_is)
    (case c12 => k_is)
    (case k12 => k_is)
    (case a13 => k_is)
    (case l13 => k_is)
    (case c13 => k_is)
    (case k13 => k_is)
    (case a14 => k_is)
    (case l14 => k_is)
    (case c14 => k_is)
    (case k14 => k_is)
    (case a15 => k_is)
    (case l15 => k_is)
    (case c15 => k_is)
    (case k15 => k_is)
    (case a16 => k_is)
    (case l16 => k_is)
    (case c16 => k_is)
    (case k16 => k_is)
    (case a17 => k_is)
    (case l17 => k_is)
    (case c17 => k_is)
    (case k17 => k_is)
    (case a18 => k_is)
    (case l18 => k_is)
    (case c18 => k_is)
    (case k18 => k_is)
    (case a19 => k_is)
    (case l19 => k_is)
    (case c19 => k_is)
    (case k19 => k_is)
    (case a20 => k_is)
    (case l20 => k_is)
    (case c20 => k_is)
    (case k20 => k_is)
    (case a21 => k_is)
    (case l21 => k_is)
    (case c21 => k_is)
    (case k21 => k_is)
    (case a22 => k_is)
    (case l22 => k_is)
    (case c22 => k_is)
    (case k22 => k_is)
    (case a23 => k_is)
    (case l23 => k_is)
    (case c23 => k_is)
    (case k23 => k_is)
    (case a24 => k_is)
    (case l24 => k_is)
    (case c24 => k_is)
    (case k24 => k_is)
    (case a25 => k_is)
    (case l25 => k_is)
    (case c25 => k_is)
    (case k25 => k_is)
    (case a26 => k_is)
    (case l26 => k_is)
    (case c26 => k_is)
    (case k26 => k_is)
    (case a27 => k_is)
    (case l27 => k_is)
    (case c27 => k_is)
    (case k27 => k_is)
    (case a28 => k_is)
    (case l28 => k_is)
    (case c28 => k_is)
    (case k28 => k_is)
    (case a29 => k_is)
    (case l29 => k_is)
    (case c29 => k_is)
    (case k29 => k_is)
    (case a30 => k_is)
    (case l30 => k_is)
    (case c30 => k_is)
    (case k30 => k_is)
    (case a31 => k_is)
    (case l31 => k_is)
    (case c31 => k_is)
    (case k31 => k_is)
    (case a32 => k_is)
    (case l32 => k_is)
    (case c32 => k_is)
    (case k32 => k_is)
    (case z_len => k_is)
    (case z_abs => k_is)
    (case z_range => k_is)
    (case z_tuple => k_is)
    (case z_reversed => k_is)
    (case z_list => k_is)
    (case z_min => k_is)
    (case z_max => k_is)
    (case z_isinstance => k_is)
    (case z_int => k_is)
    (case z_bool => k_is)
    (case z_all => k_is)
    (case x_NOUGHT => k_is)
    (case y_NOUGHT => k_is)
    (case w_NOUGHT => rfl)
    (case d_NOUGHT => rfl)
    (case e_NOUGHT => rfl)
#print axioms PySem.Challenge.cw_onecurve_k38_halves_of_a_stretch_holds
