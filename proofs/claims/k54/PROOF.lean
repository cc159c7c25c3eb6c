import PyProof.Rows.All
import Wide.All
import OpenK.AllK
import Wide.FinOn
import Lean
import PyProof.EqAt
import PyProof.EqKinds
import PyProof.TupleCall
import KE.KLam
import KE.KNestM
import KE.KSortKey
import PySem.Challenge.RW_onecurve_k54_quotients_of_one_height
set_option Elab.async false
set_option linter.all false
set_option maxRecDepth 100000
namespace L2
open PySem PySem.Spec PyProof.Rows
abbrev Key := Sum Int Str
def keyIs : Key → Value → Bool
 | .inl k, v => Value.isInt k v
 | .inr x, v => Value.isStrOf x v
def keyH (w : World) : Key → Int
 | .inl k => hashInt k
 | .inr x => hashStr w x
theorem keyIs_shape : ∀ {k : Key} {v : Value}, keyIs k v = true → (∃ i t, k = Sum.inl i ∧ v = Value.int i t) ∨ (∃ x t, k = Sum.inr x ∧ v = Value.str x t)
 | .inl i, v, h => by
   obtain ⟨t, e⟩ := Value.isInt_shape (k := i) (v := v) h
   exact .inl ⟨i, t, rfl, e⟩
 | .inr x, v, h => by
   obtain ⟨t, e⟩ := Value.isStrOf_shape (x := x) (v := v) h
   exact .inr ⟨x, t, rfl, e⟩
theorem keyIs_int (i : Int) (t : Tok) : keyIs (.inl i) (.int i t) = true := by simp [keyIs, Value.isInt]
theorem keyIs_str (x : Str) (t : Tok) : keyIs (.inr x) (.str x t) = true := by simp [keyIs, Value.isStrOf]
theorem key_ll (a b : Int) : decide ((Sum.inl a : Key) = Sum.inl b) = (a == b) := by
 by_cases e : a = b
 · subst e; simp
 · have h : ¬ (Sum.inl a : Key) = Sum.inl b := fun q => e (Sum.inl.inj q)
   rw [decide_eq_false h]
   exact (beq_eq_false_iff_ne.mpr e).symm
theorem key_rr (a b : Str) : decide ((Sum.inr a : Key) = Sum.inr b) = decide (a = b) := by
 by_cases e : a = b
 · subst e; simp
 · have h : ¬ (Sum.inr a : Key) = Sum.inr b := fun q => e (Sum.inr.inj q)
   rw [decide_eq_false h, decide_eq_false e]
theorem key_lr (a : Int) (b : Str) : decide ((Sum.inl a : Key) = Sum.inr b) = false := decide_eq_false (fun q => nomatch q)
theorem key_rl (a : Str) (b : Int) : decide ((Sum.inr a : Key) = Sum.inl b) = false := decide_eq_false (fun q => nomatch q)
def mixKind (prog : Program) (w : World) : PySem.KeyKind prog w Key where
 is := keyIs
 hash := keyH w
 inj := fun v a b ha hb => by
   rcases keyIs_shape ha with ⟨i, t, rfl, rfl⟩ | ⟨x, t, rfl, rfl⟩
   · rcases keyIs_shape hb with ⟨j, u, rfl, e⟩ | ⟨y, u, rfl, e⟩
     · injection e with e1 _; rw [e1]
     · exact nomatch e
   · rcases keyIs_shape hb with ⟨j, u, rfl, e⟩ | ⟨y, u, rfl, e⟩
     · exact nomatch e
     · injection e with e1 _; rw [e1]
 byValue := fun k v h => by
   rcases keyIs_shape h with ⟨i, t, rfl, rfl⟩ | ⟨x, t, rfl, rfl⟩ <;> rfl
 pyHash := fun hv h => by
   rcases keyIs_shape hv with ⟨i, t, rfl, rfl⟩ | ⟨x, t, rfl, rfl⟩
   · exact wpAny_pyHash_int h
   · exact wpAny_pyHash_str h
 eqBool := fun hu hv h => by
   rcases keyIs_shape hu with ⟨i, t, rfl, rfl⟩ | ⟨x, t, rfl, rfl⟩
   · rcases keyIs_shape hv with ⟨j, u, rfl, rfl⟩ | ⟨y, u, rfl, rfl⟩
     · rw [key_ll] at h; exact wpAny_eqBool_int h
     · rw [key_lr] at h; exact SeqAt.EqAt.int_str i t y u _ _ _ _ h
   · rcases keyIs_shape hv with ⟨j, u, rfl, rfl⟩ | ⟨y, u, rfl, rfl⟩
     · rw [key_rl] at h; exact SeqAt.EqAt.str_int x t j u _ _ _ _ h
     · rw [key_rr] at h; exact wpAny_eqBool_str h
 «strs» := fun k x t v h => by
   rcases keyIs_shape h with ⟨i, u, rfl, e⟩ | ⟨y, u, rfl, e⟩
   · exact nomatch e
   · injection e with e1 _
     subst e1
     cases v <;> rfl
theorem mixKind_int (prog : Program) (w : World) (i : Int) (t : Tok) : (mixKind prog w).is (.inl i) (.int i t) = true := keyIs_int i t
theorem mixKind_str (prog : Program) (w : World) (x : Str) (t : Tok) : (mixKind prog w).is (.inr x) (.str x t) = true := keyIs_str x t
end L2
namespace L2
open PySem PySem.Spec PyProof.Rows
inductive V where
 | non | bl (b : Bool) | int (i : Int) | str (x : Str) | byt (b : Array UInt8) | flt (b : UInt64) | ref (a : Addr) | ty (n : String)
 deriving DecidableEq
def RelV : V → Value → Prop
 | .non, u => u = Value.none
 | .bl b, u => u = Value.bool b
 | .int i, u => ∃ t, u = Value.int i t
 | .str x, u => ∃ t, u = Value.str x t
 | .byt b, u => ∃ t, u = Value.bytes b t
 | .flt b, u => ∃ t, u = Value.float b t
 | .ref a, u => u = Value.ref a
 | .ty n, u => u = Value.type n
abbrev Vals : List V → List Value → Prop := Paired RelV
theorem Vals.length {xs : List V} {us : List Value} (r : Vals xs us) : xs.length = us.length := Paired.length r
theorem Vals.get : ∀ {xs : List V} {us : List Value} {i : Nat} {x : V}, Vals xs us → xs[i]? = some x → ∃ u, us[i]? = some u ∧ RelV x u
 | _, _, _, _, .nil, e => by simp at e
 | _, _, 0, _, .cons r _, e => by simp at e; subst e; exact ⟨_, rfl, r⟩
 | _, _, i + 1, x, .cons _ t, e => by
   obtain ⟨u, h1, h2⟩ := Vals.get (i := i) (x := x) t (by simpa using e)
   exact ⟨u, by simpa using h1, h2⟩
theorem Vals.set {x : V} {u : Value} (r : RelV x u) : ∀ {xs : List V} {us : List Value} (i : Nat), Vals xs us → Vals (xs.set i x) (us.set i u)
 | _, _, _, .nil => .nil
 | _, _, 0, .cons _ t => .cons r t
 | _, _, i + 1, .cons q t => .cons q (Vals.set r i t)
theorem Vals.append {xs ys : List V} {us ws : List Value} (a : Vals xs us) (b : Vals ys ws) : Vals (xs ++ ys) (us ++ ws) := by
 induction a with
 | nil => exact b
 | cons r t ih => exact .cons r ih
theorem Vals.take : ∀ {xs : List V} {us : List Value} (n : Nat), Vals xs us → Vals (xs.take n) (us.take n)
 | _, _, 0, _ => .nil
 | _, _, _ + 1, .nil => .nil
 | _, _, n + 1, .cons r t => .cons r (Vals.take n t)
theorem Vals.drop : ∀ {xs : List V} {us : List Value} (n : Nat), Vals xs us → Vals (xs.drop n) (us.drop n)
 | _, _, 0, r => r
 | _, _, _ + 1, .nil => .nil
 | _, _, n + 1, .cons _ t => Vals.drop n t
def RelO : Option V → Option Value → Prop
 | some v, some u => RelV v u
 | none, none => True
 | _, _ => False
def KV {κ : Type} : List (κ × V) → List (κ × Value) → Prop := Paired fun (p : κ × V) (q : κ × Value) => p.1 = q.1 ∧ RelV p.2 q.2
def kV : Key → V
 | .inl i => .int i
 | .inr x => .str x
inductive HO where
   | lst (xs : List V)
   | tup (xs : List V)
   | dK (kvs : List (Key × V)) | dT (kvs : List (List Key × V))
   | set (S : Int → Bool) (n : Nat)
   | ins (C dx : Addr) (fs : List (Str × V))
   | own (x : Addr)
   | xd (fs : List (Str × V))
   | met (f x : Addr)
   | rng (lo hi : Int)
   | frz (o : Obj) (u : HO)
   | tbl (ps : Array Value)
   | ext (φ : Heap → Prop)
abbrev Hp := Addr → Option HO
def upd (H : Hp) (a : Addr) (o : HO) : Hp := fun b => if b = a then some o else H b
theorem upd_same {H : Hp} {a : Addr} {o : HO} : upd H a o a = some o := by unfold upd; rw [if_pos rfl]
theorem upd_ne {H : Hp} {a b : Addr} {o : HO} (h : b ≠ a) : upd H a o b = H b := by unfold upd; rw [if_neg h]
theorem upd_upd {H : Hp} {a : Addr} {o u : HO} : upd (upd H a o) a u = upd H a u := by
 funext b; unfold upd; split <;> rfl
theorem ne_of {H : Hp} {a b : Addr} {o u : HO} (h : H a = some o) (h' : H b = some u) (d : o ≠ u) : a ≠ b := by
 intro e; subst e; rw [h] at h'; exact d (Option.some.inj h')
theorem ne_of_none {H : Hp} {a b : Addr} {o : HO} (h : H a = some o) (h' : H b = none) : a ≠ b := by
 intro e; subst e; rw [h] at h'; cases h'
section
variable (P : Program) (w : World)
def ObjOk (H : Hp) (h : Heap) (a : Addr) : HO → Prop
 | .lst xs => xs.length ≤ sizeLine ∧ ∃ (its : List Value) (n : Nat), Vals xs its ∧ h.get? a = some { cls := .type "list", data := .seq its.toArray n }
 | .tup xs => xs.length ≤ sizeLine ∧ ∃ its : List Value, Vals xs its ∧ IsTup h a its.toArray
 | .dK kvs => kvs.length ≤ sizeLine ∧ (a == sysModules) = false ∧ ∃ vs, KV kvs vs ∧ h.DictOf (mixKind P w) a vs
 | .dT kvs => kvs.length ≤ sizeLine ∧ (a == sysModules) = false ∧ ∃ xs : List (List Key × Addr × Value),
     Paired (fun (p : List Key × V) (q : List Key × Addr × Value) => p.1 = q.1 ∧ H q.2.1 = some (.tup (p.1.map kV)) ∧ RelV p.2 q.2.2) kvs xs ∧
     ∃ o es ep, h.get? a = some o ∧ o.ExactDict ∧ o.data = .dict es ep ∧ es.toList = xs.map (entryOfKey (tupleKind (mixKind P w))) ∧ (xs.map (·.1)).Nodup
 | .set S n => h.SetOf (intKind P w) a S n
 | .ins C dx fs => H dx = some (.own a) ∧ fs.length ≤ 1000 ∧ dx ≠ a ∧ h.get? a = some (PySem.W.instObj C dx) ∧
     ∃ mA, h.Ns1 dx mA ∧ (∀ f, RelO (fs.lookup f) (mA f)) ∧ PySem.Within mA (fs.map (·.1))
 | .own _ => ∃ o, h.get? a = some o
 | .xd fs => ∃ mA, h.Ns1 a mA ∧ ∀ f, RelO (fs.lookup f) (mA f)
 | .rng lo hi => ∃ t u v, h.get? a = some { cls := .type "range", data := .fields #[.int lo t, .int hi u, .int 1 v] }
 | .frz o u => h.get? a = some o ∧ ObjOk H h a u
 | .tbl ps => h.get? a = some { cls := .none, data := .fields ps }
 | .met f x => h.get? a = some (PySem.W.methodObj (.ref f) (.ref x))
 | .ext φ => φ h ∧ (∃ o, h.get? a = some o) ∧ ∀ h1 h2 : Heap, φ h1 → (∀ o, h1.get? a = some o → h2.get? a = some o) → φ h2
def HOk (H : Hp) (h : Heap) : Prop := ∀ a o, H a = some o → ObjOk P w H h a o
end
section
variable {P : Program} {w : World} {H H' : Hp} {h h' : Heap} {a : Addr} {o : HO}
theorem ObjOk.lt (x : ObjOk P w H h a o) : a < h.objs.size := by
 cases o with
 | lst xs => obtain ⟨_, _, _, _, e⟩ := x; exact Heap.lt_size e
 | tup xs => obtain ⟨_, _, _, p⟩ := x; exact p.lt
 | dK kvs => obtain ⟨_, _, _, _, o, _, _, e, _⟩ := x; exact Heap.lt_size e
 | dT kvs => obtain ⟨_, _, _, _, o, _, _, e, _⟩ := x; exact Heap.lt_size e
 | set S n => obtain ⟨o, _, _, _, e, _⟩ := x; exact Heap.lt_size e
 | ins C dx fs => obtain ⟨_, _, _, e, _⟩ := x; exact Heap.lt_size e
 | own y => obtain ⟨_, e⟩ := x; exact Heap.lt_size e
 | xd fs => obtain ⟨_, ⟨_, _, _, e, _⟩, _⟩ := x; exact Heap.lt_size e
 | rng lo hi => obtain ⟨_, _, _, e⟩ := x; exact Heap.lt_size e
 | frz ob u => obtain ⟨e, _⟩ := x; exact Heap.lt_size e
 | tbl ps => exact Heap.lt_size (show h.get? a = some _ from x)
 | met f y => exact Heap.lt_size (show h.get? a = some _ from x)
 | ext φ => obtain ⟨_, ⟨_, e⟩, _⟩ := x; exact Heap.lt_size e
theorem Paired.mapP {α β : Type} {F G : α → β → Prop} {l₁ : List α} {l₂ : List β} (h : Paired F l₁ l₂) (f : ∀ a b, F a b → G a b) : Paired G l₁ l₂ := by
 induction h with
 | nil => exact .nil
 | cons r t ih => exact .cons (f _ _ r) ih
theorem ObjOk.stay (x : ObjOk P w H h a o) (k : ∀ b u, (b = a ∨ H b = some (.own a)) → h.get? b = some u → h'.get? b = some u)
   (ho : ∀ b, H b = some (.own a) → H' b = some (.own a)) (ht : ∀ b xs, H b = some (.tup xs) → H' b = some (.tup xs)) : ObjOk P w H' h' a o := by
 induction o with
 | lst xs => obtain ⟨z, its, n, r, e⟩ := x; exact ⟨z, its, n, r, k _ _ (.inl rfl) e⟩
 | tup xs => obtain ⟨z, its, r, ob, e, c⟩ := x; exact ⟨z, its, r, ob, k _ _ (.inl rfl) e, c⟩
 | dK kvs => obtain ⟨z, y, vs, r, ob, es, ep, e, c⟩ := x; exact ⟨z, y, vs, r, ob, es, ep, k _ _ (.inl rfl) e, c⟩
 | dT kvs =>
   obtain ⟨z, y, xs, r, ob, es, ep, e, c⟩ := x
   exact ⟨z, y, xs, Paired.mapP r fun p q z => ⟨z.1, ht _ _ z.2.1, z.2.2⟩, ob, es, ep, k _ _ (.inl rfl) e, c⟩
 | set S n => obtain ⟨ob, es, ep, t, e, c⟩ := x; exact ⟨ob, es, ep, t, k _ _ (.inl rfl) e, c⟩
 | ins C dx fs =>
   obtain ⟨d, z, ne, e, mA, ⟨od, es, ep, e2, c⟩, r⟩ := x
   exact ⟨ho _ d, z, ne, k _ _ (.inl rfl) e, mA, ⟨od, es, ep, k _ _ (.inr d) e2, c⟩, r⟩
 | own y => obtain ⟨ob, e⟩ := x; exact ⟨ob, k _ _ (.inl rfl) e⟩
 | xd fs => obtain ⟨mA, ⟨od, es, ep, e, c⟩, r⟩ := x; exact ⟨mA, ⟨od, es, ep, k _ _ (.inl rfl) e, c⟩, r⟩
 | rng lo hi => obtain ⟨t, u, v, e⟩ := x; exact ⟨t, u, v, k _ _ (.inl rfl) e⟩
 | frz ob u ih => obtain ⟨e, q⟩ := x; exact ⟨k _ _ (.inl rfl) e, ih q⟩
 | tbl ps =>
   have e : h.get? a = some { cls := .none, data := .fields ps } := x
   show h'.get? a = some { cls := .none, data := .fields ps }
   exact k a _ (.inl rfl) e
 | met f y =>
   have e : h.get? a = some (PySem.W.methodObj (.ref f) (.ref y)) := x
   show h'.get? a = some (PySem.W.methodObj (.ref f) (.ref y))
   exact k a _ (.inl rfl) e
 | ext φ => obtain ⟨p, ⟨o, e⟩, st⟩ := x; exact ⟨st _ _ p fun o q => k _ _ (.inl rfl) q, ⟨o, k _ _ (.inl rfl) e⟩, st⟩
theorem HOk.lt (x : HOk P w H h) (e : H a = some o) : a < h.objs.size := (x a o e).lt
theorem HOk.fresh (x : HOk P w H h) (e : h.objs.size ≤ a) : H a = none := by
 cases q : H a with
 | none => rfl
 | some u => exact absurd (Nat.lt_of_lt_of_le (x.lt q) e) (Nat.lt_irrefl _)
theorem HOk.kept (x : HOk P w H h) (k : ∀ b u, h.get? b = some u → h'.get? b = some u) : HOk P w H h' := fun a o e =>
 (x a o e).stay (fun b u _ q => k b u q) (fun _ q => q) fun _ _ q => q
theorem HOk.laid (x : HOk P w H h) (k : ∀ b u, h.get? b = some u → h'.get? b = some u) (hp : h.objs.size ≤ a) (new : ObjOk P w (upd H a o) h' a o) : HOk P w (upd H a o) h' := fun b u e => by
 have hn := x.fresh hp
 by_cases hb : b = a
 · subst hb; rw [upd_same] at e; cases e; exact new
 · rw [upd_ne hb] at e
   exact (x b u e).stay (fun c v _ q => k c v q) (fun c q => by rw [upd_ne (ne_of_none q hn)]; exact q) fun c xs q => by rw [upd_ne (ne_of_none q hn)]; exact q
end
def Rd (H : Hp) (a : Addr) (u : HO) : Prop := H a = some u ∨ ∃ o, H a = some (.frz o u)
theorem Rd.ok {P : Program} {w : World} {H : Hp} {h : Heap} {a : Addr} {u : HO} (r : Rd H a u) (x : HOk P w H h) : ObjOk P w H h a u := by
 rcases r with r | ⟨o, r⟩
 · exact x a u r
 · obtain ⟨_, q⟩ := x a _ r
   exact q
def Mut : Option HO → Prop
 | some (.lst _) => True
 | some (.dK _) => True
 | some (.dT _) => True
 | some (.set _ _) => True
 | some (.ins _ _ _) => True
 | some (.ext _) => True
 | _ => False
section
variable {P : Program} {w : World} {H : Hp} {h h' : Heap} {x e : Addr} {o' : HO}
theorem HOk.write (ok : HOk P w H h) (mu : Mut (H x)) (he : e = x ∨ H e = some (.own x)) (k : ∀ b u, b ≠ e → h.get? b = some u → h'.get? b = some u) (heo : ∃ u, h'.get? e = some u)
   (new : ObjOk P w (upd H x o') h' x o') : HOk P w (upd H x o') h' := fun b u q => by
 have nown : ∀ c y, H c = some (.own y) → c ≠ x := fun c y r z => by subst z; rw [r] at mu; exact mu
 have ntup : ∀ c xs, H c = some (.tup xs) → c ≠ x := fun c xs r z => by subst z; rw [r] at mu; exact mu
 by_cases hb : b = x
 · subst hb; rw [upd_same] at q; cases q; exact new
 · rw [upd_ne hb] at q
   by_cases hbe : b = e
   · have q' : H b = some (.own x) := by
       rcases he with z | z
       · exact absurd (hbe.trans z) hb
       · rw [hbe]; exact z
     rw [q] at q'; cases q'
     obtain ⟨v, hv⟩ := heo
     exact ⟨v, by rw [hbe]; exact hv⟩
   · refine (ok b u q).stay (fun c v hc r => k c v ?_ r) (fun c r => by rw [upd_ne (nown c b r)]; exact r) fun c xs r => by rw [upd_ne (ntup c xs r)]; exact r
     rcases hc with rfl | hc
     · exact hbe
     · rintro rfl
       rcases he with z | z
       · exact nown c b hc z
       · rw [hc] at z; cases z; exact hb rfl
end
structure Un (fs ex : List Addr) (H H' : Hp) (h h' : Heap) : Prop where
 keep : ∀ b o, h.get? b = some o → H b = none → b ∉ fs → b ∉ ex → h'.get? b = some o
 slot : ∀ b o, h.get? b = some o → H b = none → b ∈ fs → b ∉ ex → ∃ sl, h'.get? b = some { o with slots := sl }
 free : ∀ b o, h.get? b = some o → H b = none → b ∉ ex → H' b = none
 there : ∀ b o, h.get? b = some o → b ∉ ex → ∃ o', h'.get? b = some o'
 tups : ∀ b xs, H b = some (.tup xs) → H' b = some (.tup xs)
 frzs : ∀ b o u, H b = some (.frz o u) → H' b = some (.frz o u)
 tbls : ∀ b ps, H b = some (.tbl ps) → ∃ more, H' b = some (.tbl (ps ++ more))
section
variable {fs fs' ex ex' : List Addr} {H H1 H2 : Hp} {h h1 h2 h' : Heap} {a x e : Addr} {o : HO}
theorem Un.any (u : Un fs ex H H1 h h1) {b : Addr} {ob : Obj} (q : h.get? b = some ob) (n : H b = none) (hx : b ∉ ex) : ∃ sl, h1.get? b = some { ob with slots := sl } := by
 by_cases hb : b ∈ fs
 · exact u.slot b ob q n hb hx
 · exact ⟨ob.slots, u.keep b ob q n hb hx⟩
theorem Un.kept (k : ∀ b u, h.get? b = some u → h'.get? b = some u) : Un fs ex H H h h' :=
 ⟨fun b ob q _ _ _ => k b ob q, fun b ob q _ _ _ => ⟨ob.slots, k b ob q⟩, fun _ _ _ n _ => n, fun b ob q _ => ⟨ob, k b ob q⟩, fun _ _ q => q, fun _ _ _ q => q, fun _ ps q => ⟨#[], by rw [q]; simp⟩⟩
theorem Un.refl : Un fs ex H H h h := Un.kept fun _ _ q => q
theorem Un.laid (k : ∀ b u, h.get? b = some u → h'.get? b = some u) (hp : h.objs.size ≤ a) (hn : H a = none) : Un fs ex H (upd H a o) h h' where
 keep := fun b u q _ _ _ => k b u q
 slot := fun b u q _ _ _ => ⟨u.slots, k b u q⟩
 free := fun b u q n _ => by rw [upd_ne (Nat.ne_of_lt (Nat.lt_of_lt_of_le (Heap.lt_size q) hp))]; exact n
 there := fun b u q _ => ⟨u, k b u q⟩
 tups := fun b xs q => by rw [upd_ne (ne_of_none q hn)]; exact q
 frzs := fun b u xs q => by rw [upd_ne (ne_of_none q hn)]; exact q
 tbls := fun b ps q => ⟨#[], by rw [upd_ne (ne_of_none q hn), q]; simp⟩
theorem Un.write (mu : Mut (H x)) (he : e = x ∨ H e = some (.own x)) (k : ∀ b u, b ≠ e → h.get? b = some u → h'.get? b = some u) (heo : ∃ u, h'.get? e = some u) : Un fs ex H (upd H x o) h h' := by
 have hx : ∀ b, H b = none → b ≠ x := fun b n z => by subst z; rw [n] at mu; exact mu
 have hb : ∀ b, H b = none → b ≠ e := fun b n z => by
   subst z
   rcases he with r | r
   · exact hx b n r
   · rw [n] at r; cases r
 have hm : ∀ b u, H b = some u → ¬ Mut (some u) → b ≠ x := fun b u q nm z => by subst z; rw [q] at mu; exact nm mu
 refine ⟨fun b u q n _ _ => k b u (hb b n) q, fun b u q n _ _ => ⟨u.slots, k b u (hb b n) q⟩, fun b u q n _ => by rw [upd_ne (hx b n)]; exact n, fun b u q _ => ?_,
   fun b xs q => by rw [upd_ne (hm b _ q fun z => z)]; exact q, fun b u xs q => by rw [upd_ne (hm b _ q fun z => z)]; exact q, fun b ps q => ⟨#[], by rw [upd_ne (hm b _ q fun z => z), q]; simp⟩⟩
 by_cases hbe : b = e
 · subst hbe; exact heo
 · exact ⟨u, k b u hbe q⟩
end
def trk (h : Heap) (H : Hp) : List Addr := (List.range h.objs.size).filter fun a => (H a).isSome
def hidT (h : Heap) (H : Hp) : Heap := PySem.W.hideAll h (trk h H)
theorem hidT_size (h : Heap) (H : Hp) : (hidT h H).objs.size = h.objs.size := PySem.W.hideAll_size _ _
theorem hidT_get {h : Heap} {H : Hp} {b : Addr} {o : Obj} (e : h.get? b = some o) (n : H b = none) : (hidT h H).get? b = some o :=
 PySem.W.hideAll_get _ e fun hm => by
   have q : (H b).isSome = true := (List.mem_filter.mp hm).2
   rw [n] at q; simp at q
theorem of_hidT {h : Heap} {H : Hp} {b : Addr} {o : Obj} (e : (hidT h H).get? b = some o) : h.get? b = some o ∧ H b = none := by
 have e' : h.get? b = some o := PySem.W.of_hideAll (trk h H) e
 refine ⟨e', ?_⟩
 cases q : H b with
 | none => rfl
 | some x =>
   have hm : b ∈ trk h H := List.mem_filter.mpr ⟨List.mem_range.mpr (Heap.lt_size e'), by simp [q]⟩
   have z : (hidT h H).get? b = none := PySem.W.hideAll_none (trk h H) hm
   rw [z] at e; cases e
def allNews (g h : Heap) (L : Addr) : List (Addr × Obj) := (List.range h.objs.size).filterMap fun a => if a = L ∨ (g.get? a).isSome = true then none else (h.get? a).map fun o => (a, o)
def rest (g h : Heap) (L d : Addr) : List (Addr × Obj) := (allNews g h L).filter fun p => decide (p.1 ≠ d)
end L2
namespace L2
open PySem PySem.Spec PyProof.Rows
structure Mod (K : PySem.W.Frag) (mg : Str → Option Value) (base : Heap) : Prop where
 kin : K.In base
 glob : base.Ns mainGlobals mg
 blt : ∃ mb, base.Ns builtinsNs mb ∧ ∀ x : Str, x ≠ "__name__" → mb x = bootBuiltins x
 nolimit : base.NoLimit
 seer : base.NoSeer
structure Cx where
 prog : Program
 w : World
 K : PySem.W.Frag
 mg : Str → Option Value
 base : Heap
 A : Around
 N : List Str
 s₀ : Shared
 H₀ : Hp
 env : Env
 outer : List Env
 stack : List Env
 ex : List Addr
 fn : Str → Bool
 calm : Bool
 pn : List (Addr × Obj)
 xe : Value → Shared → Prop
def frs (l : List Env) : List Addr := l.filterMap (·.frame)
abbrev Cx.fs (X : Cx) : List Addr := frs X.outer
def Vis (sc : Scope) (x : Str) : Prop := sc.names.lookup x = some .local ∨ sc.names.lookup x = some .cell ∨ sc.names.lookup x = some .free
def Loc (sc : Scope) (x : Str) : Prop := sc.names.lookup x = some .local ∨ sc.names.lookup x = some .cell
def Look (env : Env) (h : Heap) (m : Str → Option Value) (x : Str) (u : Value) : Prop :=
 (env.kindOf x = some .local ∧ m x = some u) ∨ ((env.kindOf x = some .cell ∨ env.kindOf x = some .free) ∧ ∃ c, env.cells.lookup x = some c ∧ h.IsCell c (some u))
structure Cx.Ok (X : Cx) : Prop where
 mod : Mod X.K X.mg X.base
 kind : X.env.scope.kind = .function
 glob : X.env.globals = mainGlobals
 blt : X.env.builtins = builtinsNs
 above : X.s₀.heap.objs.size ≤ X.env.locals
 inj : ∀ x y c, X.env.cells.lookup x = some c → X.env.cells.lookup y = some c → x = y
 has : ∀ x, (X.env.kindOf x = some .cell ∨ X.env.kindOf x = some .free) → ∃ c, X.env.cells.lookup x = some c
 cab : ∀ x c, X.fn x = true → X.env.cells.lookup x = some c → X.s₀.heap.objs.size ≤ c
 hd : X.calm = true → X.A.handled = none
 frames : X.A.frames = some X.stack
 stk : X.stack = X.outer ∨ (X.stack = X.env :: X.outer ∧ X.env.frame = some X.env.locals)
 exf : ∀ b ∈ X.ex, b ≠ X.env.locals ∧ ∀ x c, X.env.cells.lookup x = some c → c ≠ b
 bs : ∀ b o, X.base.get? b = some o → X.s₀.heap.get? b = some o ∧ X.H₀ b = none
 bsz : X.base.objs.size ≤ X.s₀.heap.objs.size
 noex : ∀ b o, X.base.get? b = some o → b ∉ X.ex
 exfs : ∀ b ∈ X.ex, b ∉ X.fs
 funs : X.s₀.heap.FunFrames X.base X.outer
 frf : ∀ b ∈ X.fs, X.H₀ b = none
structure Inv (X : Cx) (pins : List (Addr × Obj)) (σ : List (Option V)) (H : Hp) (s : Shared) : Prop where
 ok : X.Ok
 os : s.os = X.s₀.os
 bare : AllBare s.gens
 base : Un X.fs X.ex X.H₀ H X.s₀.heap s.heap
 loc : ∃ m, s.heap.Ns X.env.locals m ∧ ∀ (i : Nat) (x : Str) (v : V), X.N[i]? = some x → σ[i]? = some (some v) → Vis X.env.scope x → ∃ u, RelV v u ∧ Look X.env s.heap m x u
 cell : ∀ x c, X.env.cells.lookup x = some c → ∃ v, s.heap.IsCell c v
 free : H X.env.locals = none
 freeC : ∀ x c, X.env.cells.lookup x = some c → H c = none
 pin : ∀ p ∈ X.pn ++ pins, s.heap.get? p.1 = some p.2 ∧ H p.1 = none ∧ p.1 ≠ X.env.locals ∧ p.1 ∉ X.fs ∧ ∀ v, p.2.data ≠ .cell v
 hok : HOk X.prog X.w H s.heap
 len : σ.length = X.N.length
section
variable {X : Cx} {pins : List (Addr × Obj)} {σ : List (Option V)} {H H' : Hp} {s : Shared} {h' : Heap}
theorem Cx.Ok.nofr (ok : X.Ok) {b : Addr} {o : Obj} (e : X.base.get? b = some o) : b ∉ X.fs := fun hb => by
 have := (ok.funs.mem hb).1
 rw [e] at this; cases this
theorem Inv.bs (I : Inv X pins σ H s) : ∀ b o, X.base.get? b = some o → s.heap.get? b = some o ∧ H b = none := fun b o e =>
 ⟨I.base.keep b o (I.ok.bs b o e).1 (I.ok.bs b o e).2 (I.ok.nofr e) (I.ok.noex b o e), I.base.free b o (I.ok.bs b o e).1 (I.ok.bs b o e).2 (I.ok.noex b o e)⟩
theorem Inv.bk (I : Inv X pins σ H s) : ∀ b o, X.base.get? b = some o → s.heap.get? b = some o := fun b o e => (I.bs b o e).1
theorem Inv.mod (I : Inv X pins σ H s) : Mod X.K X.mg X.base := I.ok.mod
theorem Inv.kIn (I : Inv X pins σ H s) : X.K.In s.heap := I.ok.mod.kin.keeps I.bk
theorem Inv.nolimit (I : Inv X pins σ H s) : s.heap.NoLimit := I.ok.mod.nolimit.keeps I.bk
theorem Inv.lt (I : Inv X pins σ H s) : X.env.locals < s.heap.objs.size := let ⟨_, hn, _⟩ := I.loc; hn.lt
theorem Inv.sz (I : Inv X pins σ H s) : X.s₀.heap.objs.size ≤ s.heap.objs.size := Nat.le_trans I.ok.above (Nat.le_of_lt I.lt)
theorem Inv.nofs (I : Inv X pins σ H s) {a : Addr} (h : s.heap.objs.size ≤ a) : a ∉ X.fs := fun hb => by
 obtain ⟨_, o, ho, _⟩ := I.ok.funs.mem hb
 exact absurd (Nat.lt_of_lt_of_le (Heap.lt_size ho) (Nat.le_trans I.sz h)) (Nat.lt_irrefl _)
theorem Inv.cne (I : Inv X pins σ H s) : ∀ x c, X.env.cells.lookup x = some c → c ≠ X.env.locals := fun x c e z => by
 obtain ⟨v, o, ho, hd⟩ := I.cell x c e
 obtain ⟨m, ⟨o', es, ep, ho', hd', _⟩, _⟩ := I.loc
 rw [z, ho'] at ho; cases ho; rw [hd'] at hd; cases hd
theorem Inv.funs (I : Inv X pins σ H s) : s.heap.FunFrames X.base X.outer := by
 have all : ∀ (l : List Env), (∀ b ∈ frs l, b ∈ X.fs) → X.s₀.heap.FunFrames X.base l → s.heap.FunFrames X.base l := by
   intro l
   induction l with
   | nil => intro _ _; trivial
   | cons env r ih =>
     intro hs hl
     obtain ⟨hk, ⟨L, o, hf, hn, ho, hd⟩, hr⟩ := hl
     have hL : L ∈ X.fs := hs L (by unfold frs; rw [List.filterMap_cons, hf]; exact List.mem_cons_self)
     obtain ⟨sl, e⟩ := I.base.slot L o ho (I.ok.frf L hL) hL fun z => I.ok.exfs L z hL
     exact ⟨hk, ⟨L, _, hf, hn, e, hd⟩, ih (fun b hb => hs b (by unfold frs; rw [List.filterMap_cons, hf]; exact List.mem_cons_of_mem _ hb)) hr⟩
 exact all X.outer (fun _ hb => hb) I.ok.funs
theorem Inv.stack (I : Inv X pins σ H s) : s.heap.FunFrames X.base X.stack := by
 rcases I.ok.stk with e | ⟨e, hf⟩
 · rw [e]; exact I.funs
 · rw [e]
   obtain ⟨m, hn, _⟩ := I.loc
   refine .cons (by rw [I.ok.kind]; decide) hf hn ?_ I.funs
   exact Heap.get?_none_of_le (Nat.le_trans I.ok.bsz I.ok.above)
theorem Inv.stkSub (I : Inv X pins σ H s) : ∀ b ∈ frs X.stack, b ∈ X.env.locals :: X.fs := fun b hb => by
 rcases I.ok.stk with e | ⟨e, hf⟩
 · rw [e] at hb; exact List.mem_cons_of_mem _ hb
 · rw [e] at hb
   unfold frs at hb
   rw [List.filterMap_cons, hf] at hb
   exact hb
theorem Inv.stkFree (I : Inv X pins σ H s) : ∀ b ∈ frs X.stack, H b = none := fun b hb => by
 rcases List.mem_cons.mp (I.stkSub b hb) with e | hb
 · rw [e]; exact I.free
 · obtain ⟨_, o, ho, _⟩ := I.ok.funs.mem hb
   exact I.base.free b o ho (I.ok.frf b hb) fun z => I.ok.exfs b z hb
theorem Inv.step {g' : Array GenState} {t' : Nat} {d' : Drawn} {ch : List Addr} (I : Inv X pins σ H s)
   (hch : ∀ b ∈ ch, (b ∈ X.ex ∨ X.s₀.heap.objs.size ≤ b) ∧ b ≠ X.env.locals ∧ (∀ x c, X.env.cells.lookup x = some c → c ≠ b) ∧ ∀ p ∈ X.pn ++ pins, p.1 ≠ b)
   (keep : ∀ b o, b ≠ X.env.locals → b ∉ X.fs → b ∉ ch → s.heap.get? b = some o → H b = none → h'.get? b = some o)
   (slot : ∀ b o, b ≠ X.env.locals → b ∈ X.fs → b ∉ ch → s.heap.get? b = some o → H b = none → ∃ sl, h'.get? b = some { o with slots := sl }) (free : ∀ b o, b ∉ ch → s.heap.get? b = some o → H b = none → H' b = none)
   (there : ∀ b o, b ∉ ch → s.heap.get? b = some o → ∃ o', h'.get? b = some o')
   (tups : ∀ b xs, H b = some (.tup xs) → H' b = some (.tup xs)) (frzs : ∀ b o u, H b = some (.frz o u) → H' b = some (.frz o u)) (tbls : ∀ b ps, H b = some (.tbl ps) → ∃ more, H' b = some (.tbl (ps ++ more)))
   (ns : ∀ m, s.heap.Ns X.env.locals m → h'.Ns X.env.locals m) (hok : HOk X.prog X.w H' h') (hg : AllBare g') :
   Inv X pins σ H' { s with heap := h', gens := g', drawn := d', toks := t' } := by
 have neL : ∀ b o, X.s₀.heap.get? b = some o → b ≠ X.env.locals := fun b o e => Nat.ne_of_lt (Nat.lt_of_lt_of_le (Heap.lt_size e) I.ok.above)
 have neC : ∀ b o, X.s₀.heap.get? b = some o → b ∉ X.ex → b ∉ ch := fun b o e hx hb => by
   rcases (hch b hb).1 with z | z
   · exact hx z
   · exact absurd (Nat.lt_of_lt_of_le (Heap.lt_size e) z) (Nat.lt_irrefl _)
 have cellK : ∀ x c, X.env.cells.lookup x = some c → ∀ v, s.heap.IsCell c v → h'.IsCell c v := fun x c e v ⟨o, ho, hd⟩ => by
   have nch : c ∉ ch := fun z => (hch c z).2.2.1 x c e rfl
   by_cases hc : c ∈ X.fs
   · obtain ⟨sl, q⟩ := slot c o (I.cne x c e) hc nch ho (I.freeC x c e)
     exact ⟨_, q, hd⟩
   · exact ⟨o, keep c o (I.cne x c e) hc nch ho (I.freeC x c e), hd⟩
 refine ⟨I.ok, I.os, hg, ⟨fun b o e n hb hx => ?_, fun b o e n hb hx => ?_, fun b o e n hx => ?_, fun b o e hx => ?_, fun b xs e => tups b xs (I.base.tups b xs e), fun b o xs e => frzs b o xs (I.base.frzs b o xs e), fun b ps e => ?_⟩, ?_, fun x c e => ?_, ?_, fun x c e => ?_, fun p hp => ?_, hok, I.len⟩
 · exact keep b o (neL b o e) hb (neC b o e hx) (I.base.keep b o e n hb hx) (I.base.free b o e n hx)
 · obtain ⟨sl, e1⟩ := I.base.slot b o e n hb hx
   obtain ⟨sl', e2⟩ := slot b _ (neL b o e) hb (neC b o e hx) e1 (I.base.free b o e n hx)
   exact ⟨sl', e2⟩
 · obtain ⟨o', e1⟩ := I.base.there b o e hx
   exact free b o' (neC b o e hx) e1 (I.base.free b o e n hx)
 · obtain ⟨o', e1⟩ := I.base.there b o e hx
   exact there b o' (neC b o e hx) e1
 · obtain ⟨m1, e1⟩ := I.base.tbls b ps e
   obtain ⟨m2, e2⟩ := tbls b _ e1
   exact ⟨m1 ++ m2, by rw [e2, Array.append_assoc]⟩
 · obtain ⟨m, hn, hl⟩ := I.loc
   refine ⟨m, ns m hn, fun i x v e1 e2 e3 => ?_⟩
   obtain ⟨u, r, l⟩ := hl i x v e1 e2 e3
   refine ⟨u, r, ?_⟩
   rcases l with l | ⟨k, c, e, z⟩
   · exact .inl l
   · exact .inr ⟨k, c, e, cellK x c e _ z⟩
 · obtain ⟨v, z⟩ := I.cell x c e
   exact ⟨v, cellK x c e v z⟩
 · obtain ⟨m, ⟨o, _, _, ho, _⟩, _⟩ := I.loc
   exact free _ o (fun z => (hch _ z).2.1 rfl) ho I.free
 · obtain ⟨v, o, ho, hd⟩ := I.cell x c e
   exact free c o (fun z => (hch c z).2.2.1 x c e rfl) ho (I.freeC x c e)
 · obtain ⟨e, n, ne, nf, d⟩ := I.pin p hp
   have nch : p.1 ∉ ch := fun z => (hch p.1 z).2.2.2 p hp rfl
   exact ⟨keep p.1 p.2 ne nf nch e n, free p.1 p.2 nch e n, ne, nf, d⟩
theorem Inv.un {t' : Nat} (I : Inv X pins σ H s) (u : Un X.fs [] H H' s.heap h') (hok : HOk X.prog X.w H' h') : Inv X pins σ H' { s with heap := h', toks := t' } := by
 obtain ⟨m, ⟨o, es, ep, ho, r⟩, _⟩ := id I.loc
 obtain ⟨sl, hL⟩ := u.any ho I.free (by simp)
 exact I.step (g' := s.gens) (d' := s.drawn) (ch := []) (fun _ z => nomatch z) (fun b o _ hb _ e n => u.keep b o e n hb (by simp)) (fun b o _ hb _ e n => u.slot b o e n hb (by simp)) (fun b o _ e n => u.free b o e n (by simp)) (fun b o _ e => u.there b o e (by simp)) u.tups u.frzs u.tbls (fun m' hm => by
   obtain ⟨o', es', ep', ho', r'⟩ := hm
   rw [ho] at ho'; cases ho'
   exact ⟨_, es', ep', hL, r'⟩) hok I.bare
theorem Inv.call {g' : Array GenState} {t' : Nat} {d' : Drawn} {ch : List Addr} (I : Inv X pins σ H s) (u : Un (frs X.stack) ch H H' s.heap h') (hok : HOk X.prog X.w H' h') (hg : AllBare g')
   (hch : ∀ b ∈ ch, (b ∈ X.ex ∨ X.s₀.heap.objs.size ≤ b) ∧ b ≠ X.env.locals ∧ (∀ x c, X.env.cells.lookup x = some c → c ≠ b) ∧ ∀ p ∈ X.pn ++ pins, p.1 ≠ b) :
   Inv X pins σ H' { s with heap := h', gens := g', drawn := d', toks := t' } := by
 obtain ⟨m, ⟨o, es, ep, ho, r⟩, _⟩ := id I.loc
 obtain ⟨sl, hL⟩ := u.any ho I.free fun z => (hch _ z).2.1 rfl
 exact I.step (ch := ch) hch (fun b o hL hb hc e n => u.keep b o e n (fun z => (List.mem_cons.mp (I.stkSub b z)).elim hL hb) hc) (fun b o _ _ hc e n => u.any e n hc) (fun b o hc e n => u.free b o e n hc) (fun b o hc e => u.there b o e hc) u.tups u.frzs u.tbls (fun m' hm => by
   obtain ⟨o', es', ep', ho', r'⟩ := hm
   rw [ho] at ho'; cases ho'
   exact ⟨_, es', ep', hL, r'⟩) hok hg
theorem Inv.turned {t' : Nat} {it : Addr} (I : Inv X pins σ H s) (k : ∀ b o, b ≠ it → s.heap.get? b = some o → h'.get? b = some o) (hn : H it = none) (hL : it ≠ X.env.locals)
   (h1 : it ∈ X.ex ∨ X.s₀.heap.objs.size ≤ it) (h2 : ∀ x c, X.env.cells.lookup x = some c → c ≠ it) (h3 : ∀ p ∈ X.pn ++ pins, p.1 ≠ it) : Inv X pins σ H { s with heap := h', toks := t' } := by
 have nit : ∀ b u, H b = some u → b ≠ it := fun b u e z => by rw [z, hn] at e; cases e
 refine I.step (g' := s.gens) (d' := s.drawn) (ch := [it]) (fun b hb => ?_) (fun b o _ _ hc e _ => k b o (fun z => hc (by simp [z])) e) (fun b o _ _ hc e _ => ⟨o.slots, k b o (fun z => hc (by simp [z])) e⟩) (fun _ _ _ _ n => n)
   (fun b o hc e => ⟨o, k b o (fun z => hc (by simp [z])) e⟩) (fun _ _ e => e) (fun _ _ _ e => e) (fun b ps e => ⟨#[], by rw [e]; simp⟩) (fun m hm => ?_) (fun b u e => ?_) I.bare
 · have e : b = it := by simpa using hb
   subst e
   exact ⟨h1, hL, h2, h3⟩
 · obtain ⟨o, es, ep, ho, r⟩ := hm
   exact ⟨o, es, ep, k _ o (Ne.symm hL) ho, r⟩
 · refine (I.hok b u e).stay (fun c v hc q => k c v ?_ q) (fun _ q => q) fun _ _ q => q
   rcases hc with z | z
   · rw [z]; exact nit b u e
   · exact nit c _ z
theorem Inv.tok (I : Inv X pins σ H s) (t : Nat) : Inv X pins σ H { s with toks := t } := I.un (h' := s.heap) (t' := t) Un.refl I.hok
theorem Inv.kept {t' : Nat} (I : Inv X pins σ H s) (k : ∀ b u, s.heap.get? b = some u → h'.get? b = some u) : Inv X pins σ H { s with heap := h', toks := t' } := I.un (Un.kept k) (I.hok.kept k)
theorem Inv.laid {a : Addr} {o : HO} {t' : Nat} (I : Inv X pins σ H s) (k : ∀ b u, s.heap.get? b = some u → h'.get? b = some u) (hp : s.heap.objs.size ≤ a) (new : ObjOk X.prog X.w (upd H a o) h' a o) :
   Inv X pins σ (upd H a o) { s with heap := h', toks := t' } := I.un (Un.laid k hp (I.hok.fresh hp)) (I.hok.laid k hp new)
theorem Inv.write {x e : Addr} {o : HO} {t' : Nat} (I : Inv X pins σ H s) (mu : Mut (H x)) (he : e = x ∨ H e = some (.own x)) (k : ∀ b u, b ≠ e → s.heap.get? b = some u → h'.get? b = some u) (heo : ∃ u, h'.get? e = some u)
   (new : ObjOk X.prog X.w (upd H x o) h' x o) : Inv X pins σ (upd H x o) { s with heap := h', toks := t' } := I.un (Un.write mu he k heo) (I.hok.write mu he k heo new)
theorem Inv.weak {σ' : List (Option V)} (I : Inv X pins σ H s) (hl : σ'.length = σ.length) (w : ∀ (i : Nat) v, σ'[i]? = some (some v) → σ[i]? = some (some v)) : Inv X pins σ' H s :=
 ⟨I.ok, I.os, I.bare, I.base, let ⟨m, hn, hl'⟩ := I.loc; ⟨m, hn, fun i x v e1 e2 e3 => hl' i x v e1 (w i v e2) e3⟩, I.cell, I.free, I.freeC, I.pin, I.hok, hl.trans I.len⟩
theorem Inv.pins_of {pins' : List (Addr × Obj)} (I : Inv X pins σ H s) (h : ∀ p ∈ pins', s.heap.get? p.1 = some p.2 ∧ H p.1 = none ∧ p.1 ≠ X.env.locals ∧ p.1 ∉ X.fs ∧ ∀ v, p.2.data ≠ .cell v) : Inv X pins' σ H s :=
 ⟨I.ok, I.os, I.bare, I.base, I.loc, I.cell, I.free, I.freeC, fun p hp => (List.mem_append.mp hp).elim (fun z => I.pin p (List.mem_append_left _ z)) (h p), I.hok, I.len⟩
theorem nodup_ix {N : List Str} (hN : N.Nodup) {i j : Nat} {x : Str} (a : N[i]? = some x) (b : N[j]? = some x) : i = j := by
 obtain ⟨h1, e1⟩ := List.getElem?_eq_some_iff.mp a
 obtain ⟨h2, e2⟩ := List.getElem?_eq_some_iff.mp b
 exact (List.getElem_inj hN).mp (e1.trans e2.symm)
theorem store_ok2 {M : Model} {A : Around} {E : Value → Shared → Prop} {i : Nat} {x : Str} {v : V} {u : Value} {Q : Unit → Shared → Prop} (I : Inv X pins σ H s) (hN : X.N.Nodup) (hi : X.N[i]? = some x) (hx : Loc X.env.scope x) (r : RelV v u)
   (h : ∀ s', Inv X pins (σ.set i (some v)) H s' → (∃ a, Heap.SameBut a s.heap s'.heap ∧ (a = X.env.locals ∨ X.env.cells.lookup x = some a)) → Q () s') (hf : X.fn x = true ∨ X.env.scope.names.lookup x = some .local := by first | exact .inl rfl | exact .inr rfl | assumption) : wpAny M A (storeName X.env x u) Q E s := by
 obtain ⟨m, hn, hl⟩ := id I.loc
 have hcls : (X.env.scope.kind == .class || (X.env.scope.kind == .module && X.env.locals != X.env.globals)) = false := by rw [I.ok.kind]; rfl
 have hiσ : i < σ.length := by rw [I.len]; exact (List.getElem?_eq_some_iff.mp hi).1
 have cne := I.cne
 have tracked : ∀ {a : Addr} {h' : Heap}, (∃ o, s.heap.get? a = some o ∧ H a = none) → Heap.SameBut a s.heap h' → HOk X.prog X.w H h' := fun {a h'} ha hs b ob e => by
   obtain ⟨_, _, hfree⟩ := ha
   refine (I.hok b ob e).stay (fun c w' hc q => (hs.2 c ?_).trans q) (fun _ q => q) fun _ _ q => q
   rintro rfl
   rcases hc with rfl | hc
   · rw [hfree] at e; cases e
   · rw [hfree] at hc; cases hc
 rcases hx with hk | hk
 · refine wpAny_storeName_local hk hn (fun h' hn' hs => ?_) hcls
   obtain ⟨oL, _, _, hoL, _⟩ := id hn
   refine h _ ⟨I.ok, I.os, I.bare, ⟨fun b o e n hb hx => ?_, fun b o e n hb hx => ?_, I.base.free, fun b o e hx => ?_, I.base.tups, I.base.frzs, I.base.tbls⟩, ⟨_, hn', fun j y v' e1 e2 e3 => ?_⟩, fun y c e => ?_, I.free, I.freeC, fun p hp => ?_, tracked ⟨oL, hoL, I.free⟩ hs, by simpa using I.len⟩ ⟨_, hs, .inl rfl⟩
   · exact (hs.2 b (Nat.ne_of_lt (Nat.lt_of_lt_of_le (Heap.lt_size e) I.ok.above))).trans (I.base.keep b o e n hb hx)
   · obtain ⟨sl, e1⟩ := I.base.slot b o e n hb hx
     exact ⟨sl, (hs.2 b (Nat.ne_of_lt (Nat.lt_of_lt_of_le (Heap.lt_size e) I.ok.above))).trans e1⟩
   · obtain ⟨o', e1⟩ := I.base.there b o e hx
     exact ⟨o', (hs.2 b (Nat.ne_of_lt (Nat.lt_of_lt_of_le (Heap.lt_size e) I.ok.above))).trans e1⟩
   · by_cases hj : j = i
     · subst hj
       rw [hi] at e1; cases e1
       rw [List.getElem?_set_self hiσ] at e2
       cases e2
       exact ⟨u, r, .inl ⟨hk, by simp⟩⟩
     · rw [List.getElem?_set_ne (Ne.symm hj)] at e2
       obtain ⟨u', r', q⟩ := hl j y v' e1 e2 e3
       refine ⟨u', r', ?_⟩
       rcases q with ⟨k, e⟩ | ⟨k, c, e, z⟩
       · refine .inl ⟨k, ?_⟩
         have : y ≠ x := fun e => hj (nodup_ix hN e1 (e ▸ hi))
         simp [this, e]
       · exact .inr ⟨k, c, e, z.sameBut hs (cne y c e)⟩
   · obtain ⟨w', z⟩ := I.cell y c e
     exact ⟨w', z.sameBut hs (cne y c e)⟩
   · obtain ⟨e, n, ne, nf, d⟩ := I.pin p hp
     exact ⟨(hs.2 p.1 ne).trans e, n, ne, nf, d⟩
 · have hfn : X.fn x = true := by
     rcases hf with z | z
     · exact z
     · rw [z] at hk; cases hk
   obtain ⟨c, hc⟩ := I.ok.has x (.inl hk)
   obtain ⟨w', z⟩ := I.cell x c hc
   refine wpAny_storeName_cell I.ok.kind hk hc z (fun h' hc' hs => ?_)
   obtain ⟨oc, hoc, hocd⟩ := id z
   refine h { s with heap := h' } ⟨I.ok, I.os, I.bare, ⟨fun b o e n hb hx => ?_, fun b o e n hb hx => ?_, I.base.free, fun b o e hx => ?_, I.base.tups, I.base.frzs, I.base.tbls⟩, ⟨m, hn.sameBut hs (Ne.symm (cne x c hc)), fun j y v' e1 e2 e3 => ?_⟩, fun y c' e => ?_, I.free, I.freeC, fun p hp => ?_, tracked ⟨oc, hoc, I.freeC x c hc⟩ hs, by simpa using I.len⟩ ⟨c, hs, .inr hc⟩
   · exact (hs.2 b (Nat.ne_of_lt (Nat.lt_of_lt_of_le (Heap.lt_size e) (I.ok.cab x c hfn hc)))).trans (I.base.keep b o e n hb hx)
   · obtain ⟨sl, e1⟩ := I.base.slot b o e n hb hx
     exact ⟨sl, (hs.2 b (Nat.ne_of_lt (Nat.lt_of_lt_of_le (Heap.lt_size e) (I.ok.cab x c hfn hc)))).trans e1⟩
   · obtain ⟨o', e1⟩ := I.base.there b o e hx
     exact ⟨o', (hs.2 b (Nat.ne_of_lt (Nat.lt_of_lt_of_le (Heap.lt_size e) (I.ok.cab x c hfn hc)))).trans e1⟩
   · by_cases hj : j = i
     · subst hj
       rw [hi] at e1; cases e1
       rw [List.getElem?_set_self hiσ] at e2
       cases e2
       exact ⟨u, r, .inr ⟨.inl hk, c, hc, hc'⟩⟩
     · rw [List.getElem?_set_ne (Ne.symm hj)] at e2
       obtain ⟨u', r', q⟩ := hl j y v' e1 e2 e3
       refine ⟨u', r', ?_⟩
       rcases q with q | ⟨k, c', e, z'⟩
       · exact .inl q
       · refine .inr ⟨k, c', e, z'.sameBut hs ?_⟩
         rintro rfl
         exact hj (nodup_ix hN e1 (I.ok.inj _ _ _ e hc ▸ hi))
   · by_cases hcc : c' = c
     · subst hcc; exact ⟨_, hc'⟩
     · obtain ⟨w2, z2⟩ := I.cell y c' e
       exact ⟨w2, z2.sameBut hs hcc⟩
   · obtain ⟨e, n, ne, nf, d⟩ := I.pin p hp
     refine ⟨(hs.2 p.1 ?_).trans e, n, ne, nf, d⟩
     intro q
     rw [q, hoc] at e
     have q' : oc = p.2 := Option.some.inj e
     exact d w' (by rw [← q']; exact hocd)
theorem store_ok {M : Model} {A : Around} {E : Value → Shared → Prop} {i : Nat} {x : Str} {v : V} {u : Value} {Q : Unit → Shared → Prop} (I : Inv X pins σ H s) (hN : X.N.Nodup) (hi : X.N[i]? = some x) (hx : Loc X.env.scope x) (r : RelV v u)
   (h : ∀ s', Inv X pins (σ.set i (some v)) H s' → Q () s') (hf : X.fn x = true ∨ X.env.scope.names.lookup x = some .local := by first | exact .inl rfl | exact .inr rfl | assumption) : wpAny M A (storeName X.env x u) Q E s :=
 store_ok2 I hN hi hx r (fun s' I' _ => h s' I') hf
theorem Inv.call' {s' : Shared} {ch : List Addr} (I : Inv X pins σ H s) (ho : s'.os = s.os) (u : Un (frs X.stack) ch H H' s.heap s'.heap) (hok : HOk X.prog X.w H' s'.heap) (hg : AllBare s'.gens)
   (hch : ∀ b ∈ ch, (b ∈ X.ex ∨ X.s₀.heap.objs.size ≤ b) ∧ b ≠ X.env.locals ∧ (∀ x c, X.env.cells.lookup x = some c → c ≠ b) ∧ ∀ p ∈ X.pn ++ pins, p.1 ≠ b) : Inv X pins σ H' s' := by
 obtain ⟨h', g', d', t', o'⟩ := s'
 have e : o' = s.os := ho
 subst e
 exact I.call (g' := g') (t' := t') (d' := d') u hok hg hch
end
abbrev XK := Value → Option Addr → Hp → Prop
abbrev St := List (Option V)
abbrev VK := V → Hp → Prop
abbrev TE := St → Hp → VK → Prop
abbrev TT := St → Hp → (Bool → Hp → Prop) → Prop
abbrev TA := St → Hp → (List V → Hp → Prop) → Prop
structure Ends where
 nx : St → Hp → Prop
 rt : VK
 bk : St → Hp → Prop := fun _ _ => False
 ct : St → Hp → Prop := fun _ _ => False
abbrev TS := Ends → St → Hp → Prop
inductive EP (X : Cx) (pins : List (Addr × Obj)) (σ : St) (Q : VK) (u : Value) (s' : Shared) : Prop
 | mk (v : _) (H' : _) (h1 : Inv X pins σ H' s') (h2 : RelV v u) (h3 : Q v H') : EP X pins σ Q u s'
def TP (X : Cx) (pins : List (Addr × Obj)) (σ : St) (Q : Bool → Hp → Prop) (b : Bool) (s' : Shared) : Prop := ∃ H', Inv X pins σ H' s' ∧ Q b H'
inductive AP (X : Cx) (pins : List (Addr × Obj)) (σ : St) (Q : List V → Hp → Prop) (us : List Value) (s' : Shared) : Prop
 | mk (vs : _) (H' : _) (h1 : Inv X pins σ H' s') (h2 : Vals vs us) (h3 : Q vs H') : AP X pins σ Q us s'
def SP (X : Cx) (pins : List (Addr × Obj)) (D : Ends) (f : Flow) (s' : Shared) : Prop :=
 match f with
 | .next => ∃ σ' H', Inv X pins σ' H' s' ∧ D.nx σ' H'
 | .brk => ∃ σ' H', Inv X pins σ' H' s' ∧ D.bk σ' H'
 | .cont => ∃ σ' H', Inv X pins σ' H' s' ∧ D.ct σ' H'
 | .ret u => ∃ v σ' H', Inv X pins σ' H' s' ∧ RelV v u ∧ D.rt v H'
def PE (X : Cx) (e : Expr) (t : TE) : Prop :=
 ∀ (pins : List (Addr × Obj)) (s : Shared) (σ : St) (H : Hp) (Q : VK), Inv X pins σ H s → t σ H Q → wpAny (model X.prog X.w) X.A (eval e X.env) (EP X pins σ Q) X.xe s
def PT (X : Cx) (e : Expr) (t : TT) : Prop :=
 ∀ (pins : List (Addr × Obj)) (s : Shared) (σ : St) (H : Hp) (Q : Bool → Hp → Prop), Inv X pins σ H s → t σ H Q → wpAny (model X.prog X.w) X.A (isTrue e X.env (eval e X.env)) (TP X pins σ Q) X.xe s
def PW (X : Cx) (e : Expr) (t : TT) : Prop :=
 ∀ (whole : Sem Value) (pins : List (Addr × Obj)) (s : Shared) (σ : St) (H : Hp) (Q : Bool → Hp → Prop), Inv X pins σ H s → t σ H Q → wpAny (model X.prog X.w) X.A (isTrue e X.env whole) (TP X pins σ Q) X.xe s
theorem PW.pt {X : Cx} {e : Expr} {t : TT} (h : PW X e t) : PT X e t := h _
def PA (X : Cx) (es : List Expr) (t : TA) : Prop :=
 ∀ (pos : Pos) (pins : List (Addr × Obj)) (s : Shared) (σ : St) (H : Hp) (Q : List V → Hp → Prop), Inv X pins σ H s → t σ H Q → wpAny (model X.prog X.w) X.A (spliced (backTo pos (starEach es X.env))) (AP X pins σ Q) X.xe s
def PS (X : Cx) (st : Stmt) (t : TS) : Prop :=
 ∀ (pins : List (Addr × Obj)) (s : Shared) (σ : St) (H : Hp) (D : Ends), Inv X pins σ H s → t D σ H → wpAny (model X.prog X.w) X.A (exec st X.env) (SP X pins D) X.xe s
def PSs (X : Cx) (st : List Stmt) (t : TS) : Prop :=
 ∀ (pins : List (Addr × Obj)) (s : Shared) (σ : St) (H : Hp) (D : Ends), Inv X pins σ H s → t D σ H → wpAny (model X.prog X.w) X.A (execs st X.env) (SP X pins D) X.xe s
theorem thn {α : Type} {t : Sem α} {Q Q' : α → Shared → Prop} {M : Model} {A : Around} {E : Value → Shared → Prop} {s : Shared} (h : wpAny M A t Q E s) (hQ : ∀ a s, Q a s → Q' a s) : wpAny M A t Q' E s := wpAny_mono h hQ fun _ _ x => x
end L2
namespace L2
open PySem PySem.Spec PyProof.Rows
section
variable {X : Cx}
inductive tVar (i : Nat) (σ : St) (H : Hp) (Q : VK) : Prop
 | mk (v : _) (h1 : σ[i]? = some (some v)) (h2 : Q v H) : tVar i σ H Q
def tC (v : V) : TE := fun _ H Q => Q v H
theorem pe_var {i : Nat} {x : Str} {pos : Pos} (hN : X.N[i]? = some x) (hv : Vis X.env.scope x) (hd : (x == ("__debug__" : Str)) = false := by decide) (hcd : (x == ("__classdict__" : Str)) = false := by decide) : PE X (.Name x pos) (tVar i) := by
 intro pins s σ H Q I h
 obtain ⟨v, e, h⟩ := h
 obtain ⟨m, hn, hl⟩ := I.loc
 obtain ⟨u, r, l⟩ := hl i x v hN e hv
 have fin : EP X pins σ Q u s := ⟨v, H, I, r, h⟩
 rcases l with ⟨hk, hm⟩ | ⟨hk, c, hc, hcell⟩
 · exact wpAny_Name (wpAny_loadName_local I.ok.kind hk hn hm fin) hd
 · rcases hk with hk | hk
   · exact wpAny_Name (wpAny_loadName_cell I.ok.kind hk hc hcell fin) hd
   · exact wpAny_Name (wpAny_loadName_free I.ok.kind hk hc hcell fin hcd) hd
theorem pe_int {i j pos} : PE X (.Constant (.int i) j pos) (tC (.int i)) := fun _ _ _ H _ I h => wpAny_Constant_int ⟨.int i, H, I.tok _, ⟨_, rfl⟩, h⟩
theorem pe_bl {b j pos} : PE X (.Constant (.bool b) j pos) (tC (.bl b)) := fun _ _ _ H _ I h => Constant_bool ⟨.bl b, H, I, rfl, h⟩
def Gl (X : Cx) (x : Str) : Prop := X.env.kindOf x = some .globalImplicit
theorem ld_glob {E : Value → Shared → Prop} {pins : List (Addr × Obj)} {s : Shared} {σ : St} {H : Hp} {x : Str} {u : Value} {pos : Pos} {Q : Value → Shared → Prop} (I : Inv X pins σ H s) (hg : Gl X x) (hm : X.mg x = some u) (h : Q u s)
   (hd : (x == ("__debug__" : Str)) = false := by decide) : wpAny (model X.prog X.w) X.A (eval (.Name x pos) X.env) Q E s :=
 Calls.Name_function_global I.ok.kind hg (Calls.loadGlobal_global (by rw [I.ok.glob]; exact I.mod.glob.keeps I.bk) hm h) hd
theorem ld_blt {E : Value → Shared → Prop} {pins : List (Addr × Obj)} {s : Shared} {σ : St} {H : Hp} {x : Str} {u : Value} {pos : Pos} {Q : Value → Shared → Prop} (I : Inv X pins σ H s) (hg : Gl X x) (hm : X.mg x = none) (hv : bootBuiltins x = some u) (h : Q u s)
   (hn : x ≠ "__name__" := by decide) (hd : (x == ("__debug__" : Str)) = false := by decide) : wpAny (model X.prog X.w) X.A (eval (.Name x pos) X.env) Q E s := by
 obtain ⟨mb, h1, h2⟩ := I.mod.blt
 exact Calls.Name_function_global I.ok.kind hg (Calls.loadGlobal_builtin (by rw [I.ok.glob]; exact I.mod.glob.keeps I.bk) hm (by rw [I.ok.blt]; exact h1.keeps I.bk) ((h2 x hn).trans hv) h) hd
theorem pe_glob {x : Str} {v : V} {u : Value} {pos : Pos} (hg : Gl X x) (hm : X.mg x = some u) (r : RelV v u) (hd : (x == ("__debug__" : Str)) = false := by decide) : PE X (.Name x pos) (tC v) :=
 fun _ _ _ H _ I h => ld_glob I hg hm ⟨v, H, I, r, h⟩ hd
variable {a b : Expr} {ta tb : TE} {pos : Pos}
def tB (t : TE) : TT := fun σ H Q => t σ H fun x H1 => ∃ c, x = .bl c ∧ Q c H1
theorem pt_val {e : Expr} {t : TE} (h : PE X e t) (he : ∀ whole, isTrue e X.env whole = (do let v ← whole; standAt e.pos; holding [v] (truthy v)) := by intro _; rfl) : PT X e (tB t) := by
 intro pins s σ H Q I hw
 refine isTrue_plain (thn (h pins s σ H _ I hw) fun v s1 ⟨x, H1, I1, r1, q1⟩ => ?_) (he _)
 obtain ⟨d, rfl, q⟩ := q1
 cases r1
 exact wpAny_truthy_bool ⟨H1, I1, q⟩
variable {tA tB' : TT} {rest : List Expr}
def tAnd (t u : TT) : TT := fun σ H Q => t σ H fun c H1 => if c = true then u σ H1 Q else Q false H1
def tOr (t u : TT) : TT := fun σ H Q => t σ H fun c H1 => if c = true then Q true H1 else u σ H1 Q
def tNot (t : TT) : TT := fun σ H Q => t σ H fun c H1 => Q (!c) H1
theorem pw_and1 (ha : PT X a tA) : PW X (.BoolOp .And [a] pos) tA := by
 intro wh pins s σ H Q I h
 refine isTrue_and (thn (ha pins s σ H Q I h) fun c s1 e => ?_)
 cases c with
 | true => exact isTrue_and_nil e
 | false => exact e
theorem pw_or1 (ha : PT X a tA) : PW X (.BoolOp .Or [a] pos) tA := by
 intro wh pins s σ H Q I h
 refine isTrue_or (thn (ha pins s σ H Q I h) fun c s1 e => ?_)
 cases c with
 | false => exact isTrue_or_nil e
 | true => exact e
theorem pw_and (ha : PT X a tA) (hb : PW X (.BoolOp .And (b :: rest) pos) tB') : PW X (.BoolOp .And (a :: b :: rest) pos) (tAnd tA tB') := by
 intro wh pins s σ H Q I h
 refine isTrue_and (thn (ha pins s σ H _ I h) fun c s1 ⟨H1, I1, q1⟩ => ?_)
 cases c with
 | true => exact hb wh pins s1 σ H1 Q I1 q1
 | false => exact ⟨H1, I1, q1⟩
theorem pw_or (ha : PT X a tA) (hb : PW X (.BoolOp .Or (b :: rest) pos) tB') : PW X (.BoolOp .Or (a :: b :: rest) pos) (tOr tA tB') := by
 intro wh pins s σ H Q I h
 refine isTrue_or (thn (ha pins s σ H _ I h) fun c s1 ⟨H1, I1, q1⟩ => ?_)
 cases c with
 | true => exact ⟨H1, I1, q1⟩
 | false => exact hb wh pins s1 σ H1 Q I1 q1
theorem pt_not (ha : PT X a tA) : PT X (.UnaryOp .Not a pos) (tNot tA) := by
 intro pins s σ H Q I h
 exact isTrue_not (ha pins s σ H (fun c H1 => Q (!c) H1) I h)
def tAndV (ta tb : TE) : TE := fun σ H Q => ta σ H fun x H1 => ∃ c, x = .bl c ∧ if c = true then tb σ H1 Q else Q (.bl false) H1
theorem pe_one {op} {t : TE} (h : PE X a t) : PE X (.BoolOp op [a] pos) t := fun pins s σ H Q I hw => BoolOp_one (h pins s σ H Q I hw)
theorem pe_and (ha : PE X a ta) (hb : PE X (.BoolOp .And (b :: rest) pos) tb) : PE X (.BoolOp .And (a :: b :: rest) pos) (tAndV ta tb) := by
 intro pins s σ H Q I h
 refine BoolOp_and (thn (ha pins s σ H _ I h) fun v s1 ⟨x, H1, I1, r1, q1⟩ => ?_)
 obtain ⟨c, rfl, q1⟩ := q1
 cases r1
 refine wpAny_truthy_bool ?_
 cases c with
 | true => exact hb pins s1 σ H1 Q I1 q1
 | false => exact ⟨.bl false, H1, I1, rfl, q1⟩
def tIf (t : TT) (ta tb : TE) : TE := fun σ H Q => t σ H fun c H1 => if c = true then ta σ H1 Q else tb σ H1 Q
theorem pe_ifExp {c : Expr} (hc : PT X c tA) (ha : PE X a ta) (hb : PE X b tb) : PE X (.IfExp c a b pos) (tIf tA ta tb) := by
 intro pins s σ H Q I h
 refine wpAny_IfExp (thn (hc pins s σ H _ I h) fun d s1 ⟨H1, I1, q1⟩ => ?_)
 cases d with
 | true => exact ha pins s1 σ H1 Q I1 q1
 | false => exact hb pins s1 σ H1 Q I1 q1
end
end L2
namespace L2
open PySem PySem.Spec PyProof.Rows
def SqL (K : PySem.W.Frag) (H : Hp) (a : Addr) (xs : List V) : Prop :=
 Rd H a (.lst xs) ∨
   ∃ (o : Obj) (its : Array Value) (n : Nat), K.lookup a = some o ∧ o.cls = .type "list" ∧ o.dict = none ∧ o.data = .seq its n ∧ its.size ≤ sizeLine ∧ Vals xs its.toList
def SqT (K : PySem.W.Frag) (H : Hp) (a : Addr) (xs : List V) : Prop :=
 Rd H a (.tup xs) ∨
   ∃ (o : Obj) (its : Array Value) (n : Nat), K.lookup a = some o ∧ o.cls = .type "tuple" ∧ o.data = .seq its n ∧ its.size ≤ sizeLine ∧ Vals xs its.toList
def absV : Value → Option V
 | .none => some .non
 | .bool b => some (.bl b)
 | .int i _ => some (.int i)
 | .str x _ => some (.str x)
 | .bytes b _ => some (.byt b)
 | .float b _ => some (.flt b)
 | .ref a => some (.ref a)
 | .type n => some (.ty n)
 | _ => none
theorem RelV.abs {x : V} {u : Value} (r : RelV x u) : absV u = some x := by
 cases x with
 | non => cases r; rfl
 | bl _ => cases r; rfl
 | int _ => obtain ⟨t, rfl⟩ := r; rfl
 | str _ => obtain ⟨t, rfl⟩ := r; rfl
 | byt _ => obtain ⟨t, rfl⟩ := r; rfl
 | flt _ => obtain ⟨t, rfl⟩ := r; rfl
 | ref _ => cases r; rfl
 | ty _ => cases r; rfl
theorem RelV.inj {x y : V} {u : Value} (r : RelV x u) (q : RelV y u) : x = y := Option.some.inj (r.abs.symm.trans q.abs)
theorem Vals.inj {xs ys : List V} {us : List Value} (a : Vals xs us) (b : Vals ys us) : xs = ys := by
 induction a generalizing ys with
 | nil => cases b; rfl
 | cons r t ih => cases b with | cons r' t' => rw [r.inj r', ih t']
section
variable {X : Cx} {pins : List (Addr × Obj)} {σ : St} {H : Hp} {s : Shared} {a : Addr} {xs ys : List V}
theorem SqL.of {K : PySem.W.Frag} (h : H a = some (.lst xs)) : SqL K H a xs := .inl (.inl h)
theorem SqT.of {K : PySem.W.Frag} (h : H a = some (.tup xs)) : SqT K H a xs := .inl (.inl h)
theorem Inv.list (I : Inv X pins σ H s) (h : SqL X.K H a xs) : ∃ its : List Value, Vals xs its ∧ PlainL s.heap a its.toArray ∧ xs.length ≤ sizeLine := by
 rcases h with h | ⟨o, its, n, hk, hc, hd, hs, hz, r⟩
 · obtain ⟨z, its, n, r, e⟩ := h.ok I.hok
   exact ⟨its, r, ⟨_, n, e, rfl, rfl, rfl⟩, z⟩
 · refine ⟨its.toList, r, ⟨o, n, I.kIn a o hk, hc, hd, by simpa using hs⟩, ?_⟩
   have e := r.length
   simp only [Array.length_toList] at e
   lia
theorem Inv.tuple (I : Inv X pins σ H s) (h : SqT X.K H a xs) : ∃ its : List Value, Vals xs its ∧ IsTup s.heap a its.toArray ∧ xs.length ≤ sizeLine := by
 rcases h with h | ⟨o, its, n, hk, hc, hs, hz, r⟩
 · obtain ⟨z, its, r, p⟩ := h.ok I.hok
   exact ⟨its, r, p, z⟩
 · refine ⟨its.toList, r, ⟨o, I.kIn a o hk, hc, n, by simpa using hs⟩, ?_⟩
   have e := r.length
   simp only [Array.length_toList] at e
   lia
theorem Inv.list_inj (I : Inv X pins σ H s) (h : SqL X.K H a xs) (h' : SqL X.K H a ys) : xs = ys := by
 obtain ⟨its, r, ⟨o, n, e, _, _, d⟩, _⟩ := I.list h
 obtain ⟨its', r', ⟨o', n', e', _, _, d'⟩, _⟩ := I.list h'
 rw [e] at e'; cases e'
 rw [d] at d'
 injection d' with d1 _
 have : its = its' := by simpa using congrArg Array.toList d1
 subst this
 exact r.inj r'
theorem Inv.tuple_inj (I : Inv X pins σ H s) (h : SqT X.K H a xs) (h' : SqT X.K H a ys) : xs = ys := by
 obtain ⟨its, r, ⟨o, e, _, n, d⟩, _⟩ := I.tuple h
 obtain ⟨its', r', ⟨o', e', _, n', d'⟩, _⟩ := I.tuple h'
 rw [e] at e'; cases e'
 rw [d] at d'
 injection d' with d1 _
 have : its = its' := by simpa using congrArg Array.toList d1
 subst this
 exact r.inj r'
end
abbrev Cx.wish (X : Cx) (E : Value → Shared → Prop) : Cx := { X with xe := E }
abbrev Cx.nox (X : Cx) : Cx := X.wish fun _ _ => False
theorem Cx.Ok.wish {X : Cx} (ok : X.Ok) (E : Value → Shared → Prop) : (X.wish E).Ok :=
 ⟨ok.mod, ok.kind, ok.glob, ok.blt, ok.above, ok.inj, ok.has, ok.cab, ok.hd, ok.frames, ok.stk, ok.exf, ok.bs, ok.bsz, ok.noex, ok.exfs, ok.funs, ok.frf⟩
theorem Cx.Ok.unwish {X : Cx} {E : Value → Shared → Prop} (ok : (X.wish E).Ok) : X.Ok :=
 ⟨ok.mod, ok.kind, ok.glob, ok.blt, ok.above, ok.inj, ok.has, ok.cab, ok.hd, ok.frames, ok.stk, ok.exf, ok.bs, ok.bsz, ok.noex, ok.exfs, ok.funs, ok.frf⟩
section
variable {X : Cx} {pins : List (Addr × Obj)} {σ : St} {H : Hp} {s : Shared} {E : Value → Shared → Prop}
theorem Inv.wish (I : Inv X pins σ H s) (E : Value → Shared → Prop) : Inv (X.wish E) pins σ H s := ⟨I.ok.wish E, I.os, I.bare, I.base, I.loc, I.cell, I.free, I.freeC, I.pin, I.hok, I.len⟩
theorem Inv.unwish (I : Inv (X.wish E) pins σ H s) : Inv X pins σ H s := ⟨I.ok.unwish, I.os, I.bare, I.base, I.loc, I.cell, I.free, I.freeC, I.pin, I.hok, I.len⟩
theorem SP.unwish {D : Ends} {f : Flow} {s' : Shared} (h : SP (X.wish E) pins D f s') : SP X pins D f s' := by
 cases f with
 | next => obtain ⟨σ', H', I, q⟩ := h; exact ⟨σ', H', I.unwish, q⟩
 | brk => obtain ⟨σ', H', I, q⟩ := h; exact ⟨σ', H', I.unwish, q⟩
 | cont => obtain ⟨σ', H', I, q⟩ := h; exact ⟨σ', H', I.unwish, q⟩
 | ret u => obtain ⟨v, σ', H', I, r, q⟩ := h; exact ⟨v, σ', H', I.unwish, r, q⟩
theorem PSs.nox {st : List Stmt} {t : TS} (h : PSs X.nox st t) : PSs X st t := fun pins s σ H D I hw =>
 wpAny_mono (h pins s σ H D (I.wish _) hw) (fun _ _ q => q.unwish) fun _ _ z => False.elim z
end
section
variable {X : Cx} {st : Stmt} {rest : List Stmt} {t u : TS} {e : Expr} {te : TE} {pos : Pos}
def tNext : TS := fun D σ H => D.nx σ H
@[reducible] def Ends.to (D : Ends) (n : St → Hp → Prop) : Ends := { D with nx := n }
def tSeq (t u : TS) : TS := fun D σ H => t (D.to (u D)) σ H
theorem pss_nil : PSs X [] tNext := fun _ _ σ H _ I h => wpAny_execs_nil ⟨σ, H, I, h⟩
theorem pss_cons (h1 : PS X st t) (h2 : PSs X rest u) : PSs X (st :: rest) (tSeq t u) := by
 intro pins s σ H D I h
 refine wpAny_execs_cons (thn (h1 pins s σ H { D with nx := u D } I h) fun f s1 q => ?_)
 cases f with
 | next =>
   obtain ⟨σ', H', I', q⟩ := q
   exact h2 pins s1 σ' H' D I' q
 | ret v => exact q
 | brk => exact q
 | cont => exact q
theorem pss_one (h1 : PS X st t) : PSs X [st] t := by
 intro pins s σ H D I h
 refine wpAny_execs_cons (thn (h1 pins s σ H D I h) fun f s1 q => ?_)
 cases f with
 | next => exact wpAny_execs_nil q
 | ret v => exact q
 | brk => exact q
 | cont => exact q
theorem Inv.quiet {pins : List (Addr × Obj)} {σ : St} {H : Hp} {s : Shared} (I : Inv X pins σ H s) : interactive X.env = false := by simp [interactive, I.ok.kind]
def tDrop (te : TE) : TS := fun D σ H => te σ H fun _ H1 => D.nx σ H1
theorem ps_expr (he : PE X e te) (hs : swapsWith e none pos.line X.env = pure false := by rfl) : PS X (.Expr e pos) (tDrop te) := by
 intro pins s σ H D I h
 exact wpAny_Expr_any (thn (he pins s σ H _ I h) fun v s1 ⟨x, H1, I1, r1, q1⟩ => ⟨σ, H1, I1, q1⟩) I.quiet hs
def tRet (te : TE) : TS := fun D σ H => te σ H D.rt
theorem ps_ret (he : PE X e te) : PS X (.Return (some e) pos) (tRet te) := by
 intro pins s σ H D I h
 exact wpAny_Return_some (thn (he pins s σ H _ I h) fun v s1 ⟨x, H1, I1, r1, q1⟩ => ⟨x, σ, H1, I1, r1, q1⟩)
def tIfS (c : TT) (t u : TS) : TS := fun D σ H => c σ H fun b H1 => if b = true then t D σ H1 else u D σ H1
theorem ps_if {c : Expr} {a b : List Stmt} {tc : TT} (hc : PT X c tc) (ha : PSs X a t) (hb : PSs X b u) : PS X (.If c a b pos) (tIfS tc t u) := by
 intro pins s σ H D I h
 refine wpAny_If (thn (hc pins s σ H _ I h) fun d s1 ⟨H1, I1, q1⟩ => ?_)
 cases d with
 | true => exact ha pins s1 σ H1 D I1 q1
 | false => exact hb pins s1 σ H1 D I1 q1
def tNever : TS := fun _ _ _ => False
theorem ps_never : PS X st tNever := fun _ _ _ _ _ _ h => h.elim
end
abbrev TG := V → St → Hp → (St → Hp → Prop) → Prop
abbrev TGs := List V → St → Hp → (St → Hp → Prop) → Prop
def PG (X : Cx) (target : Expr) (t : TG) : Prop :=
 ∀ (pins : List (Addr × Obj)) (s : Shared) (σ : St) (H : Hp) (v : V) (u : Value) (Q : St → Hp → Prop), Inv X pins σ H s → RelV v u → t v σ H Q →
   wpAny (model X.prog X.w) X.A (assign target X.env u) (fun _ s' => ∃ σ' H', Inv X pins σ' H' s' ∧ Q σ' H') X.xe s
def PGs (X : Cx) (ts : List Expr) (t : TGs) : Prop :=
 ∀ (pins : List (Addr × Obj)) (s : Shared) (σ : St) (H : Hp) (vs : List V) (us : List Value) (Q : St → Hp → Prop), Inv X pins σ H s → Vals vs us → t vs σ H Q →
   wpAny (model X.prog X.w) X.A (assignInOrder ((assignEach ts X.env).map (·.2)) us) (fun _ s' => ∃ σ' H', Inv X pins σ' H' s' ∧ Q σ' H') X.xe s
abbrev TSet := V → V → V → Hp → (Hp → Prop) → Prop
def PSet (X : Cx) (t : TSet) : Prop :=
 ∀ (pins : List (Addr × Obj)) (s : Shared) (σ : St) (H : Hp) (o i v : V) (ov iv u : Value) (Q : Hp → Prop), Inv X pins σ H s → RelV o ov → RelV i iv → RelV v u → t o i v H Q →
   wpAny (model X.prog X.w) X.A (setItem ov iv u) (fun _ s' => ∃ H', Inv X pins σ H' s' ∧ Q H') X.xe s
section
variable {X : Cx} {pos : Pos}
def gName (i : Nat) : TG := fun v σ H Q => Q (σ.set i (some v)) H
theorem pg_name {i : Nat} {x : Str} (hN : X.N.Nodup) (hi : X.N[i]? = some x) (hx : Loc X.env.scope x) (hf : X.fn x = true ∨ X.env.scope.names.lookup x = some .local := by first | exact .inl rfl | exact .inr rfl | assumption) : PG X (.Name x pos) (gName i) := by
 intro pins s σ H v u Q I r h
 exact wpAny_assign_Name (store_ok I hN hi hx r (fun s' I' => ⟨_, H, I', h⟩) hf)
def gNil : TGs := fun vs σ H Q => vs = [] ∧ Q σ H
inductive gCons (t : TG) (u : TGs) (vs : List V) (σ : St) (H : Hp) (Q : (St → Hp → Prop)) : Prop
 | mk (v : _) (r : _) (h1 : vs = v :: r) (h2 : t v σ H fun σ' H' => u r σ' H' Q) : gCons t u vs σ H Q
theorem pgs_nil : PGs X [] gNil := by
 intro pins s σ H vs us Q I r h
 obtain ⟨e, h⟩ := h
 subst e
 cases r
 exact assignInOrder_nil ⟨σ, H, I, h⟩
theorem pgs_cons {e : Expr} {es : List Expr} {t : TG} {u : TGs} (h1 : PG X e t) (h2 : PGs X es u)
   (hs : (assignEach (e :: es) X.env).map (·.2) = assign e X.env :: (assignEach es X.env).map (·.2) := by rfl) : PGs X (e :: es) (gCons t u) := by
 intro pins s σ H vs us Q I r h
 obtain ⟨v, vr, e1, h⟩ := h
 subst e1
 cases r with
 | cons r rr =>
   rw [hs]
   refine assignInOrder_cons (thn (h1 pins s σ H _ _ _ I r h) fun _ s1 ⟨σ1, H1, I1, q1⟩ => ?_)
   exact h2 pins s1 σ1 H1 _ _ Q I1 rr q1
inductive gTup (K : PySem.W.Frag) (n : Nat) (t : TGs) (v : V) (σ : St) (H : Hp) (Q : (St → Hp → Prop)) : Prop
 | mk (a : _) (xs : _) (h1 : v = .ref a) (h2 : SqT K H a xs) (h3 : xs.length = n) (h4 : t xs σ H Q) : gTup K n t v σ H Q
theorem pg_tup {es : List Expr} {k : Nat} {t : TGs} {n : Nat} (hc : X.calm = true) (h : PGs X es t)
   (hn : (assignEach es X.env).length = n := by rfl) (hst : (assignEach es X.env).findIdx? (·.1) = none := by rfl) : PG X (.Tuple es k pos) (gTup X.K n t) := by
 intro pins s σ H v u Q I r hw
 obtain ⟨a, xs, e1, hq, hl, hw⟩ := hw
 subst e1
 cases r
 obtain ⟨its, rv, ht, hz⟩ := I.tuple hq
 refine assign_Tuple_tuple (I.ok.hd hc) ht (by simp [hn, ← hl, rv.length]) hst fun h' hx => ?_
 have I1 : Inv X pins σ H { s with heap := h' } := I.kept (t' := s.toks) fun b o e => hx b o (Nat.ne_of_lt (Heap.lt_size e)) e
 exact h pins _ σ H xs _ Q I1 (by simpa using rv) hw
def gSub (to ti : TE) (t : TSet) : TG := fun v σ H Q => to σ H fun o H1 => ti σ H1 fun i H2 => t o i v H2 fun H3 => Q σ H3
theorem pg_sub {o i : Expr} {to ti : TE} {t : TSet} (ho : PE X o to) (hi : PE X i ti) (hs : PSet X t)
   (ha : ∀ v, assign (.Subscript o i pos) X.env v = (do
     let ov ← holding [v] (eval o X.env)
     let iv ← holding [v, ov] (eval i X.env)
     standAt pos
     holding [v, ov, iv] (setItem ov iv v)
     release [v, ov, iv] []) := by intro _; rfl) : PG X (.Subscript o i pos) (gSub to ti t) := by
 intro pins s σ H v u Q I r h
 rw [ha]
 refine wpAny_bind (wpAny_holding (thn (ho pins s σ H _ I h) fun ov s1 ⟨x, H1, I1, r1, q1⟩ => ?_))
 refine wpAny_bind (wpAny_holding (thn (hi pins s1 σ H1 _ I1 q1) fun iv s2 ⟨y, H2, I2, r2, q2⟩ => ?_))
 refine wpAny_bind (wpAny_standAt (wpAny_bind (wpAny_holding (thn (hs pins s2 σ H2 x y v ov iv u _ I2 r1 r2 r q2) fun _ s3 ⟨H3, I3, q3⟩ => ?_))))
 exact wpAny_release ⟨σ, H3, I3, q3⟩
def tAsg (te : TE) (g : TG) : TS := fun D σ H => te σ H fun x H1 => g x σ H1 D.nx
theorem ps_asg {tg e : Expr} {te : TE} {g : TG} (he : PE X e te) (hg : PG X tg g) (hs : swapsWithSole [tg] e pos.line X.env = pure false := by rfl) (hw : swappedStores [tg] e X.env = pure none := by rfl)
   (h1 : (assignEach [tg] X.env).map (·.2) = [assign tg X.env] := by rfl) : PS X (.Assign [tg] e pos) (tAsg te g) := by
 intro pins s σ H D I h
 refine wpAny_Assign_stores (thn (he pins s σ H _ I h) fun v s1 ⟨x, H1, I1, r1, q1⟩ => ?_) hs hw
 rw [h1]
 exact thn (hg pins s1 σ H1 x v _ I1 r1 q1) fun _ s2 q => q
theorem ps_set {i : Nat} {x : Str} {e : Expr} {te : TE} {pos' : Pos} (hN : X.N.Nodup) (hi : X.N[i]? = some x) (hx : Loc X.env.scope x) (he : PE X e te) (hs : swapsWith e (some (.Name x pos')) pos.line X.env = pure false := by rfl) (hf : X.fn x = true ∨ X.env.scope.names.lookup x = some .local := by first | exact .inl rfl | exact .inr rfl | assumption) :
   PS X (.Assign [.Name x pos'] e pos) (tAsg te (gName i)) := by
 intro pins s σ H D I h
 refine wpAny_Assign_Name (thn (he pins s σ H _ I h) fun v s1 ⟨y, H1, I1, r1, q1⟩ => ?_) hs
 exact store_ok I1 hN hi hx r1 (fun s2 I2 => ⟨_, H1, I2, q1⟩) hf
def tPar (i j : Nat) (ta : TA) : TS := fun D σ H => ta σ H fun vs H1 => ∃ v w, vs = [v, w] ∧ D.nx ((σ.set i (some v)).set j (some w)) H1
theorem ps_par {i j : Nat} {x y : Str} {a b : Expr} {ta : TA} {px py pt : Pos} {kt k2 pt2} (hc : X.calm = true) (hN : X.N.Nodup) (hi : X.N[i]? = some x) (hj : X.N[j]? = some y) (hij : i ≠ j)
   (hx : X.env.scope.names.lookup x = some .local) (hy : X.env.scope.names.lookup y = some .local) (ha : PA X [a, b] ta)
   (hw : swappedStores [.Tuple [.Name x px, .Name y py] kt pt] (.Tuple [a, b] k2 pt2) X.env = pure (some [x, y]))
   (hs : swapsWithSole [.Tuple [.Name x px, .Name y py] kt pt] (.Tuple [a, b] k2 pt2) pos.line X.env = pure false := by rfl) :
   PS X (.Assign [.Tuple [.Name x px, .Name y py] kt pt] (.Tuple [a, b] k2 pt2) pos) (tPar i j ta) := by
 intro pins s σ H D I h
 rw [exec_Assign_arm]
 refine wpAny_bind (wpAny_standAt ?_)
 rw [hs]
 refine wpAny_bind (wpAny_pure ?_)
 rw [if_neg (by decide)]
 refine wpAny_bind (Tuple_ (thn (ha _ pins s σ H _ I h) fun us s1 ⟨vs, H1, I1, r1, q1⟩ => ?_))
 obtain ⟨v, w, e1, q1⟩ := q1
 subst e1
 obtain ⟨u1, u2, rfl, rv, rw'⟩ : ∃ u1 u2, us = [u1, u2] ∧ RelV v u1 ∧ RelV w u2 := by
   cases r1 with
   | cons p q =>
     cases q with
     | cons p' q' =>
       cases q'
       exact ⟨_, _, rfl, p, p'⟩
 refine wpAny_newObj_type ?_ (by show 2 ≤ sizeLine; decide)
 have I2 : Inv X pins σ H1 { s1 with heap := s1.heap.push { cls := .type "tuple", data := .seq [u1, u2].toArray } } := I1.kept (t' := s1.toks) fun b o e => Heap.get?_push_of_some _ e
 rw [hw]
 refine wpAny_bind (wpAny_pure ?_)
 show wpAny (model X.prog X.w) X.A (do rule "assign.swapped-stores"; let items ← unpackItems (.ref s1.heap.objs.size) 2 none; assignInOrder [fun v => bindName X.env y v, fun v => bindName X.env x v] items.reverse; pure Flow.next) _ _ _
 refine wpAny_bind (wpAny_rule (wpAny_bind (unpackItems_tuple (items := #[u1, u2]) (I.ok.hd hc) (IsTup.new s1.heap _) fun h' hx' => ?_)))
 have I3 := I2.kept (h' := h') (t' := s1.toks) fun b o e => hx' b o (Nat.ne_of_lt (Heap.lt_size e)) e
 show wpAny _ _ (assignInOrder [fun v => bindName X.env y v, fun v => bindName X.env x v] [u2, u1] >>= fun _ => pure Flow.next) _ _ _
 refine wpAny_bind (assignInOrder_cons (wpAny_bindName (store_ok I3 hN hj (.inl hy) rw' (fun s2 I4 => ?_) (.inr hy))))
 refine assignInOrder_cons (wpAny_bindName (store_ok I4 hN hi (.inl hx) rv (fun s3 I5 => assignInOrder_nil (wpAny_pure ?_)) (.inr hx)))
 rw [List.set_comm _ _ (Ne.symm hij)] at I5
 exact ⟨_, H1, I5, q1⟩
end
section
variable {X : Cx} {pos : Pos}
def tWhile (c : TT) (tb : TS) : TS := fun D σ H => ∃ W : Nat → St → Hp → Prop, (∃ m, W m σ H) ∧ ∀ m σ H, W m σ H →
 c σ H fun b H1 => if b = true then ∃ N : St → Hp → Prop, (∀ σ' H', N σ' H' → ∃ m', m' < m ∧ W m' σ' H') ∧ tb { D with nx := N, ct := N, bk := D.nx } σ H1 else D.nx σ H1
theorem ps_while {c : Expr} {body : List Stmt} {tc : TT} {tb : TS} (hp : PassesOwn (model X.prog X.w) X.A X.env X.xe) (hc : PT X c tc) (hb : PSs X body tb) : PS X (.While c body [] pos) (tWhile tc tb) := by
 intro pins s σ H D I h
 obtain ⟨W, ⟨m0, w0⟩, turn⟩ := h
 refine wpAny_While (codeAny_whileLoop (fun n s' => ∃ σ' H', Inv X pins σ' H' s' ∧ W n σ' H') ?_ m0 ⟨σ, H, I, w0⟩)
 rintro n s1 ⟨σ1, H1, I1, w1⟩
 refine wpAny_passesOwn hp (thn (hc pins s1 σ1 H1 _ I1 (turn n σ1 H1 w1)) fun b s2 ⟨H2, I2, q2⟩ => ?_)
 cases b with
 | true =>
   obtain ⟨N, hN, q2⟩ := q2
   rw [if_pos rfl]
   refine wpAny_passesOwn hp (thn (hb pins s2 σ1 H2 _ I2 q2) fun f s3 q3 => ?_)
   cases f with
   | next =>
     obtain ⟨σ3, H3, I3, n3⟩ := q3
     obtain ⟨m', hm, w3⟩ := hN σ3 H3 n3
     exact ⟨m', hm, σ3, H3, I3, w3⟩
   | cont =>
     obtain ⟨σ3, H3, I3, n3⟩ := q3
     obtain ⟨m', hm, w3⟩ := hN σ3 H3 n3
     exact ⟨m', hm, σ3, H3, I3, w3⟩
   | brk => exact q3
   | ret v => exact q3
 | false =>
   rw [if_neg Bool.false_ne_true]
   exact wpAny_execs_nil ⟨σ1, H2, I2, q2⟩
end
structure It where
 go : Nat → Hp → Prop
 yld : Nat → Hp → V → Hp → Prop
 stop : Nat → Hp → Prop
def FpOk (X : Cx) (pins : List (Addr × Obj)) (H : Hp) (b : Addr) : Prop :=
 H b = none ∧ b ≠ X.env.locals ∧ b ∉ X.fs ∧ (b ∈ X.ex ∨ X.s₀.heap.objs.size ≤ b) ∧ (∀ x c, X.env.cells.lookup x = some c → c ≠ b) ∧ ∀ p ∈ X.pn ++ pins, p.1 ≠ b
theorem Inv.fpOk {X : Cx} {pins : List (Addr × Obj)} {σ : St} {H H' : Hp} {s : Shared} {b : Addr} (I : Inv X pins σ H s) (hb : s.heap.objs.size ≤ b) (hn : H' b = none) : FpOk X pins H' b := by
 refine ⟨hn, Nat.ne_of_gt (Nat.lt_of_lt_of_le I.lt hb), I.nofs hb, .inr (Nat.le_trans I.sz hb), fun x c e z => ?_, fun p hp z => ?_⟩
 · obtain ⟨v, q⟩ := I.cell x c e
   exact absurd (Nat.lt_of_lt_of_le q.lt (by rw [z]; exact hb)) (Nat.lt_irrefl _)
 · exact absurd (Nat.lt_of_lt_of_le (Heap.lt_size (I.pin p hp).1) (by rw [z]; exact hb)) (Nat.lt_irrefl _)
structure Turn (P : Program) (w : World) (K : PySem.W.Frag) (tg : Expr) (J : It) (fp : List Addr) (it : Addr) (tn : Nat → Heap → Prop) : Prop where
 mem : it ∈ fp
 obj : ∀ i h, tn i h → ∀ b ∈ fp, ∃ o, h.get? b = some o ∧ ∀ v, o.data ≠ .cell v
 keep : ∀ i h h', tn i h → (∀ b ∈ fp, ∀ o, h.get? b = some o → h'.get? b = some o) → tn i h'
 item : ∀ (X : Cx), X.prog = P → X.w = w → X.K = K → X.calm = true → ∀ (i : Nat) (pins : List (Addr × Obj)) (s : Shared) (σ : St) (H : Hp) (E : Value → Shared → Prop), Inv X pins σ H s → (∀ b ∈ fp, FpOk X pins H b) → tn i s.heap → J.go i H →
   wpAny (model P w) X.A (pyNext (.ref it)) (fun r s1 => ∃ u, r = some u ∧
     wpAny (model P w) X.A (letOwnedTupleGo tg (.ref it) u) (fun _ s2 => ∃ x H', Inv X pins σ H' s2 ∧ RelV x u ∧ J.yld i H x H' ∧ tn (i + 1) s2.heap ∧ ∀ b ∈ fp, H' b = none) E s1) E s
 done : ∀ (X : Cx), X.prog = P → X.w = w → X.K = K → X.calm = true → ∀ (i : Nat) (pins : List (Addr × Obj)) (s : Shared) (σ : St) (H : Hp) (E : Value → Shared → Prop), Inv X pins σ H s → (∀ b ∈ fp, FpOk X pins H b) → tn i s.heap → J.stop i H →
   wpAny (model P w) X.A (pyNext (.ref it)) (fun r s1 => r = none ∧ Inv X pins σ H s1) E s
 self : ∀ (A : Around) (i : Nat) (s : Shared) (Q : Value → Shared → Prop) (E : Value → Shared → Prop), tn i s.heap → Q (.ref it) s → wpAny (model P w) A (pyIter (.ref it)) Q E s
abbrev TI := St → Hp → (It → Hp → Prop) → Prop
def PIE (X : Cx) (pins : List (Addr × Obj)) (σ : St) (tg : Expr) (R : It → Hp → Prop) (itv : Value) (s2 : Shared) : Prop :=
 ∃ (it : Addr) (fp : List Addr) (tn : Nat → Heap → Prop) (J : It) (H' : Hp), itv = .ref it ∧ Inv X pins σ H' s2 ∧ Turn X.prog X.w X.K tg J fp it tn ∧ tn 0 s2.heap ∧ (∀ b ∈ fp, FpOk X pins H' b) ∧ R J H'
def PI (X : Cx) (tg iter : Expr) (wi : TI) : Prop :=
 ∀ (pins : List (Addr × Obj)) (s : Shared) (σ : St) (H : Hp) (R : It → Hp → Prop), Inv X pins σ H s → wi σ H R →
   wpAny (model X.prog X.w) X.A (eval iter X.env) (fun v s1 => wpAny (model X.prog X.w) X.A (pyIter v) (PIE X pins σ tg R) X.xe s1) X.xe s
theorem go_of {M : Model} {A : Around} {E : Value → Shared → Prop} {s : Shared} {tg : Expr} {it : Addr} {u : Value} {o : Obj} {n : String} {vs : Array Value} {Q : Unit → Shared → Prop} (ho : s.heap.get? it = some o) (hc : o.cls = .type n) (hd : o.data = .fields vs)
   (hn : ["enumerate", "zip", "dict_itemiterator", "dict_reverseitemiterator", "odict_iterator", "itertools.zip_longest", "itertools.pairwise"].contains n = false) (hQ : Q () s) : wpAny M A (letOwnedTupleGo tg (.ref it) u) Q E s := by
 unfold letOwnedTupleGo
 cases tg <;> first
   | exact wpAny_pure hQ
   | (cases u <;> first
       | exact wpAny_pure hQ
       | (refine wpAny_bind (wpAny_load ho ?_)
          rw [hc, hd]
          show wpAny M A (if (["enumerate", "zip", "dict_itemiterator", "dict_reverseitemiterator", "odict_iterator", "itertools.zip_longest", "itertools.pairwise"].contains n && vs[0]? == some (rawInt _)) = true then _ else _) Q E s
          rw [if_neg (by intro h; rw [hn, Bool.false_and] at h; cases h)]
          exact wpAny_pure hQ))
def Itl (K : PySem.W.Frag) (a : Addr) : It :=
 ⟨fun i H => ∃ xs x, SqL K H a xs ∧ xs[i]? = some x, fun i H x H' => H' = H ∧ ∀ xs, SqL K H a xs → xs[i]? = some x, fun i H => ∃ xs, SqL K H a xs ∧ xs.length ≤ i⟩
def Itt (K : PySem.W.Frag) (a : Addr) : It :=
 ⟨fun i H => ∃ xs x, SqT K H a xs ∧ xs[i]? = some x, fun i H x H' => H' = H ∧ ∀ xs, SqT K H a xs → xs[i]? = some x, fun i H => ∃ xs, SqT K H a xs ∧ xs.length ≤ i⟩
def Itr (lo : Int) (n : Nat) : It := ⟨fun i _ => i < n, fun i H x H' => H' = H ∧ x = .int (lo + i), fun i _ => n ≤ i⟩
theorem turn_list {P : Program} {w : World} {K : PySem.W.Frag} {tg : Expr} (a it : Addr) : Turn P w K tg (Itl K a) [it] it (fun i h => h.IsListIter it a i) where
 mem := by simp
 obj := fun i h st b hb => by
   have e : b = it := by simpa using hb
   subst e
   obtain ⟨o, e, c, d⟩ := st
   exact ⟨o, e, fun v z => by rw [d] at z; cases z⟩
 keep := fun i h h' st k => st.at fun o e => k it (by simp) o e
 item := by
   intro X hP hw hK hc i pins s σ H E I hf st hg
   subst hP hw hK
   obtain ⟨xs, x, hq, hx⟩ := hg
   obtain ⟨its, rv, p, hz⟩ := I.list hq
   obtain ⟨u, hu, ru⟩ := rv.get hx
   obtain ⟨f0, f1, f2, f3, f4, f5⟩ := hf it (by simp)
   refine wpAny_pyNext_list_item st p.isList (x := u) (by simpa using hu) fun h' st' sb => ?_
   have I1 : Inv X pins σ H { s with heap := h' } := I.turned (t' := s.toks) (fun b o hb e => (sb.2 b hb).trans e) f0 f1 f3 f4 f5
   obtain ⟨o, e, c, d⟩ := id st'
   exact ⟨u, rfl, go_of (s := { s with heap := h' }) e c d (by decide) ⟨x, H, I1, ru, ⟨rfl, fun ys hy => by rw [I.list_inj hy hq]; exact hx⟩, st', fun b hb => (hf b hb).1⟩⟩
 done := by
   intro X hP hw hK hc i pins s σ H E I hf st hg
   subst hP hw hK
   obtain ⟨xs, hq, hx⟩ := hg
   obtain ⟨its, rv, p, hz⟩ := I.list hq
   obtain ⟨f0, f1, f2, f3, f4, f5⟩ := hf it (by simp)
   have hl := rv.length
   exact wpAny_pyNext_list_end (I.ok.hd hc) st p.isList (by simp; lia) fun h' eb => ⟨rfl, I.turned (t' := s.toks) (fun b o hb e => eb b o hb e) f0 f1 f3 f4 f5⟩
 self := fun _ _ _ _ _ st h => wpAny_pyIter_listiter st h
theorem turn_tuple {P : Program} {w : World} {K : PySem.W.Frag} {tg : Expr} (a it : Addr) : Turn P w K tg (Itt K a) [it] it (fun i h => h.IsTupleIter it a i) where
 mem := by simp
 obj := fun i h st b hb => by
   have e : b = it := by simpa using hb
   subst e
   obtain ⟨o, e, c, d⟩ := st
   exact ⟨o, e, fun v z => by rw [d] at z; cases z⟩
 keep := fun i h h' st k => st.at fun o e => k it (by simp) o e
 item := by
   intro X hP hw hK hc i pins s σ H E I hf st hg
   subst hP hw hK
   obtain ⟨xs, x, hq, hx⟩ := hg
   obtain ⟨its, rv, p, hz⟩ := I.tuple hq
   obtain ⟨u, hu, ru⟩ := rv.get hx
   obtain ⟨f0, f1, f2, f3, f4, f5⟩ := hf it (by simp)
   refine wpAny_pyNext_tuple_item st (show s.heap.IsTuple a its.toArray from p) (x := u) (by simpa using hu) fun h' st' sb => ?_
   have I1 : Inv X pins σ H { s with heap := h' } := I.turned (t' := s.toks) (fun b o hb e => (sb.2 b hb).trans e) f0 f1 f3 f4 f5
   obtain ⟨o, e, c, d⟩ := id st'
   exact ⟨u, rfl, go_of (s := { s with heap := h' }) e c d (by decide) ⟨x, H, I1, ru, ⟨rfl, fun ys hy => by rw [I.tuple_inj hy hq]; exact hx⟩, st', fun b hb => (hf b hb).1⟩⟩
 done := by
   intro X hP hw hK hc i pins s σ H E I hf st hg
   subst hP hw hK
   obtain ⟨xs, hq, hx⟩ := hg
   obtain ⟨its, rv, p, hz⟩ := I.tuple hq
   obtain ⟨f0, f1, f2, f3, f4, f5⟩ := hf it (by simp)
   have hl := rv.length
   exact wpAny_pyNext_tuple_end (I.ok.hd hc) st (show s.heap.IsTuple a its.toArray from p) (by simp; lia) fun h' eb => ⟨rfl, I.turned (t' := s.toks) (fun b o hb e => eb b o hb e) f0 f1 f3 f4 f5⟩
 self := fun _ _ _ _ _ st h => wpAny_pyIter_tupleiter st h
theorem turn_range {P : Program} {w : World} {K : PySem.W.Frag} {tg : Expr} (it : Addr) (lo : Int) (n : Nat) : Turn P w K tg (Itr lo n) [it] it (fun i h => IsRangeIter h it (lo + (i : Nat) * 1) ((n : Int) - (i : Nat)) 1) where
 mem := by simp
 obj := fun i h st b hb => by
   have e : b = it := by simpa using hb
   subst e
   exact ⟨_, st, fun v z => by
     have z' : Data.fields _ = Data.cell v := z
     cases z'⟩
 keep := fun i h h' st k => k it (by simp) _ st
 item := by
   intro X hP hw hK hc i pins s σ H E I hf st hg
   subst hP hw hK
   obtain ⟨f0, f1, f2, f3, f4, f5⟩ := hf it (by simp)
   have W := Walks.range (prog := X.prog) (w := X.w) (I.ok.hd hc) it lo 1 n
   refine W.item i s _ _ hg st fun v h' tk hv st' kk => ?_
   obtain ⟨t, rfl⟩ := hv
   have I1 : Inv X pins σ H { s with heap := h', toks := tk } := I.turned (fun b o hb e => kk b o (by simpa using hb) e) f0 f1 f3 f4 f5
   refine ⟨_, rfl, go_of (s := { s with heap := h', toks := tk }) (n := "range_iterator") st' rfl rfl (by decide) ⟨.int (lo + i), H, I1, ⟨t, ?_⟩, ⟨rfl, rfl⟩, st', fun b hb => (hf b hb).1⟩⟩
   rw [Int.mul_one]
 done := by
   intro X hP hw hK hc i pins s σ H E I hf st hg
   subst hP hw hK
   obtain ⟨f0, f1, f2, f3, f4, f5⟩ := hf it (by simp)
   exact wpAny_pyNext_range_end (I.ok.hd hc) st (by have : n ≤ i := hg; lia) fun h' eb => ⟨rfl, I.turned (t' := s.toks) (fun b o hb e => eb b o hb e) f0 f1 f3 f4 f5⟩
 self := fun _ _ _ _ _ st h => wpAny_pyIter_rangeiter st h
end L2
namespace L2
open PySem PySem.Spec PyProof.Rows
section
variable {X : Cx} {tg : Expr}
def iList (K : PySem.W.Frag) (tl : TE) : TI := fun σ H R => tl σ H fun x H1 => ∃ a, x = .ref a ∧ (∃ xs, SqL K H1 a xs) ∧ R (Itl K a) H1
def iTup (K : PySem.W.Frag) (tl : TE) : TI := fun σ H R => tl σ H fun x H1 => ∃ a, x = .ref a ∧ (∃ xs, SqT K H1 a xs) ∧ R (Itt K a) H1
theorem pi_list {l : Expr} {tl : TE} (hl : PE X l tl) : PI X tg l (iList X.K tl) := by
 intro pins s σ H R I h
 refine thn (hl pins s σ H _ I h) fun v s1 ⟨x, H1, I1, r1, q1⟩ => ?_
 obtain ⟨a, e, ⟨xs, hq⟩, q⟩ := q1
 subst e
 cases r1
 obtain ⟨its, rv, p, hz⟩ := I1.list hq
 refine wpAny_pyIter_list p.isList ?_
 refine ⟨s1.heap.objs.size, [s1.heap.objs.size], _, _, H1, rfl, I1.kept (t' := s1.toks) fun b o e => Heap.get?_push_of_some _ e, turn_list a _, ⟨_, Heap.get?_push_size _ rfl, rfl, rfl⟩, fun b hb => ?_, q⟩
 have e : b = s1.heap.objs.size := by simpa using hb
 subst e
 exact I1.fpOk (Nat.le_refl _) (I1.hok.fresh (Nat.le_refl _))
theorem pi_tup {l : Expr} {tl : TE} (hl : PE X l tl) : PI X tg l (iTup X.K tl) := by
 intro pins s σ H R I h
 refine thn (hl pins s σ H _ I h) fun v s1 ⟨x, H1, I1, r1, q1⟩ => ?_
 obtain ⟨a, e, ⟨xs, hq⟩, q⟩ := q1
 subst e
 cases r1
 obtain ⟨its, rv, p, hz⟩ := I1.tuple hq
 refine wpAny_pyIter_tuple (show s1.heap.IsTuple a its.toArray from p) ?_
 refine ⟨s1.heap.objs.size, [s1.heap.objs.size], _, _, H1, rfl, I1.kept (t' := s1.toks) fun b o e => Heap.get?_push_of_some _ e, turn_tuple a _, ⟨_, Heap.get?_push_size _ rfl, rfl, rfl⟩, fun b hb => ?_, q⟩
 have e : b = s1.heap.objs.size := by simpa using hb
 subst e
 exact I1.fpOk (Nat.le_refl _) (I1.hok.fresh (Nat.le_refl _))
theorem range_it {pins : List (Addr × Obj)} {σ : St} {H : Hp} {s : Shared} {R : It → Hp → Prop} {E : Value → Shared → Prop} {lo hi : Int} {t u v : Tok} {tk : Nat} (I : Inv X pins σ H s) (h1 : -(2 ^ 62) ≤ lo) (h2 : lo < 2 ^ 62) (h3 : -(2 ^ 62) ≤ hi) (h4 : hi < 2 ^ 62)
   (q : R (Itr lo (hi - lo).toNat) H) : wpAny (model X.prog X.w) X.A (pyIter (.ref s.heap.objs.size)) (PIE X pins σ tg R) E { s with heap := s.heap.push { cls := .type "range", data := .fields #[.int lo t, .int hi u, .int 1 v] }, toks := tk } := by
 refine wpAny_pyIter_range (IsRange.new ..) (small_one h1 h2 h3 h4) ?_
 have I1 : Inv X pins σ H { s with heap := s.heap.push { cls := .type "range", data := .fields #[.int lo t, .int hi u, .int 1 v] }, toks := tk } := I.kept fun b o e => Heap.get?_push_of_some _ e
 refine ⟨(s.heap.push { cls := .type "range", data := .fields #[.int lo t, .int hi u, .int 1 v] }).objs.size, [(s.heap.push { cls := .type "range", data := .fields #[.int lo t, .int hi u, .int 1 v] }).objs.size], _, _, H, rfl,
   I1.kept (t' := tk) fun b o e => Heap.get?_push_of_some _ e, turn_range _ lo (hi - lo).toNat, ?_, fun b hb => ?_, q⟩
 · have e1 : lo + ((0 : Nat) : Int) * 1 = lo := by simp
   have e2 : (((hi - lo).toNat : Nat) : Int) - ((0 : Nat) : Int) = Builtin.Range.rangeSize lo hi 1 := by rw [rangeSize_one]; split <;> lia
   show IsRangeIter _ _ (lo + ((0 : Nat) : Int) * 1) ((((hi - lo).toNat : Nat) : Int) - ((0 : Nat) : Int)) 1
   rw [e1, e2]
   exact Heap.get?_push_size _ rfl
 · have e : b = (s.heap.push { cls := .type "range", data := .fields #[.int lo t, .int hi u, .int 1 v] }).objs.size := by simpa using hb
   subst e
   exact I1.fpOk (Nat.le_refl _) (I1.hok.fresh (Nat.le_refl _))
def iRng1 (ta : TA) : TI := fun σ H R => ta σ H fun vs H1 => ∃ j : Int, vs = [.int j] ∧ -(2 ^ 62) ≤ j ∧ j < 2 ^ 62 ∧ R (Itr 0 j.toNat) H1
theorem pi_range1 {a : Expr} {ta : TA} {p pos : Pos} (hg : Gl X "range") (hm : X.mg "range" = none) (ha : PA X [a] ta) (hs : starEach [a] X.env = [(false, eval a X.env)] := by rfl) : PI X tg (.Call (.Name "range" p) [a] [] pos) (iRng1 ta) := by
 intro pins s σ H R I h
 refine Call_ (ld_blt I hg hm boot_range (PyProof.Rows.callWith_type1 (thn (ha pos pins s σ H _ I h) fun us s1 ⟨vs, H1, I1, r1, q1⟩ => ?_) hs rfl))
 obtain ⟨j, e, q1, q2, q⟩ := q1
 subst e
 cases r1 with
 | cons r rr =>
   cases rr
   obtain ⟨t, rfl⟩ := r
   exact call_range_1 (range_it I1 (by lia) (by lia) q1 q2 (by simpa using q))
def tFor (wi : TI) (g : TG) (tb : TS) : TS := fun D σ H => wi σ H fun J H1 => ∃ W : Nat → Nat → St → Hp → Prop, (∃ m, W 0 m σ H1) ∧ ∀ i m σ H, W i m σ H →
 (J.stop i H ∧ D.nx σ H) ∨ (J.go i H ∧ ∃ N : St → Hp → Prop, (∀ σ' H', N σ' H' → ∃ m', m' < m ∧ W (i + 1) m' σ' H') ∧ ∀ x H', J.yld i H x H' → g x σ H' fun σ2 H2 => tb { D with nx := N, ct := N, bk := D.nx } σ2 H2)
def pinsAt (fp : List Addr) (h : Heap) : List (Addr × Obj) := fp.filterMap fun b => (h.get? b).map fun o => (b, o)
theorem mem_pinsAt {fp : List Addr} {h : Heap} {b : Addr} {o : Obj} (hb : b ∈ fp) (e : h.get? b = some o) : (b, o) ∈ pinsAt fp h := List.mem_filterMap.mpr ⟨b, hb, by rw [e]; rfl⟩
theorem of_pinsAt {fp : List Addr} {h : Heap} {p : Addr × Obj} (hp : p ∈ pinsAt fp h) : p.1 ∈ fp ∧ h.get? p.1 = some p.2 := by
 obtain ⟨b, hb, e⟩ := List.mem_filterMap.mp hp
 cases q : h.get? b with
 | none => rw [q] at e; cases e
 | some o =>
   rw [q] at e
   have e' : (b, o) = p := Option.some.inj e
   subst e'
   exact ⟨hb, q⟩
theorem Inv.pinned {pins : List (Addr × Obj)} {σ : St} {H : Hp} {s : Shared} {fp : List Addr} (I : Inv X pins σ H s) (hf : ∀ b ∈ fp, FpOk X pins H b) (ho : ∀ b ∈ fp, ∃ o, s.heap.get? b = some o ∧ ∀ v, o.data ≠ .cell v) : Inv X (pins ++ pinsAt fp s.heap) σ H s :=
 I.pins_of fun p hp => (List.mem_append.mp hp).elim (fun z => I.pin p (List.mem_append_right _ z)) fun z => by
   obtain ⟨hb, e⟩ := of_pinsAt z
   obtain ⟨f0, f1, f2, _⟩ := hf p.1 hb
   obtain ⟨o, e', d⟩ := ho p.1 hb
   rw [e] at e'; cases e'
   exact ⟨e, f0, f1, f2, d⟩
theorem Inv.unpinned {pins pl : List (Addr × Obj)} {σ : St} {H : Hp} {s : Shared} (I : Inv X (pins ++ pl) σ H s) : Inv X pins σ H s := I.pins_of fun p hp => I.pin p (List.mem_append_right _ (List.mem_append_left _ hp))
theorem ps_for {iter : Expr} {body : List Stmt} {wi : TI} {g : TG} {tb : TS} {pos : Pos} (hp : PassesOwn (model X.prog X.w) X.A X.env X.xe) (hc : X.calm = true) (hi : PI X tg iter wi) (hg : PG X tg g) (hb : PSs X body tb)
   (hs : ∀ x, foldedSetIterable iter X.env x = pure x := by intro _; rfl) : PS X (.For tg iter body [] pos) (tFor wi g tb) := by
 intro pins s σ H D I h
 refine wpAny_For (thn (hi pins s σ H _ I h) fun v s1 h1 => thn h1 fun itv s2 h2 => ?_) hs
 obtain ⟨it, fp, tn, J, H2, e, I2, T, st2, f2, W, ⟨m0, w0⟩, turn⟩ := h2
 subst e
 -- what stays true of the iterator's objects through the loop
 have stat : ∀ {H' : Hp}, (∀ b ∈ fp, H' b = none) → ∀ b ∈ fp, FpOk X pins H' b := fun hn b hb => ⟨hn b hb, (f2 b hb).2⟩
 refine codeAny_forLoop_any (fun n s' => ∃ i σ' H', Inv X pins σ' H' s' ∧ tn i s'.heap ∧ (∀ b ∈ fp, H' b = none) ∧ W i n σ' H') ?_ m0 ⟨0, σ, H2, I2, st2, fun b hb => (f2 b hb).1, w0⟩
 rintro n s3 ⟨i, σ3, H3, I3, st3, fr3, w3⟩
 rcases turn i n σ3 H3 w3 with ⟨stop, qn⟩ | ⟨go, N, hN, step⟩
 · refine wpAny_passesOwn hp (thn (T.done X rfl rfl rfl hc i pins s3 σ3 H3 X.xe I3 (stat fr3) st3 stop) fun r s4 ⟨hr, I4⟩ => ?_)
   subst hr
   exact wpAny_execs_nil ⟨σ3, H3, I4, qn⟩
 · refine wpAny_passesOwn hp (thn (T.item X rfl rfl rfl hc i pins s3 σ3 H3 X.xe I3 (stat fr3) st3 go) fun r s4 ⟨u, hr, h4⟩ => ?_)
   subst hr
   refine wpAny_passesOwn hp (thn h4 fun _ s5 ⟨x, H5, I5, r5, y5, st5, fr5⟩ => ?_)
   have I5' := I5.pinned (stat fr5) (T.obj _ _ st5)
   refine wpAny_passesOwn hp (thn (hg _ s5 σ3 H5 x u _ I5' r5 (step x H5 y5)) fun _ s6 ⟨σ6, H6, I6, q6⟩ => ?_)
   refine wpAny_passesOwn hp (thn (hb _ s6 σ6 H6 _ I6 q6) fun f s7 q7 => ?_)
   have again : ∀ {σ7 : St} {H7 : Hp}, Inv X (pins ++ pinsAt fp s5.heap) σ7 H7 s7 → N σ7 H7 → ∃ m, m < n ∧ ∃ i σ' H', Inv X pins σ' H' s7 ∧ tn i s7.heap ∧ (∀ b ∈ fp, H' b = none) ∧ W i m σ' H' := fun {σ7 H7} I7 n7 => by
     obtain ⟨m', hm, w7⟩ := hN σ7 H7 n7
     refine ⟨m', hm, i + 1, σ7, H7, I7.unpinned, T.keep _ _ _ st5 fun b hb o e => (I7.pin (b, o) (List.mem_append_right _ (List.mem_append_right _ (mem_pinsAt hb e)))).1, fun b hb => ?_, w7⟩
     obtain ⟨o, e, d⟩ := T.obj _ _ st5 b hb
     exact (I7.pin (b, o) (List.mem_append_right _ (List.mem_append_right _ (mem_pinsAt hb e)))).2.1
   cases f with
   | next => obtain ⟨σ7, H7, I7, n7⟩ := q7; exact again I7 n7
   | cont => obtain ⟨σ7, H7, I7, n7⟩ := q7; exact again I7 n7
   | brk => obtain ⟨σ7, H7, I7, q7⟩ := q7; exact ⟨σ7, H7, I7.unpinned, q7⟩
   | ret v => obtain ⟨x7, σ7, H7, I7, r7, q7⟩ := q7; exact ⟨x7, σ7, H7, I7.unpinned, r7, q7⟩
end
theorem for_list {K : PySem.W.Frag} {a : Addr} {xs : List V} {g : TG} {tb : TS} {D : Ends} {σ : St} {H : Hp} (Pv : Nat → St → Hp → Prop) (h0 : Pv 0 σ H) (hl : ∀ i σ H, i ≤ xs.length → Pv i σ H → SqL K H a xs)
   (hs : ∀ i x σ H, xs[i]? = some x → Pv i σ H → g x σ H fun σ2 H2 => tb { D with nx := Pv (i + 1), ct := Pv (i + 1), bk := D.nx } σ2 H2) (hd : ∀ σ H, Pv xs.length σ H → D.nx σ H) :
   ∃ W : Nat → Nat → St → Hp → Prop, (∃ m, W 0 m σ H) ∧ ∀ i m σ H, W i m σ H →
     ((Itl K a).stop i H ∧ D.nx σ H) ∨ ((Itl K a).go i H ∧ ∃ N : St → Hp → Prop, (∀ σ' H', N σ' H' → ∃ m', m' < m ∧ W (i + 1) m' σ' H') ∧ ∀ x H', (Itl K a).yld i H x H' → g x σ H' fun σ2 H2 => tb { D with nx := N, ct := N, bk := D.nx } σ2 H2) := by
 refine ⟨fun i m σ H => m = xs.length - i ∧ i ≤ xs.length ∧ Pv i σ H, ⟨xs.length, by simp, Nat.zero_le _, h0⟩, ?_⟩
 rintro i m σ H ⟨rfl, hi, p⟩
 have q := hl i σ H hi p
 by_cases hlt : i < xs.length
 · refine .inr ⟨⟨xs, xs[i], q, by simp [hlt]⟩, Pv (i + 1), fun σ' H' p' => ⟨xs.length - (i + 1), by lia, rfl, hlt, p'⟩, fun x H' y => ?_⟩
   obtain ⟨e, y⟩ := y
   subst e
   exact hs i x σ _ (y xs q) p
 · have e : i = xs.length := by lia
   subst e
   exact .inl ⟨⟨xs, q, Nat.le_refl _⟩, hd σ H p⟩
theorem for_tup {K : PySem.W.Frag} {a : Addr} {xs : List V} {g : TG} {tb : TS} {D : Ends} {σ : St} {H : Hp} (Pv : Nat → St → Hp → Prop) (h0 : Pv 0 σ H) (hl : ∀ i σ H, i ≤ xs.length → Pv i σ H → SqT K H a xs)
   (hs : ∀ i x σ H, xs[i]? = some x → Pv i σ H → g x σ H fun σ2 H2 => tb { D with nx := Pv (i + 1), ct := Pv (i + 1), bk := D.nx } σ2 H2) (hd : ∀ σ H, Pv xs.length σ H → D.nx σ H) :
   ∃ W : Nat → Nat → St → Hp → Prop, (∃ m, W 0 m σ H) ∧ ∀ i m σ H, W i m σ H →
     ((Itt K a).stop i H ∧ D.nx σ H) ∨ ((Itt K a).go i H ∧ ∃ N : St → Hp → Prop, (∀ σ' H', N σ' H' → ∃ m', m' < m ∧ W (i + 1) m' σ' H') ∧ ∀ x H', (Itt K a).yld i H x H' → g x σ H' fun σ2 H2 => tb { D with nx := N, ct := N, bk := D.nx } σ2 H2) := by
 refine ⟨fun i m σ H => m = xs.length - i ∧ i ≤ xs.length ∧ Pv i σ H, ⟨xs.length, by simp, Nat.zero_le _, h0⟩, ?_⟩
 rintro i m σ H ⟨rfl, hi, p⟩
 have q := hl i σ H hi p
 by_cases hlt : i < xs.length
 · refine .inr ⟨⟨xs, xs[i], q, by simp [hlt]⟩, Pv (i + 1), fun σ' H' p' => ⟨xs.length - (i + 1), by lia, rfl, hlt, p'⟩, fun x H' y => ?_⟩
   obtain ⟨e, y⟩ := y
   subst e
   exact hs i x σ _ (y xs q) p
 · have e : i = xs.length := by lia
   subst e
   exact .inl ⟨⟨xs, q, Nat.le_refl _⟩, hd σ H p⟩
theorem for_range {lo : Int} {n : Nat} {g : TG} {tb : TS} {D : Ends} {σ : St} {H : Hp} (Pv : Nat → St → Hp → Prop) (h0 : Pv 0 σ H)
   (hs : ∀ i σ H, i < n → Pv i σ H → g (.int (lo + i)) σ H fun σ2 H2 => tb { D with nx := Pv (i + 1), ct := Pv (i + 1), bk := D.nx } σ2 H2) (hd : ∀ σ H, Pv n σ H → D.nx σ H) :
   ∃ W : Nat → Nat → St → Hp → Prop, (∃ m, W 0 m σ H) ∧ ∀ i m σ H, W i m σ H →
     ((Itr lo n).stop i H ∧ D.nx σ H) ∨ ((Itr lo n).go i H ∧ ∃ N : St → Hp → Prop, (∀ σ' H', N σ' H' → ∃ m', m' < m ∧ W (i + 1) m' σ' H') ∧ ∀ x H', (Itr lo n).yld i H x H' → g x σ H' fun σ2 H2 => tb { D with nx := N, ct := N, bk := D.nx } σ2 H2) := by
 refine ⟨fun i m σ H => m = n - i ∧ i ≤ n ∧ Pv i σ H, ⟨n, by simp, Nat.zero_le _, h0⟩, ?_⟩
 rintro i m σ H ⟨rfl, hi, p⟩
 by_cases hlt : i < n
 · refine .inr ⟨hlt, Pv (i + 1), fun σ' H' p' => ⟨n - (i + 1), by lia, rfl, hlt, p'⟩, fun x H' y => ?_⟩
   obtain ⟨e, y⟩ := y
   subst e y
   exact hs i σ _ hlt p
 · have e : i = n := by lia
   subst e
   exact .inl ⟨Nat.le_refl _, hd σ H p⟩
theorem while_by {c : TT} {tb : TS} {D : Ends} {σ : St} {H : Hp} (Pv : St → Hp → Prop) (μ : St → Hp → Nat) (h0 : Pv σ H)
   (hs : ∀ σ H, Pv σ H → c σ H fun b H1 => if b = true then tb { D with nx := fun σ' H' => Pv σ' H' ∧ μ σ' H' < μ σ H, ct := fun σ' H' => Pv σ' H' ∧ μ σ' H' < μ σ H, bk := D.nx } σ H1 else D.nx σ H1)
   (mono : ∀ σ H Q Q', (∀ b H1, Q b H1 → Q' b H1) → c σ H Q → c σ H Q') : tWhile c tb D σ H := by
 refine ⟨fun m σ H => m = μ σ H ∧ Pv σ H, ⟨_, rfl, h0⟩, ?_⟩
 rintro m σ H ⟨rfl, p⟩
 refine mono σ H _ _ (fun b H1 q => ?_) (hs σ H p)
 cases b with
 | true => exact ⟨_, fun σ' H' ⟨p', l⟩ => ⟨_, l, rfl, p'⟩, q⟩
 | false => exact q
end L2
namespace L2
open PySem PySem.Spec PyProof.Rows
abbrev R2 := V → V → Hp → VK → Prop
def OpR (X : Cx) (f : Value → Value → Sem Value) (r : R2) : Prop :=
 ∀ (pins : List (Addr × Obj)) (s : Shared) (σ : St) (H : Hp) (x y : V) (v u : Value) (Q : VK), Inv X pins σ H s → RelV x v → RelV y u → r x y H Q →
   wpAny (model X.prog X.w) X.A (f v u) (EP X pins σ Q) X.xe s
def UnR (X : Cx) (f : Value → Sem Value) (r : V → Hp → VK → Prop) : Prop :=
 ∀ (pins : List (Addr × Obj)) (s : Shared) (σ : St) (H : Hp) (x : V) (v : Value) (Q : VK), Inv X pins σ H s → RelV x v → r x H Q →
   wpAny (model X.prog X.w) X.A (f v) (EP X pins σ Q) X.xe s
def CallR (X : Cx) (f : Value) (r : List V → Hp → VK → Prop) : Prop :=
 ∀ (pins : List (Addr × Obj)) (s : Shared) (σ : St) (H : Hp) (xs : List V) (us : List Value) (Q : VK), Inv X pins σ H s → Vals xs us → r xs H Q →
   wpAny (model X.prog X.w) X.A (call f us) (EP X pins σ Q) X.xe s
def tOp (r : R2) (ta tb : TE) : TE := fun σ H Q => ta σ H fun x H1 => tb σ H1 fun y H2 => r x y H2 Q
def tUn (r : V → Hp → VK → Prop) (ta : TE) : TE := fun σ H Q => ta σ H fun x H1 => r x H1 Q
inductive rI (C : Int → Int → Prop) (g : Int → Int → V) (x : V) (y : V) (H : Hp) (Q : VK) : Prop
 | mk (i : _) (j : _) (h1 : x = .int i) (h2 : y = .int j) (h3 : C i j) (h4 : Q (g i j) H) : rI C g x y H Q
inductive rI0 (g : Int → Int → V) (x : V) (y : V) (H : Hp) (Q : VK) : Prop
 | mk (i : _) (j : _) (h1 : x = .int i) (h2 : y = .int j) (h3 : Q (g i j) H) : rI0 g x y H Q
inductive rU (g : Int → V) (x : V) (H : Hp) (Q : VK) : Prop
 | mk (i : _) (h1 : x = .int i) (h2 : Q (g i) H) : rU g x H Q
section
variable {X : Cx} {a b c : Expr} {ta tb tc : TE} {pos : Pos}
theorem binT (ha : PE X a ta) (hb : PE X b tb) {pins : List (Addr × Obj)} {s : Shared} {σ : St} {H : Hp} {R : V → V → Hp → Prop} (I : Inv X pins σ H s)
   (h : ta σ H fun x H1 => tb σ H1 fun y H2 => R x y H2) {Q : Value → Shared → Prop} {f : Value → Value → Sem Value}
   (hf : ∀ v u s2 x y H2, Inv X pins σ H2 s2 → RelV x v → RelV y u → R x y H2 → wpAny (model X.prog X.w) X.A (f v u) Q X.xe s2) :
   wpAny (model X.prog X.w) X.A (eval a X.env) (fun v s₁ => wpAny (model X.prog X.w) X.A (eval b X.env) (fun u s₂ => wpAny (model X.prog X.w) X.A (f v u) Q X.xe s₂) X.xe s₁) X.xe s := by
 refine thn (ha pins s σ H _ I h) fun v s1 ⟨x, H1, I1, r1, q1⟩ => ?_
 refine thn (hb pins s1 σ H1 _ I1 q1) fun u s2 ⟨y, H2, I2, r2, q2⟩ => ?_
 exact hf v u s2 x y H2 I2 r1 r2 q2
theorem pe_op {op : Operator} {r : R2} (ho : OpR X (binaryOp op) r) (ha : PE X a ta) (hb : PE X b tb) : PE X (.BinOp a op b pos) (tOp r ta tb) := by
 intro pins s σ H Q I h
 exact wpAny_BinOp (binT ha hb I h fun v u s2 x y H2 I2 rx ry q => ho pins s2 σ H2 x y v u Q I2 rx ry q)
theorem pe_un {op : UnaryOp} {r : V → Hp → VK → Prop} (ho : UnR X (unaryOp op) r) (ha : PE X a ta) : PE X (.UnaryOp op a pos) (tUn r ta) := by
 intro pins s σ H Q I h
 exact UnaryOp_ (thn (ha pins s σ H _ I h) fun v s1 ⟨x, H1, I1, r1, q1⟩ => ho pins s1 σ H1 x v Q I1 r1 q1)
theorem opI {f : Value → Value → Sem Value} {C : Int → Int → Prop} {g : Int → Int → Int}
   (rule : ∀ (i j : Int) (t u : Tok) (s : Shared) (Q : Value → Shared → Prop) (E : Value → Shared → Prop), C i j → Q (.int (g i j) s.toks) { s with toks := s.toks + 1 } → wpAny (model X.prog X.w) X.A (f (.int i t) (.int j u)) Q E s) :
   OpR X f (rI C fun i j => .int (g i j)) := by
 intro pins s σ H x y v u Q I rx ry h
 obtain ⟨i, j, rfl, rfl, hc, q⟩ := h
 obtain ⟨t, rfl⟩ := rx
 obtain ⟨t', rfl⟩ := ry
 exact rule i j t t' s _ _ hc ⟨.int (g i j), H, I.tok _, ⟨_, rfl⟩, q⟩
theorem opI0 {f : Value → Value → Sem Value} {g : Int → Int → Int}
   (rule : ∀ (i j : Int) (t u : Tok) (s : Shared) (Q : Value → Shared → Prop) (E : Value → Shared → Prop), Q (.int (g i j) s.toks) { s with toks := s.toks + 1 } → wpAny (model X.prog X.w) X.A (f (.int i t) (.int j u)) Q E s) :
   OpR X f (rI0 fun i j => .int (g i j)) := by
 intro pins s σ H x y v u Q I rx ry h
 obtain ⟨i, j, rfl, rfl, q⟩ := h
 obtain ⟨t, rfl⟩ := rx
 obtain ⟨t', rfl⟩ := ry
 exact rule i j t t' s _ _ ⟨.int (g i j), H, I.tok _, ⟨_, rfl⟩, q⟩
theorem opB0 {f : Value → Value → Sem Value} {g : Int → Int → Bool}
   (rule : ∀ (i j : Int) (t u : Tok) (s : Shared) (Q : Value → Shared → Prop) (E : Value → Shared → Prop), Q (.bool (g i j)) s → wpAny (model X.prog X.w) X.A (f (.int i t) (.int j u)) Q E s) :
   OpR X f (rI0 fun i j => .bl (g i j)) := by
 intro pins s σ H x y v u Q I rx ry h
 obtain ⟨i, j, rfl, rfl, q⟩ := h
 obtain ⟨t, rfl⟩ := rx
 obtain ⟨t', rfl⟩ := ry
 exact rule i j t t' s _ _ ⟨.bl (g i j), H, I, rfl, q⟩
def CPow (i j : Int) : Prop := 0 ≤ j ∧ j ≤ 1000000 ∧ i.natAbs < 2 ^ 64
theorem op_add : OpR X (binaryOp .Add) (rI0 fun i j => .int (i + j)) := opI0 fun _ _ _ _ _ _ _ q => add_int q
theorem op_sub : OpR X (binaryOp .Sub) (rI0 fun i j => .int (i - j)) := opI0 fun _ _ _ _ _ _ _ q => sub_int q
theorem op_mod : OpR X (binaryOp .Mod) (rI (fun _ j => 0 < j) fun i j => .int (i % j)) := opI fun i j _ _ _ _ _ hc q => by
 have h1 : (0 : Int) < j := hc
 exact mod_int' (by lia) (by rw [Int.fmod_eq_emod_of_nonneg i (by lia)]; exact q)
theorem op_pow : OpR X (binaryOp .Pow) (rI CPow fun i j => .int (i ^ j.toNat)) := opI fun _ _ _ _ _ _ _ hc q => pow_int_small hc.1 hc.2.1 hc.2.2 q
theorem unI {f : Value → Sem Value} {g : Int → Int}
   (rule : ∀ (i : Int) (t : Tok) (s : Shared) (Q : Value → Shared → Prop) (E : Value → Shared → Prop), Q (.int (g i) s.toks) { s with toks := s.toks + 1 } → wpAny (model X.prog X.w) X.A (f (.int i t)) Q E s) :
   UnR X f (rU fun i => .int (g i)) := by
 intro pins s σ H x v Q I rx h
 obtain ⟨i, rfl, q⟩ := h
 obtain ⟨t, rfl⟩ := rx
 exact rule i t s _ _ ⟨.int (g i), H, I.tok _, ⟨_, rfl⟩, q⟩
theorem un_neg : UnR X (unaryOp .USub) (rU fun i => .int (-i)) := unI fun _ _ _ _ _ q => neg_int q
end
def scal : V → V → Bool
 | .non, .non => true | .non, .int _ => true | .int _, .non => true | .non, .bl _ => true | .bl _, .non => true | .non, .str _ => true | .str _, .non => true
 | .int _, .int _ => true | .bl _, .bl _ => true | .str _, .str _ => true | .byt _, .byt _ => true
 | .int _, .str _ => true | .str _, .int _ => true | .bl _, .str _ => true | .str _, .bl _ => true
 | _, _ => false
def rEq : R2 := fun x y H Q => scal x y = true ∧ Q (.bl (decide (x = y))) H
def rNe : R2 := fun x y H Q => scal x y = true ∧ Q (.bl (!decide (x = y))) H
theorem dec_int {i j : Int} : decide (V.int i = V.int j) = (i == j) := by
 rw [Bool.eq_iff_iff]
 simp
theorem dec_bl {i j : Bool} : decide (V.bl i = V.bl j) = (i == j) := by
 rw [Bool.eq_iff_iff]
 simp
theorem dec_str {i j : Str} : decide (V.str i = V.str j) = (i == j) := by
 rw [Bool.eq_iff_iff]
 simp
theorem dec_byt {i j : Array UInt8} : decide (V.byt i = V.byt j) = (i.toList == j.toList) := by
 rw [Bool.eq_iff_iff]
 cases i
 cases j
 simp
section
variable {X : Cx} {a b c : Expr} {ta tb tc : TE} {pos : Pos}
theorem fin_bl {pins : List (Addr × Obj)} {σ : St} {H : Hp} {s : Shared} {Q : VK} {k k' : Bool} (I : Inv X pins σ H s) (q : Q (.bl k) H) (e : k = k') : EP X pins σ Q (.bool k') s := by
 subst e
 exact ⟨.bl k, H, I, rfl, q⟩
theorem op_eq : OpR X (compareOp .Eq) rEq := by
 intro pins s σ H x y v u Q I rx ry h
 obtain ⟨hs, q⟩ := h
 cases x with
 | non =>
   cases rx
   cases y with
   | non => cases ry; exact PySem.EqNone.eq_none_none (fin_bl I q (by simp))
   | bl j => cases ry; exact PySem.EqNone.eq_none_bool (fin_bl I q (by simp))
   | int j => obtain ⟨t', rfl⟩ := ry; exact PySem.EqNone.eq_none_int (fin_bl I q (by simp))
   | str j => obtain ⟨t', rfl⟩ := ry; exact PySem.EqNone.eq_none_str (fin_bl I q (by simp))
   | _ => exact absurd (show false = true from hs) Bool.false_ne_true
 | bl i =>
   cases rx
   cases y with
   | non => cases ry; exact PySem.EqNone.eq_bool_none (fin_bl I q (by simp))
   | bl j => cases ry; exact eq_bool (fin_bl I q dec_bl)
   | str j => obtain ⟨t', rfl⟩ := ry; exact PySem.EqMixed.eq_bool_str (fin_bl I q (by simp))
   | _ => exact absurd (show false = true from hs) Bool.false_ne_true
 | int i =>
   obtain ⟨t, rfl⟩ := rx
   cases y with
   | non => cases ry; exact PySem.EqNone.eq_int_none (fin_bl I q (by simp))
   | int j => obtain ⟨t', rfl⟩ := ry; exact eq_int (fin_bl I q dec_int)
   | str j => obtain ⟨t', rfl⟩ := ry; exact PySem.EqMixed.eq_int_str (fin_bl I q (by simp))
   | _ => exact absurd (show false = true from hs) Bool.false_ne_true
 | str i =>
   obtain ⟨t, rfl⟩ := rx
   cases y with
   | non => cases ry; exact PySem.EqNone.eq_str_none (fin_bl I q (by simp))
   | bl j => cases ry; exact PySem.EqMixed.eq_str_bool (fin_bl I q (by simp))
   | int j => obtain ⟨t', rfl⟩ := ry; exact PySem.EqMixed.eq_str_int (fin_bl I q (by simp))
   | str j => obtain ⟨t', rfl⟩ := ry; exact eq_str (fin_bl I q dec_str)
   | _ => exact absurd (show false = true from hs) Bool.false_ne_true
 | byt i =>
   obtain ⟨t, rfl⟩ := rx
   cases y with
   | byt j => obtain ⟨t', rfl⟩ := ry; exact PySem.W.eq_bytes (fin_bl I q dec_byt)
   | _ => exact absurd (show false = true from hs) Bool.false_ne_true
 | _ => cases y <;> exact absurd (show false = true from hs) Bool.false_ne_true
theorem op_ne : OpR X (compareOp .NotEq) rNe := by
 intro pins s σ H x y v u Q I rx ry h
 obtain ⟨hs, q⟩ := h
 cases x with
 | non =>
   cases rx
   cases y with
   | non => cases ry; exact PySem.EqNone.ne_none_none (fin_bl I q (by simp))
   | bl j => cases ry; exact PySem.EqNone.ne_none_bool (fin_bl I q (by simp))
   | int j => obtain ⟨t', rfl⟩ := ry; exact PySem.EqNone.ne_none_int (fin_bl I q (by simp))
   | str j => obtain ⟨t', rfl⟩ := ry; exact PySem.EqNone.ne_none_str (fin_bl I q (by simp))
   | _ => exact absurd (show false = true from hs) Bool.false_ne_true
 | bl i =>
   cases rx
   cases y with
   | non => cases ry; exact PySem.EqNone.ne_bool_none (fin_bl I q (by simp))
   | bl j => cases ry; exact ne_bool (fin_bl I q (congrArg not dec_bl))
   | str j => obtain ⟨t', rfl⟩ := ry; exact PySem.EqMixed.ne_bool_str (fin_bl I q (by simp))
   | _ => exact absurd (show false = true from hs) Bool.false_ne_true
 | int i =>
   obtain ⟨t, rfl⟩ := rx
   cases y with
   | non => cases ry; exact PySem.EqNone.ne_int_none (fin_bl I q (by simp))
   | int j => obtain ⟨t', rfl⟩ := ry; exact ne_int (fin_bl I q (congrArg not dec_int))
   | str j => obtain ⟨t', rfl⟩ := ry; exact PySem.EqMixed.ne_int_str (fin_bl I q (by simp))
   | _ => exact absurd (show false = true from hs) Bool.false_ne_true
 | str i =>
   obtain ⟨t, rfl⟩ := rx
   cases y with
   | non => cases ry; exact PySem.EqNone.ne_str_none (fin_bl I q (by simp))
   | bl j => cases ry; exact PySem.EqMixed.ne_str_bool (fin_bl I q (by simp))
   | int j => obtain ⟨t', rfl⟩ := ry; exact PySem.EqMixed.ne_str_int (fin_bl I q (by simp))
   | str j => obtain ⟨t', rfl⟩ := ry; exact ne_str (fin_bl I q (congrArg not dec_str))
   | _ => exact absurd (show false = true from hs) Bool.false_ne_true
 | byt i =>
   obtain ⟨t, rfl⟩ := rx
   cases y with
   | byt j => obtain ⟨t', rfl⟩ := ry; exact PySem.W.ne_bytes (fin_bl I q (congrArg not dec_byt))
   | _ => exact absurd (show false = true from hs) Bool.false_ne_true
 | _ => cases y <;> exact absurd (show false = true from hs) Bool.false_ne_true
theorem op_lt : OpR X (compareOp .Lt) (rI0 fun i j => .bl (decide (i < j))) := opB0 fun _ _ _ _ _ _ _ q => lt_int q
theorem op_gt : OpR X (compareOp .Gt) (rI0 fun i j => .bl (decide (j < i))) := opB0 fun _ _ _ _ _ _ _ q => gt_int q
theorem op_ge : OpR X (compareOp .GtE) (rI0 fun i j => .bl (decide (j ≤ i))) := opB0 fun _ _ _ _ _ _ _ q => ge_int q
theorem nomark (b : Expr) {op : CmpOp} (h : op ≠ .In := by decide) (h2 : op ≠ .NotIn := by decide) : behindInMarks op b = false := by
 have e1 : (op == CmpOp.In) = false := by cases op <;> first | rfl | exact absurd rfl h
 have e2 : (op == CmpOp.NotIn) = false := by cases op <;> first | rfl | exact absurd rfl h2
 cases b <;> simp [behindInMarks, e1, e2]
theorem pe_cmpR {op : CmpOp} {r : R2} (ho : OpR X (compareOp op) r) (ha : PE X a ta) (hb : PE X b tb) (hm : behindInMarks op b = false) : PE X (.Compare a [op] [b] pos) (tOp r ta tb) := by
 intro pins s σ H Q I h
 exact wpAny_Compare1 (binT ha hb I h fun v u s2 x y H2 I2 rx ry q => ho pins s2 σ H2 x y v u Q I2 rx ry q) hm
def tTest (t : TE) : TT := fun σ H Q => t σ H fun x H' => ∃ k, x = .bl k ∧ Q k H'
theorem pt_cmpR {op : CmpOp} {r : R2} (ho : OpR X (compareOp op) r) (ha : PE X a ta) (hb : PE X b tb) (hm : behindInMarks op b = false) : PT X (.Compare a [op] [b] pos) (tTest (tOp r ta tb)) := by
 intro pins s σ H Q I h
 refine wpAny_isTrue_Compare1 (thn (ha pins s σ H _ I h) fun v s1 ⟨x, H1, I1, r1, q1⟩ => thn (hb pins s1 σ H1 _ I1 q1) fun u s2 ⟨y, H2, I2, r2, q2⟩ =>
   thn (ho pins s2 σ H2 x y v u _ I2 r1 r2 q2) fun c s3 ⟨z, H3, I3, r3, k, e, q3⟩ => ?_) hm
 subst e
 cases r3
 exact wpAny_truthy_bool ⟨H3, I3, q3⟩
theorem line63 : (sizeLine : Nat) < 2 ^ 63 := by rw [sizeLine_eq]; decide
theorem vals1 {x : V} {us : List Value} (r : Vals [x] us) : ∃ u, us = [u] ∧ RelV x u := by
 cases r with
 | cons r1 r2 => cases r2; exact ⟨_, rfl, r1⟩
theorem call_abs : CallR X (.builtin "abs") (fun xs H Q => ∃ i, xs = [.int i] ∧ Q (.int (if i < 0 then -i else i)) H) := by
 intro pins s σ H xs us Q I r h
 obtain ⟨i, rfl, q⟩ := h
 obtain ⟨u, rfl, t, rfl⟩ := vals1 r
 exact call_abs_int fun u tk => ⟨.int (if i < 0 then -i else i), H, I.tok _, ⟨_, rfl⟩, q⟩
end
end L2
namespace L2
open PySem PySem.Spec PyProof.Rows
structure ObjM (h : Heap) (x dx C : Addr) (mA : Str → Option Value) : Prop where
 obj : h.get? x = some (PySem.W.instObj C dx)
 ns : h.Ns1 dx mA
 ne : dx ≠ x
section
variable {prog : Program} {w : World} {A : Around} {E : Value → Shared → Prop} {s : Shared} {K : PySem.W.Frag} {x dx C f : Addr} {mA : Str → Option Value} {name : Str} {v : Value}
end
section
variable {P : Program} {w : World} {H H' : Hp} {h h' : Heap} {a C dx : Addr} {fs fs' : List (Str × V)}
end
structure Cls (K : PySem.W.Frag) (C : Addr) : Prop where
 pg : PySem.W.plainGet K C Str.empty = true
 hd : PySem.W.hasDictIn K C = true
 po : PySem.W.plainOver K C = true
 sa : PySem.W.findIn K (.ref C) "__setattr__" = some (some (.builtin "object.__setattr__"))
structure Con (K : PySem.W.Frag) (C : Addr) (f : Str) (v : V) (u : Value) : Prop where
 at_ : PySem.W.findIn K (.ref C) f = some (some u)
 rel : RelV v u
 get : PySem.W.specialIn K u "__get__" = some none
 cp : PySem.W.copiedNames.contains f = false
structure Meth (K : PySem.W.Frag) (C : Addr) (m : Str) (f : Addr) : Prop where
 at_ : PySem.W.findIn K (.ref C) m = some (some (.ref f))
 fn : PySem.W.isFn K (.ref f) = true
 kp : PySem.W.keepIn K (.ref f) = true
section
variable {X : Cx} {pins : List (Addr × Obj)} {σ : St} {H : Hp} {s : Shared} {a C dx : Addr} {fs : List (Str × V)} {f : Str} {v : V} {A : Around} {E : Value → Shared → Prop}
end
section
variable {X : Cx} {o e value : Expr} {f : Str} {pos pos' tpos : Pos} {ta tv : TE}
end
section
variable {X : Cx} {pins : List (Addr × Obj)} {σ : St} {H : Hp} {s : Shared} {A : Around} {E : Value → Shared → Prop} {Q : Value → Shared → Prop} {c : Value} {b : Bool}
inductive TyOf (K : PySem.W.Frag) (H : Hp) : V → Value → Prop where
 | non : TyOf K H .non (.type "NoneType")
 | bl (x : Bool) : TyOf K H (.bl x) (.type "bool")
 | int (i : Int) : TyOf K H (.int i) (.type "int")
 | str (x : Str) : TyOf K H (.str x) (.type "str")
 | flt (x : UInt64) : TyOf K H (.flt x) (.type "float")
 | lst {a : Addr} {xs : List V} (e : H a = some (.lst xs)) : TyOf K H (.ref a) (.type "list")
 | frz {a : Addr} {o : Obj} {xs : List V} (e : H a = some (.frz o (.lst xs))) : TyOf K H (.ref a) (.type "list")
 | tup {a : Addr} {xs : List V} (e : H a = some (.tup xs)) : TyOf K H (.ref a) (.type "tuple")
 | dK {a : Addr} {kvs : List (Key × V)} (e : H a = some (.dK kvs)) : TyOf K H (.ref a) (.type "dict")
 | dT {a : Addr} {kvs : List (List Key × V)} (e : H a = some (.dT kvs)) : TyOf K H (.ref a) (.type "dict")
 | ins {a C dx : Addr} {fs : List (Str × V)} (e : H a = some (.ins C dx fs)) (cl : Cls K C) (ha : PySem.W.findIn K (.ref C) "__class__" = some (some (.builtin "object.__class__")))
     (hn : PySem.W.specialIn K (.builtin "object.__class__") "__get__" = some (some (.builtin "getset_descriptor.__get__"))) (htk : PySem.W.takesIn K (.builtin "object.__class__") = some true)
     (hm : PySem.W.mroIn K C (.type "object") = some true) : TyOf K H (.ref a) (.ref C)
end
end L2
namespace L2
open PySem PySem.Spec PyProof.Rows
structure Room (k : Nat) (A : Around) : Prop where
 hd : A.handled = none
 dp : A.depth + 3 * k + 5 < recursionLimit
 un : A.units + 16 * k + 200 < cLine
theorem Room.mono {j k : Nat} {A : Around} (r : Room k A) (h : j ≤ k) : Room j A := ⟨r.hd, by have := r.dp; lia, by have := r.un; lia⟩
theorem Room.deeper {k : Nat} {A : Around} (r : Room (k + 1) A) (env : Env) : Room k (A.deeper env) :=
 ⟨r.hd, by have := r.dp; show A.depth + 1 + 3 * k + 5 < _; lia, by have := r.un; show A.units + 3 + 16 * k + 200 < _; lia⟩
theorem Room.in1 {k : Nat} {A : Around} (r : Room (k + 1) A) : Room k A.in1 :=
 ⟨r.hd, by have := r.dp; show A.depth + 3 * k + 5 < _; lia, by have := r.un; show A.units + 1 + 16 * k + 200 < _; lia⟩
theorem Room.depth {k : Nat} {A : Around} (r : Room k A) : A.depth < recursionLimit := by have := r.dp; lia
theorem Room.units {k : Nat} {A : Around} (r : Room k A) : A.units + 64 < cLine := by have := r.un; lia
def tNil : TA := fun _ H Q => Q [] H
def tCons (ta : TE) (tr : TA) : TA := fun σ H Q => ta σ H fun x H1 => tr σ H1 fun xs H2 => Q (x :: xs) H2
section
variable {X : Cx} {e : Expr} {es : List Expr} {te : TE} {t : TA} {pos : Pos}
theorem pa_nil : PA X [] tNil := fun _ _ _ _ H Q I h => Calls.spliced_nil ⟨[], H, I, .nil, h⟩
theorem pa_cons (ha : PE X e te) (hr : PA X es t) (hs : starEach (e :: es) X.env = (false, eval e X.env) :: starEach es X.env := by rfl) : PA X (e :: es) (tCons te t) := by
 intro pos pins s σ H Q I h
 rw [hs]
 show wpAny _ _ (spliced ((false, eval e X.env) :: backTo pos (starEach es X.env))) _ _ s
 refine Calls.spliced_cons (thn (ha pins s σ H _ I h) fun u s1 ⟨x, H1, I1, r1, q1⟩ => ?_)
 exact thn (hr pos pins s1 σ H1 _ I1 q1) fun us s2 ⟨xs, H2, I2, r2, q2⟩ => ⟨x :: xs, H2, I2, .cons r1 r2, q2⟩
def tTup (t : TA) : TE := fun σ H Q => t σ H fun xs H1 => xs.length ≤ sizeLine ∧ ∀ p, H1 p = none → Q (.ref p) (upd H1 p (.tup xs))
def tLst (t : TA) : TE := fun σ H Q => t σ H fun xs H1 => xs.length ≤ sizeLine ∧ ∀ p, H1 p = none → Q (.ref p) (upd H1 p (.lst xs))
theorem pe_tup {x1} (h : PA X es t) : PE X (.Tuple es x1 pos) (tTup t) := by
 intro pins s σ H Q I hq
 refine wpAny_Tuple_spliced (thn (h pos pins s σ H _ I hq) fun us s1 ⟨xs, H1, I1, r, z, q⟩ => ⟨by rw [← r.length]; exact z, ?_⟩)
 have hf : H1 s1.heap.objs.size = none := I1.hok.fresh (Nat.le_refl _)
 refine ⟨.ref s1.heap.objs.size, upd H1 s1.heap.objs.size (.tup xs), I1.laid (t' := s1.toks) (fun b u e => Heap.get?_push_of_some _ e) (Nat.le_refl _) ?_, rfl, q _ hf⟩
 exact ⟨z, us, r, ⟨_, Heap.get?_push_size _ rfl, rfl, _, rfl⟩⟩
theorem pe_lst (h : PA X es t) : PE X (.List es pos) (tLst t) := by
 intro pins s σ H Q I hq
 refine wpAny_List_spliced (thn (h pos pins s σ H _ I hq) fun us s1 ⟨xs, H1, I1, r, z, q⟩ => ⟨by rw [← r.length]; exact z, ?_⟩)
 have hf : H1 s1.heap.objs.size = none := I1.hok.fresh (Nat.le_refl _)
 refine ⟨.ref s1.heap.objs.size, upd H1 s1.heap.objs.size (.lst xs), I1.laid (t' := s1.toks) (fun b u e => Heap.get?_push_of_some _ e) (Nat.le_refl _) ?_, rfl, q _ hf⟩
 exact ⟨z, us, 0, r, Heap.get?_push_size _ rfl⟩
end
abbrev Sp := List V → Hp → VK → XK → Prop
abbrev CXT := List Env → Hp → Shared → XK → Value → Shared → Prop
structure Env0 (P : Program) (w : World) (K : PySem.W.Frag) (mg : Str → Option Value) (base : Heap) (A : Around) (outer : List Env) (s : Shared) (H : Hp) : Prop where
 frames : A.frames = some outer
 mod : Mod K mg base
 bs : ∀ b o, base.get? b = some o → s.heap.get? b = some o ∧ H b = none
 bsz : base.objs.size ≤ s.heap.objs.size
 funs : s.heap.FunFrames base outer
 frf : ∀ b ∈ frs outer, H b = none
 hok : HOk P w H s.heap
 bare : AllBare s.gens
def CE (outer : List Env) (P : Program) (w : World) (H : Hp) (s : Shared) (Q : VK) (u : Value) (s' : Shared) : Prop :=
 ∃ v H', s'.os = s.os ∧ AllBare s'.gens ∧ Un (frs outer) [] H H' s.heap s'.heap ∧ HOk P w H' s'.heap ∧ RelV v u ∧ Q v H'
def CR (CX : CXT) (outer : List Env) (P : Program) (w : World) (H : Hp) (s : Shared) (Q : VK) (E : XK) (r : Result) (s' : Shared) : Prop :=
 match r with
 | .ok (.ret u) => CE outer P w H s Q u s'
 | .ok _ => False
 | .error e => CX outer H s E e s'
structure FnOk (P : Program) (w : World) (K : PySem.W.Frag) (mg : Str → Option Value) (base : Heap) (CX : CXT) (k : Nat) (f : Addr) (fd : FuncData) (ps : List Str) (sp : Sp) : Prop where
 len : ∀ vs H Q E, sp vs H Q E → vs.length = ps.length
 run : ∀ (A : Around) (outer : List Env) (s : Shared) (H : Hp) (args : Args) (us : List Value) (vs : List V) (Q : VK) (E : XK), Room k A → Env0 P w K mg base A outer s H → BindsTo s fd args (ps.zip us) → Vals vs us → sp vs H Q E →
   codeAny (model P w) A (.call (.ref f) args) (CR CX outer P w H s Q E) s
section
variable {X : Cx} {pins : List (Addr × Obj)} {σ : St} {H : Hp} {s s' : Shared}
theorem Inv.env0 (I : Inv X pins σ H s) : Env0 X.prog X.w X.K X.mg X.base X.A X.stack s H :=
 ⟨I.ok.frames, I.ok.mod, I.bs, Nat.le_trans I.ok.bsz I.sz, I.stack, I.stkFree, I.hok, I.bare⟩
theorem Inv.after {Q : VK} {u : Value} (I : Inv X pins σ H s) (h : CE X.stack X.prog X.w H s Q u s') : EP X pins σ Q u s' := by
 obtain ⟨v, H', os, bare, un, hok, r, q⟩ := h
 obtain ⟨hh, g, d, t, os'⟩ := s'
 obtain rfl : os' = s.os := os
 exact ⟨v, H', I.call (h' := hh) (g' := g) (d' := d) (t' := t) (ch := []) un hok bare (fun b z => absurd z (by simp)), r, q⟩
end
def tCall (sp : Sp) (dvs : List V) (E : XK) (t : TA) : TE := fun σ H Q => t σ H fun vs H1 => sp (vs ++ dvs) H1 Q E
def Binds (K : PySem.W.Frag) (fd : FuncData) (ps : List Str) (ds : List Value) : Prop :=
 ∀ (s : Shared) (us : List Value), K.In s.heap → (us ++ ds).length = ps.length → BindsTo s fd ⟨us, []⟩ (ps.zip (us ++ ds))
theorem Binds.all {K : PySem.W.Frag} {fd : FuncData} {ps : List Str} (h : ∀ us : List Value, us.length = ps.length → bindArgs fd ⟨us, []⟩ = pure (ps.zip us)) : Binds K fd ps [] := fun s us _ hl => by
 rw [List.append_nil] at hl ⊢
 exact .of_eq (h us hl)
def Passes (CX : CXT) (X : Cx) (E : XK) : Prop := ∀ (pins : List (Addr × Obj)) (σ : St) (H : Hp) (s : Shared) (e : Value) (s' : Shared), Inv X pins σ H s → CX X.stack H s E e s' → X.xe e s'
section
variable {X : Cx} {CX : CXT} {k : Nat} {f C : Addr} {fd : FuncData} {ps : List Str} {sp : Sp} {dvs : List V} {ds : List Value} {E : XK} {x m : Str} {p pos apos : Pos} {e o : Expr} {es : List Expr} {ta : TE} {t : TA}
theorem run_fn {pins : List (Addr × Obj)} {σ : St} {H : Hp} {s : Shared} {Q : VK} {us : List Value} {vs : List V} (F : FnOk X.prog X.w X.K X.mg X.base CX k f fd ps sp) (hr : Room k X.A) (hb : Binds X.K fd ps ds) (hd : Vals dvs ds) (hx : Passes CX X E)
   (I : Inv X pins σ H s) (r : Vals vs us) (h : sp (vs ++ dvs) H Q E) : wpAny (model X.prog X.w) X.A (call (.ref f) us) (EP X pins σ Q) X.xe s := by
 have r2 : Vals (vs ++ dvs) (us ++ ds) := r.append hd
 have hl : (us ++ ds).length = ps.length := by rw [← r2.length]; exact F.len _ _ _ _ h
 refine wpAny_call (codeAny_mono (F.run X.A X.stack s H ⟨us, []⟩ (us ++ ds) (vs ++ dvs) Q E hr I.env0 (hb s us I.kIn hl) r2 h) fun r s' hq => ?_)
 cases r with
 | error e => exact hx pins σ H s e s' I hq
 | ok fl =>
   cases fl with
   | ret u => exact I.after hq
   | next => exact False.elim hq
   | brk => exact False.elim hq
   | cont => exact False.elim hq
theorem pe_call (F : FnOk X.prog X.w X.K X.mg X.base CX k f fd ps sp) (hr : Room k X.A) (hg : Gl X x) (hm : X.mg x = some (.ref f)) (hk : PySem.W.keepIn X.K (.ref f) = true) (hb : Binds X.K fd ps ds) (hd : Vals dvs ds) (hx : Passes CX X E)
   (ha : PA X (e :: es) t) (hdb : (x == ("__debug__" : Str)) = false := by decide) (he : starEach (e :: es) X.env = (false, eval e X.env) :: starEach es X.env := by rfl) (hpl : (backTo pos (starEach es X.env)).any (·.1) = false := by rfl) :
   PE X (.Call (.Name x p) (e :: es) [] pos) (tCall sp dvs E t) := by
 intro pins s σ H Q I h
 refine wpAny_Call_Name_kw (ld_glob I hg hm ?_ hdb)
 refine PySem.W.callWith_K (h₀ := X.base) I.ok.mod.kin hk (thn (ha pos pins s σ H _ I h) fun us s1 ⟨vs, H1, I1, r, q⟩ => ⟨I1.kIn, ?_⟩) he hpl
 exact run_fn F hr hb hd hx I1 r q
structure Mk (K : PySem.W.Frag) (C f : Addr) : Prop where
 makes : PySem.W.makesIn K C = true
 init : PySem.W.findIn K (.ref C) "__init__" = some (some (.ref f))
 fn : PySem.W.isFn K (.ref f) = true
 kp : PySem.W.keepIn K (.ref C) = true
end
section
variable {X : Cx} {CX : CXT} {k : Nat} {f C : Addr} {fd : FuncData} {ps ks : List Str} {sp : Sp} {E : XK} {x m : Str} {p pos apos kpos : Pos} {e o : Expr} {es : List Expr} {kws : List Keyword} {te ta : TE} {t tk : TA} {nm : Option Str}
structure KBinds (K : PySem.W.Frag) (fd : FuncData) (ps ks : List Str) (g : List Value → List Value → List Value) (gV : List V → List V → List V) : Prop where
 to : ∀ (s : Shared) (us ws : List Value), K.In s.heap → (g us ws).length = ps.length → BindsTo s fd ⟨us, ks.zip ws⟩ (ps.zip (g us ws))
 rel : ∀ {vs : List V} {us : List Value} {zs : List V} {ws : List Value}, Vals vs us → Vals zs ws → Vals (gV vs zs) (g us ws)
variable {g : List Value → List Value → List Value} {gV : List V → List V → List V}
end
structure FnScope (N P : List Str) (sc : Scope) : Prop where
 kind : sc.kind = .function
 co : sc.isCoroutine = false
 gen : sc.isGenerator = false
 nd : N.Nodup
 pre : N.take P.length = P
 par : ∀ x ∈ P, sc.names.lookup x = some .local ∨ sc.names.lookup x = some .cell
 nofree : ∀ y ∈ sc.names, y.2 ≠ .free
theorem bindL_out {kindOf : Str → Option NameKind} {x : Str} : ∀ {binds : List (Str × Value)} {m : Str → Option Value}, (∀ v, (x, v) ∉ binds) → bindL kindOf binds m x = m x
 | [], _, _ => rfl
 | (n, v) :: r, m, h => by
   unfold bindL
   rw [bindL_out fun w hw => h w (List.mem_cons_of_mem _ hw)]
   split
   · have : x ≠ n := by rintro rfl; exact h v List.mem_cons_self
     simp [this]
   · rfl
theorem bindC_out {kindOf : Str → Option NameKind} {x : Str} : ∀ {binds : List (Str × Value)} {m : Str → Option Value}, (∀ v, (x, v) ∉ binds) → bindC kindOf binds m x = m x
 | [], _, _ => rfl
 | (n, v) :: r, m, h => by
   unfold bindC
   rw [bindC_out fun w hw => h w (List.mem_cons_of_mem _ hw)]
   split
   · rfl
   · have : x ≠ n := by rintro rfl; exact h v List.mem_cons_self
     simp [this]
theorem bindL_get {kindOf : Str → Option NameKind} {x : Str} {v : Value} : ∀ {P : List Str} {vs : List Value} {i : Nat} {m : Str → Option Value}, P.Nodup → P[i]? = some x → vs[i]? = some v → kindOf x = some .local →
   bindL kindOf (P.zip vs) m x = some v
 | [], _, _, _, _, h, _, _ => by simp at h
 | _ :: _, [], _, _, _, _, h, _ => by simp at h
 | p :: P, w :: vs, 0, m, nd, h1, h2, hk => by
   simp at h1 h2; subst h1; subst h2
   show bindL kindOf ((p, w) :: P.zip vs) m p = _
   unfold bindL
   rw [bindL_out fun v hv => (List.nodup_cons.mp nd).1 (List.of_mem_zip hv).1, if_pos hk]
   simp
 | p :: P, w :: vs, i + 1, m, nd, h1, h2, hk => by
   show bindL kindOf ((p, w) :: P.zip vs) m x = _
   unfold bindL
   exact bindL_get (i := i) (List.nodup_cons.mp nd).2 (by simpa using h1) (by simpa using h2) hk
theorem bindC_get {kindOf : Str → Option NameKind} {x : Str} {v : Value} : ∀ {P : List Str} {vs : List Value} {i : Nat} {m : Str → Option Value}, P.Nodup → P[i]? = some x → vs[i]? = some v → kindOf x ≠ some .local →
   bindC kindOf (P.zip vs) m x = some v
 | [], _, _, _, _, h, _, _ => by simp at h
 | _ :: _, [], _, _, _, _, h, _ => by simp at h
 | p :: P, w :: vs, 0, m, nd, h1, h2, hk => by
   simp at h1 h2; subst h1; subst h2
   show bindC kindOf ((p, w) :: P.zip vs) m p = _
   unfold bindC
   rw [bindC_out fun v hv => (List.nodup_cons.mp nd).1 (List.of_mem_zip hv).1, if_neg hk]
   simp
 | p :: P, w :: vs, i + 1, m, nd, h1, h2, hk => by
   show bindC kindOf ((p, w) :: P.zip vs) m x = _
   unfold bindC
   exact bindC_get (i := i) (List.nodup_cons.mp nd).2 (by simpa using h1) (by simpa using h2) hk
def start (N : List Str) (vs : List V) : St := vs.map some ++ List.replicate (N.length - vs.length) none
def cxOf (CX : CXT) (P : Program) (w : World) (K : PySem.W.Frag) (mg : Str → Option Value) (base : Heap) (N : List Str) (qual : Str) (scope : Scope) (f : Addr) (cd : Value) (A : Around) (outer : List Env) (s : Shared) (H : Hp) (E : XK) : Cx where
 prog := P
 w := w
 K := K
 mg := mg
 base := base
 A := A.deeper (envOfC qual scope s.heap.objs.size f cd)
 N := N
 s₀ := s
 H₀ := H
 env := envOfC qual scope s.heap.objs.size f cd
 outer := outer
 stack := envOfC qual scope s.heap.objs.size f cd :: outer
 ex := []
 calm := true
 fn := fun _ => true
 pn := []
 xe := fun e s' => wpAny (model P w) (A.deeper (envOfC qual scope s.heap.objs.size f cd)) (leaving (envOfC qual scope s.heap.objs.size f cd) e) (fun _ s'' => CX outer H s E e s'') (fun e' s'' => CX outer H s E e' s'') s'
theorem cell_has {sc : Scope} {n : Nat} {x : Str} (h : sc.names.lookup x = some .cell) : ∃ c, (cellsFrom n sc.names []).lookup x = some c := by
 have q := PySem.W.cellsFrom_some sc.names n [] (.inl h)
 exact Option.isSome_iff_exists.mp q
theorem inv_start {CX : CXT} {P : Program} {w : World} {K : PySem.W.Frag} {mg : Str → Option Value} {base : Heap} {N ps : List Str} {qual : Str} {scope : Scope} {f : Addr} {cd : Value} {A : Around} {outer : List Env} {s s1 : Shared} {H : Hp} {E : XK} {us : List Value} {vs : List V}
   (S : FnScope N ps scope) (hd : A.handled = none) (e0 : Env0 P w K mg base A outer s H) (hl : vs.length = ps.length) (r : Vals vs us)
   (x : InCallC s s.heap.objs.size (bindL (envOfC qual scope s.heap.objs.size f cd).kindOf (ps.zip us) fun _ => none) (cellsFrom (s.heap.objs.size + 1) scope.names []) (bindC (envOfC qual scope s.heap.objs.size f cd).kindOf (ps.zip us) fun _ => none) s1) :
   Inv (cxOf CX P w K mg base N qual scope f cd A outer s H E) [] (start N vs) H s1 := by
 have hpl : ps.length ≤ N.length := by have := congrArg List.length S.pre; rw [List.length_take] at this; lia
 obtain ⟨h1, tk, rfl, hk⟩ := x.done
 have noA : ∀ b : Addr, b ∉ (cxOf CX P w K mg base N qual scope f cd A outer s H E).ex := fun b z => absurd (show b ∈ ([] : List Addr) from z) (by simp)
 refine ⟨⟨e0.mod, S.kind, rfl, rfl, Nat.le_refl _, fun y z c h1 h2 => ?_, fun y hy => ?_, fun y c _ h => ?_, fun _ => hd, Around.frames_deeper e0.frames, .inr ⟨rfl, rfl⟩, fun b z => absurd z (noA b), e0.bs, e0.bsz, fun b _ _ => noA b, fun b z => absurd z (noA b), e0.funs, e0.frf⟩,
   rfl, e0.bare, Un.kept hk, ⟨_, x.toInCall.ns, fun i y v h1 h2 h3 => ?_⟩, fun y c h => ⟨_, x.cell y c h⟩, e0.hok.fresh (Nat.le_refl _), fun y c h => ?_, fun p hp => absurd (show p ∈ ([] : List (Addr × Obj)) from hp) (by simp), e0.hok.kept hk, ?_⟩
 · exact name_of_addr x.apart (PySem.mem_of_lookup h1) (PySem.mem_of_lookup h2)
 · have hy : scope.names.lookup y = some .cell ∨ scope.names.lookup y = some .free := hy
   rcases hy with hy | hy
   · exact cell_has hy
   · exact absurd rfl (S.nofree _ (PySem.mem_of_lookup hy))
 · exact Nat.le_of_lt (x.above y c (PySem.mem_of_lookup h))
 · have hi : i < vs.length := by
     unfold start at h2
     by_cases hi : i < vs.length
     · exact hi
     · rw [List.getElem?_append_right (by simpa using hi)] at h2
       rw [List.getElem?_replicate] at h2
       split at h2 <;> cases h2
   have ha : vs[i]? = some v := by
     unfold start at h2
     rw [List.getElem?_append_left (by simpa using hi), List.getElem?_map] at h2
     cases e : vs[i]? with
     | none => rw [e] at h2; cases h2
     | some a => rw [e] at h2; cases h2; rfl
   obtain ⟨u, hu, rv⟩ := r.get ha
   have hp : ps[i]? = some y := by
     rw [← S.pre, List.getElem?_take_of_lt (by lia)]; exact h1
   have ndP : ps.Nodup := by rw [← S.pre]; exact S.nd.sublist (List.take_sublist _ _)
   refine ⟨u, rv, ?_⟩
   rcases S.par y (List.mem_of_getElem? hp) with k | k
   · exact .inl ⟨k, bindL_get ndP hp hu k⟩
   · obtain ⟨c, e⟩ := cell_has (n := s.heap.objs.size + 1) k
     refine .inr ⟨.inl k, c, e, ?_⟩
     have q := x.cell y c e
     rw [bindC_get ndP hp hu (by show scope.names.lookup y ≠ _; rw [k]; decide)] at q
     exact q
 · exact e0.hok.fresh (Nat.le_of_lt (x.above y c (PySem.mem_of_lookup h)))
 · unfold start
   show _ = N.length
   rw [List.length_append, List.length_map, List.length_replicate]
   lia
theorem fn_of {CX : CXT} {P : Program} {w : World} {K : PySem.W.Frag} {mg : Str → Option Value} {base : Heap} {k : Nat} {f : Addr} {name qual : Str} {params : Arguments} {body : List Stmt} {scope : Scope} {dV kV doc pm cdv ct oc : Value} {an od : Option Addr}
   {osl : Array (Option Value)} {N ps : List Str} {sp : Sp} (lk : K.lookup f = some ⟨oc, od, .func (PySem.W.fnOf name qual params body scope dV kV doc pm an cdv ct), osl⟩) (hcd : PySem.W.codeIn K cdv qual = true) (S : FnScope N ps scope)
   (len : ∀ vs H Q E, sp vs H Q E → vs.length = ps.length)
   (hbody : ∀ (A : Around) (outer : List Env) (s : Shared) (H : Hp) (vs : List V) (Q : VK) (E : XK), Room k (A.deeper (envOfC qual scope s.heap.objs.size f cdv)) → sp vs H Q E →
     ∃ t, PSs (cxOf CX P w K mg base N qual scope f cdv A outer s H E) body t ∧ t { nx := fun _ H' => Q .non H', rt := Q } (start N vs) H) :
   FnOk P w K mg base CX (k + 1) f (PySem.W.fnOf name qual params body scope dV kV doc pm an cdv ct) ps sp := by
 refine ⟨len, fun A outer s H args us vs Q E hr e0 hb r hsp => ?_⟩
 have hl := len _ _ _ _ hsp
 have KX : K.In s.heap := e0.mod.kin.keeps fun b o e => (e0.bs b o e).1
 have lim : s.heap.NoLimit := e0.mod.nolimit.keeps fun b o e => (e0.bs b o e).1
 have hkind : ∀ y ∈ ps.zip us, scope.names.lookup y.1 = some .local ∨ (scope.names.lookup y.1 = some .cell ∧ ((cellsFrom (s.heap.objs.size + 1) scope.names []).lookup y.1).isSome = true) := fun ⟨n, v⟩ hy => by
   rcases S.par n (List.of_mem_zip hy).1 with q | q
   · exact .inl q
   · exact .inr ⟨q, PySem.W.cellsFrom_some _ _ _ (.inl q)⟩
 refine codeAny_call_function hr.depth (KX _ _ lk) rfl S.co S.gen rfl (PySem.W.codeRec_of KX hcd) (hb _ _ _ _ ?_)
 refine wpAny_newFunctionEnv_cells S.kind hkind fun env he s1 x => ?_
 subst he
 refine ⟨lim.keeps x.toInCall.keep, codeAny_func ?_⟩
 obtain ⟨t, ht, hq⟩ := hbody A outer s H vs Q E (hr.deeper _) hsp
 have I : Inv (cxOf CX P w K mg base N qual scope f cdv A outer s H E) [] (start N vs) H s1 := inv_start S hr.hd e0 hl r x
 refine wpAny_mono (ht [] s1 (start N vs) H _ I hq) (fun fl s' hs => ?_) fun e s' hs => hs
 have fin : ∀ {σ' : St} {H' : Hp} {v : V} {u : Value}, Inv (cxOf CX P w K mg base N qual scope f cdv A outer s H E) [] σ' H' s' → RelV v u → Q v H' → CE outer P w H s Q u s' :=
   fun {σ' H' v u} J rv q => ⟨v, H', J.os, J.bare, J.base, J.hok, rv, q⟩
 cases fl with
 | ret u =>
   obtain ⟨v, σ', H', J, rv, q⟩ := hs
   exact fin J rv q
 | next =>
   obtain ⟨σ', H', J, q⟩ := hs
   exact fin (v := V.non) (u := Value.none) J rfl q
 | brk =>
   obtain ⟨_, _, _, q⟩ := hs
   exact False.elim q
 | cont =>
   obtain ⟨_, _, _, q⟩ := hs
   exact False.elim q
end L2
namespace L2
open PySem PySem.Spec PyProof.Rows
section
variable {X : Cx} {x : Str} {p pos : Pos} {e : Expr} {es : List Expr} {t : TA} {id T : String} {r : List V → Hp → VK → Prop}
def tCB (r : List V → Hp → VK → Prop) (t : TA) : TE := fun σ H Q => t σ H fun vs H1 => r vs H1 Q
theorem pe_callB (hc : CallR X (.builtin id) r) (hg : Gl X x) (hm : X.mg x = none) (hv : bootBuiltins x = some (.builtin id)) (ha : PA X (e :: es) t) (hn : x ≠ "__name__" := by decide) (hdb : (x == ("__debug__" : Str)) = false := by decide)
   (he : starEach (e :: es) X.env = (false, eval e X.env) :: starEach es X.env := by rfl) (hpl : (backTo pos (starEach es X.env)).any (·.1) = false := by rfl) : PE X (.Call (.Name x p) (e :: es) [] pos) (tCB r t) := by
 intro pins s σ H Q I h
 refine wpAny_Call_Name_kw (ld_blt I hg hm hv ?_ hn hdb)
 exact PyProof.Rows.callWith_builtin1 (thn (ha pos pins s σ H _ I h) fun us s1 ⟨vs, H1, I1, r1, q1⟩ => hc pins s1 σ H1 vs us Q I1 r1 q1) he hpl
theorem pe_callTy (hc : CallR X (.type T) r) (hg : Gl X x) (hm : X.mg x = none) (hv : bootBuiltins x = some (.type T)) (ha : PA X (e :: es) t) (hn : x ≠ "__name__" := by decide) (hdb : (x == ("__debug__" : Str)) = false := by decide)
   (he : starEach (e :: es) X.env = (false, eval e X.env) :: starEach es X.env := by rfl) (hpl : (backTo pos (starEach es X.env)).any (·.1) = false := by rfl) : PE X (.Call (.Name x p) (e :: es) [] pos) (tCB r t) := by
 intro pins s σ H Q I h
 refine wpAny_Call_Name_kw (ld_blt I hg hm hv ?_ hn hdb)
 exact PyProof.Rows.callWith_type1 (thn (ha pos pins s σ H _ I h) fun us s1 ⟨vs, H1, I1, r1, q1⟩ => hc pins s1 σ H1 vs us Q I1 r1 q1) he hpl
end
end L2
namespace HT
open PySem PyProof.Rows
section
open PySem.SeqAt
open PySem.AutoSeq1 (wpAny_loadPart')
open PySem.MeetsSeq PySem.MeetsSeq2 PySem.MeetsSeq3
end
section
variable {prog : Program} {w : World} {A : Around} {E : Value → Shared → Prop} {s : Shared}
def sIx (n d : Nat) : Option Int → Nat
 | none => d
 | some v => if v < 0 then (v + (n : Int)).toNat else min v.toNat n
theorem sIx_nat (n d k : Nat) : sIx n d (some (k : Int)) = min k n := by
 show (if (k : Int) < 0 then ((k : Int) + (n : Int)).toNat else min (k : Int).toNat n) = min k n
 rw [if_neg (by lia), Int.toNat_natCast]
theorem clip_eq (v : Int) (n d : Nat) : (if v < 0 then max (v + (n : Int)) 0 else min v (n : Int)) = ((sIx n d (some v) : Nat) : Int) := by
 show (if v < 0 then max (v + (n : Int)) 0 else min v (n : Int)) = (((if v < 0 then (v + (n : Int)).toNat else min v.toNat n) : Nat) : Int)
 by_cases hv : v < 0
 · rw [if_pos hv, if_pos hv, Int.toNat_eq_max]
 · rw [if_neg hv, if_neg hv]
   obtain ⟨k, rfl⟩ := Int.eq_ofNat_of_zero_le (Int.not_lt.mp hv)
   rw [Int.toNat_natCast]
   rcases Nat.le_total k n with h | h
   · rw [Nat.min_eq_left h, Int.min_eq_left (Int.ofNat_le.mpr h)]
   · rw [Nat.min_eq_right h, Int.min_eq_right (Int.ofNat_le.mpr h)]
end
end HT
namespace L2
open PySem PySem.Spec PyProof.Rows
abbrev TO := St → Hp → (Option Int → Hp → Prop) → Prop
def PO (X : Cx) (e : Option Expr) (t : TO) : Prop :=
 ∀ (pins : List (Addr × Obj)) (s : Shared) (σ : St) (H : Hp) (Q : Option Int → Hp → Prop), Inv X pins σ H s → t σ H Q →
   wpAny (model X.prog X.w) X.A (evalPart e X.env) (fun u s' => ∃ o H', Inv X pins σ H' s' ∧ IsPart u o ∧ Q o H') X.xe s
def tNoPart : TO := fun _ H Q => Q none H
def tPart (t : TE) : TO := fun σ H Q => t σ H fun x H1 => ∃ i, x = .int i ∧ Q (some i) H1
section
variable {X : Cx} {e : Expr} {te : TE} {lo hi : Option Expr} {tl th : TO} {pos p2 : Pos}
theorem po_none : PO X none tNoPart := by
 intro pins s σ H Q I h
 rw [evalPart_none]
 exact wpAny_pure ⟨none, H, I, .none, h⟩
theorem po_some (h : PE X e te) : PO X (some e) (tPart te) := by
 intro pins s σ H Q I hw
 rw [evalPart_some]
 refine thn (h pins s σ H _ I hw) fun u s1 ⟨x, H1, I1, r1, q1⟩ => ?_
 obtain ⟨i, rfl, q⟩ := q1
 obtain ⟨t, rfl⟩ := r1
 exact ⟨some i, H1, I1, .int i t, q⟩
def SlR (X : Cx) (r : V → Option Int → Option Int → Hp → VK → Prop) : Prop :=
 ∀ (pins : List (Addr × Obj)) (s : Shared) (σ : St) (H : Hp) (x : V) (v vl vu : Value) (lo hi : Option Int) (sl : Addr) (Q : VK), Inv X pins σ H s → RelV x v → s.heap.IsSliceOf sl vl vu .none → IsPart vl lo → IsPart vu hi → r x lo hi H Q →
   ∃ T id, typeLookup (.type T) "__getitem__" = pure (some (.builtin id)) ∧ s.TypeIs v T ∧ wpAny (model X.prog X.w) X.A (getItem v (.ref sl)) (EP X pins σ Q) X.xe s
def tSl (r : V → Option Int → Option Int → Hp → VK → Prop) (te : TE) (tl th : TO) : TE := fun σ H Q => te σ H fun x H1 => tl σ H1 fun l H2 => th σ H2 fun u H3 => r x l u H3 Q
theorem pe_slice {r : V → Option Int → Option Int → Hp → VK → Prop} (hr : SlR X r) (he : PE X e te) (hl : PO X lo tl) (hu : PO X hi th) : PE X (.Subscript e (.Slice lo hi none p2) pos) (tSl r te tl th) := by
 intro pins s σ H Q I h
 refine Subscript_ (thn (he pins s σ H _ I h) fun v s1 ⟨x, H1, I1, r1, q1⟩ => ?_)
 refine wpAny_Slice (thn (hl pins s1 σ H1 _ I1 q1) fun vl s2 ⟨l, H2, I2, pl, q2⟩ => thn (hu pins s2 σ H2 _ I2 q2) fun vu s3 ⟨u, H3, I3, pu, q3⟩ => ?_)
 rw [evalPart_none]
 refine wpAny_pure ?_
 have I4 : Inv X pins σ H3 { s3 with heap := s3.heap.push { cls := .type "slice", data := .fields #[vl, vu, .none] } } := I3.kept (t' := s3.toks) fun b ob q => Heap.get?_push_of_some _ q
 obtain ⟨T, id, hT, ht, hg⟩ := hr pins { s3 with heap := s3.heap.push { cls := .type "slice", data := .fields #[vl, vu, .none] } } σ H3 x v vl vu l u s3.heap.objs.size Q I4 r1 (Heap.IsSliceOf.new ..) pl pu q3
 show wpAny (model X.prog X.w) X.A (subscriptTail e (.Slice lo hi none p2) v (.ref s3.heap.objs.size)) (EP X pins σ Q) X.xe { s3 with heap := s3.heap.push { cls := .type "slice", data := .fields #[vl, vu, .none] } }
 exact tail_any (ops := [.ref s3.heap.objs.size, v]) ht hT hg (by with_unfolding_all rfl)
def cutV (xs : List V) (lo hi : Option Int) : List V := (xs.drop (HT.sIx xs.length 0 lo)).take (HT.sIx xs.length xs.length hi - HT.sIx xs.length 0 lo)
theorem cutV_length (xs : List V) (lo hi : Option Int) : (cutV xs lo hi).length ≤ xs.length := by
 unfold cutV
 rw [List.length_take, List.length_drop]
 exact Nat.le_trans (Nat.min_le_right _ _) (Nat.sub_le _ _)
end
end L2
namespace L2
open PySem PySem.Spec PyProof.Rows
def ixN (n : Nat) (i : Int) : Option Nat := if 0 ≤ i then (if i < n then some i.toNat else none) else if -(n : Int) ≤ i then some (i + n).toNat else none
def atI {α : Type} (xs : List α) (i : Int) : Option α := (ixN xs.length i).bind fun j => xs[j]?
theorem ixN_seq {n : Nat} {i : Int} {j : Nat} (h : ixN n i = some j) : seqIndex? i n = some j ∧ j < n ∧ -(n : Int) ≤ i ∧ i < n := by
 unfold ixN at h
 by_cases h0 : 0 ≤ i
 · rw [if_pos h0] at h
   by_cases h1 : i < n
   · rw [if_pos h1] at h
     have e : i.toNat = j := Option.some.inj h
     exact ⟨by rw [seqIndex_of h0 h1, e], by lia, by lia, h1⟩
   · rw [if_neg h1] at h; cases h
 · rw [if_neg h0] at h
   by_cases h1 : -(n : Int) ≤ i
   · rw [if_pos h1] at h
     have e : (i + n).toNat = j := Option.some.inj h
     exact ⟨by rw [seqIndex_neg (by lia) h1, e], by lia, h1, by lia⟩
   · rw [if_neg h1] at h; cases h
theorem atI_get {α : Type} {xs : List α} {i : Int} {v : α} (h : atI xs i = some v) : ∃ j, seqIndex? i xs.length = some j ∧ xs[j]? = some v ∧ j < xs.length ∧ -(xs.length : Int) ≤ i ∧ i < xs.length := by
 unfold atI at h
 cases e : ixN xs.length i with
 | none => rw [e] at h; cases h
 | some j =>
   rw [e] at h
   obtain ⟨h1, h2, h3, h4⟩ := ixN_seq e
   exact ⟨j, h1, h, h2, h3, h4⟩
theorem atI_nat {α : Type} {xs : List α} {j : Nat} {v : α} (h : xs[j]? = some v) : atI xs (j : Int) = some v := by
 have hj : j < xs.length := (List.getElem?_eq_some_iff.mp h).1
 have e : ixN xs.length (j : Int) = some j := by
   unfold ixN
   rw [if_pos (by lia), if_pos (by lia)]; simp
 unfold atI; rw [e]; exact h
def PlainIx (b : Expr) : Prop := ∀ o i, subscripted b false o i = operate [o, i] (getItem o i)
def IxR (X : Cx) (r : R2) : Prop :=
 ∀ (value slice : Expr) (pins : List (Addr × Obj)) (s : Shared) (σ : St) (H : Hp) (x y : V) (v u : Value) (Q : VK), Inv X pins σ H s → RelV x v → RelV y u → r x y H Q →
   subscripted slice false v u = operate [v, u] (getItem v u) → wpAny (model X.prog X.w) X.A (subscriptTail value slice v u) (EP X pins σ Q) X.xe s
def MtR (X : Cx) (id : String) (r : V → List V → Hp → VK → Prop) : Prop :=
 ∀ (pins : List (Addr × Obj)) (s : Shared) (σ : St) (H : Hp) (x : V) (xs : List V) (v : Value) (us : List Value) (Q : VK), Inv X pins σ H s → RelV x v → Vals xs us → r x xs H Q →
   wpAny (model X.prog X.w) X.A (call (.builtin id) (v :: us)) (EP X pins σ Q) X.xe s
section
variable {X : Cx} {a b : Expr} {ta tb : TE} {pos : Pos}
theorem pe_ix {r : R2} (hr : IxR X r) (ha : PE X a ta) (hb : PE X b tb) (hs : PlainIx b) : PE X (.Subscript a b pos) (tOp r ta tb) := by
 intro pins s σ H Q I h
 exact Subscript_ (binT ha hb I h fun v u s2 x y H2 I2 rx ry q => hr a b pins s2 σ H2 x y v u Q I2 rx ry q (hs _ _))
inductive rIxL (K : PySem.W.Frag) (x : V) (y : V) (H : Hp) (Q : VK) : Prop
 | mk (p : _) (xs : _) (i : _) (v : _) (h1 : x = .ref p) (h2 : y = .int i) (h3 : SqL K H p xs) (h4 : atI xs i = some v) (h5 : Q v H) : rIxL K x y H Q
inductive rIxT (K : PySem.W.Frag) (x : V) (y : V) (H : Hp) (Q : VK) : Prop
 | mk (p : _) (xs : _) (i : _) (v : _) (h1 : x = .ref p) (h2 : y = .int i) (h3 : SqT K H p xs) (h4 : atI xs i = some v) (h5 : Q v H) : rIxT K x y H Q
theorem ix_list : IxR X (rIxL X.K) := by
 intro value slice pins s σ H x y v u Q I rx ry h hs
 obtain ⟨p, xs, i, z, rfl, rfl, hq, he, q⟩ := h
 cases rx
 obtain ⟨t, rfl⟩ := ry
 obtain ⟨its, r, pl, hz⟩ := I.list hq
 obtain ⟨j, h1, h2, h3, h4, h5⟩ := atI_get he
 obtain ⟨w, ew, rw'⟩ := r.get h2
 have hl := r.length
 have hn := line63
 have fin : EP X pins σ Q w s := ⟨z, H, I, rw', q⟩
 by_cases h0 : 0 ≤ i
 · have hj : i.toNat = j := by
     rw [seqIndex_of h0 h5] at h1
     exact Option.some.inj h1
   exact item_listR pl.isList h0 (by lia) (by rw [hj]; simpa using ew) fin hs
 · have hj : (i + (its.toArray.size : Int)).toNat = j := by
     rw [seqIndex_neg (by lia) h4] at h1
     rw [List.size_toArray, ← hl]
     exact Option.some.inj h1
   exact subscriptTail_builtinR (x := w) pl.isList.typeIs slot_list_getitem.lookup
     (wpAny_getItem_list_neg (Q := fun r s' => r = w ∧ EP X pins σ Q r s') pl.isList (by lia) (by rw [List.size_toArray] <;> lia) (by lia) (by rw [hj]; simpa using ew) ⟨rfl, fin⟩) hs
theorem ix_tup : IxR X (rIxT X.K) := by
 intro value slice pins s σ H x y v u Q I rx ry h hs
 obtain ⟨p, xs, i, z, rfl, rfl, hq, he, q⟩ := h
 cases rx
 obtain ⟨t, rfl⟩ := ry
 obtain ⟨its, r, pl, hz⟩ := I.tuple hq
 obtain ⟨j, h1, h2, h3, h4, h5⟩ := atI_get he
 obtain ⟨w, ew, rw'⟩ := r.get h2
 have hl := r.length
 have hn := line63
 have fin : EP X pins σ Q w s := ⟨z, H, I, rw', q⟩
 exact subscriptTail_builtinR (x := w) pl.typeIs slot_tuple_getitem.lookup
   (getItem_tuple (j := j) (Q := fun r s' => r = w ∧ EP X pins σ Q r s') pl (by lia) (by lia) (by rw [List.size_toArray, ← hl]; exact h1) (by simpa using ew) ⟨rfl, fin⟩) hs
theorem mapSeq_set (its : List Value) (n j : Nat) (u : Value) : Obj.mapSeq (·.setIfInBounds j u) { cls := .type "list", data := .seq its.toArray n } = { cls := .type "list", data := .seq (its.set j u).toArray n } := by
 simp [Obj.mapSeq]
theorem Inv.lst {pins : List (Addr × Obj)} {σ : St} {H : Hp} {s : Shared} {p : Addr} {xs : List V} (I : Inv X pins σ H s) (h : H p = some (.lst xs)) :
   ∃ (its : List Value) (n : Nat), Vals xs its ∧ s.heap.get? p = some { cls := .type "list", data := .seq its.toArray n } ∧ xs.length ≤ sizeLine := by
 obtain ⟨z, its, n, r, e⟩ := I.hok p _ h
 exact ⟨its, n, r, e, z⟩
theorem Inv.lstUpd {pins : List (Addr × Obj)} {σ : St} {H : Hp} {s : Shared} {p : Addr} {xs ys : List V} {its its' : List Value} {n n' : Nat} {f : Obj → Obj} (I : Inv X pins σ H s) (h : H p = some (.lst xs))
   (ho : s.heap.get? p = some { cls := .type "list", data := .seq its.toArray n }) (hf : f { cls := .type "list", data := .seq its.toArray n } = { cls := .type "list", data := .seq its'.toArray n' }) (r : Vals ys its') (hz : ys.length ≤ sizeLine) (t : Nat) :
   Inv X pins σ (upd H p (.lst ys)) { s with heap := s.heap.update p f, toks := t } := by
 have e : (s.heap.update p f).get? p = some { cls := .type "list", data := .seq its'.toArray n' } := by
   rw [Heap.get?_update_self f ho (by rw [hf] <;> rfl), hf]
 refine I.write (x := p) (e := p) (by rw [h]; trivial) (.inl rfl) (fun b u hb q => (Heap.get?_update_other _ _ (Ne.symm hb)).trans q) ⟨_, e⟩ ?_
 exact ⟨hz, its', n', r, e⟩
inductive rSetL (o : V) (i : V) (v : V) (H : Hp) (Q : (Hp → Prop)) : Prop
 | mk (p : _) (xs : _) (k : _) (j : _) (h1 : o = .ref p) (h2 : i = .int k) (h3 : H p = some (.lst xs)) (h4 : ixN xs.length k = some j) (h5 : Q (upd H p (.lst (xs.set j v)))) : rSetL o i v H Q
theorem set_list : PSet X rSetL := by
 intro pins s σ H o i v ov iv u Q I ro ri rv h
 obtain ⟨p, xs, k, j, rfl, rfl, hp, hj, q⟩ := h
 cases ro
 obtain ⟨t, rfl⟩ := ri
 obtain ⟨its, n, r, ho, hz⟩ := I.lst hp
 obtain ⟨h1, h2, h3, h4⟩ := ixN_seq hj
 have hl := r.length
 have hn := line63
 have I' : Inv X pins σ (upd H p (.lst (xs.set j v))) { s with heap := s.heap.update p (Obj.mapSeq (·.setIfInBounds j u)) } :=
   I.lstUpd hp ho (mapSeq_set its n j u) (r.set rv j) (by rw [List.length_set]; exact hz) s.toks
 by_cases h0 : 0 ≤ k
 · have hk : k.toNat = j := by
     rw [seqIndex_of h0 h4] at h1
     exact Option.some.inj h1
   exact PySem.W.ki_setAt ho h0 (by lia) (by rw [List.size_toArray, ← hl]; exact h4) (by rw [hk]; exact ⟨_, I', q⟩)
 · have hk : (k + (its.toArray.size : Int)).toNat = j := by
     rw [seqIndex_neg (by lia) h3] at h1
     rw [List.size_toArray, ← hl]
     exact Option.some.inj h1
   exact PySem.W.ki_setBack ho (by lia) (by rw [List.size_toArray, ← hl]; exact h3) (by lia) (by rw [hk]; exact ⟨_, I', q⟩)
theorem slice_bounds (lo hi : Option Int) (n : Nat) : (sliceBounds lo hi none n).1 = ((HT.sIx n 0 lo : Nat) : Int) ∧ (sliceBounds lo hi none n).2.1 = ((HT.sIx n n hi : Nat) : Int) ∧ (sliceBounds lo hi none n).2.2 = 1 := by
 have key : ∀ (i : Int) (d : Nat), max 0 (min (if i < 0 then i + (n : Int) else i) (n : Int)) = ((HT.sIx n d (some i) : Nat) : Int) := by
   intro i d
   rw [← HT.clip_eq]
   by_cases h : i < 0
   · rw [if_pos h, if_pos h, Int.min_eq_left (by lia), Int.max_comm]
   · rw [if_neg h, if_neg h, Int.max_eq_right (Int.le_min.mpr ⟨by lia, by lia⟩)]
 refine ⟨?_, ?_, rfl⟩
 · cases lo with
   | none => simp [sliceBounds, HT.sIx]
   | some i => exact key i 0
 · cases hi with
   | none => simp [sliceBounds, HT.sIx]
   | some i => exact key i n
theorem slicePick_cut (its : List Value) (lo hi : Option Int) : slicePick its.toArray lo hi none = ((its.drop (HT.sIx its.length 0 lo)).take (HT.sIx its.length its.length hi - HT.sIx its.length 0 lo)).toArray := by
 obtain ⟨h1, h2, h3⟩ := slice_bounds lo hi its.toArray.size
 unfold slicePick
 rw [h1, h2, h3]
 simp only [sliceRange_one, pick_run, List.size_toArray] <;> rfl
inductive rSlL (K : PySem.W.Frag) (x : V) (lo : Option Int) (hi : Option Int) (H : Hp) (Q : VK) : Prop
 | mk (a : _) (xs : _) (h1 : x = .ref a) (h2 : SqL K H a xs) (h3 : ∀ p, H p = none → Q (.ref p) (upd H p (.lst (cutV xs lo hi)))) : rSlL K x lo hi H Q
theorem sl_list : SlR X (rSlL X.K) := by
 intro pins s σ H x v vl vu lo hi sl Q I rx hs pl pu h
 obtain ⟨a, xs, rfl, hx, q⟩ := h
 cases rx
 obtain ⟨its, r, ht, hz⟩ := I.list hx
 have hlen := r.length
 refine ⟨"list", _, slot_list_getitem.lookup, ht.isList.typeIs, ?_⟩
 refine wpAny_getItem_list_slice ht.isList hs pl pu .none (by simp) ?_ (by rw [List.size_toArray] <;> lia)
 rw [slicePick_cut, ← hlen]
 refine ⟨.ref s.heap.objs.size, _, I.laid (t' := s.toks) (o := .lst (cutV xs lo hi)) (fun b ob q => Heap.get?_push_of_some _ q) (Nat.le_refl _) ?_, rfl, q _ (I.hok.fresh (Nat.le_refl _))⟩
 exact ⟨Nat.le_trans (cutV_length xs lo hi) hz, _, 0, (r.drop (HT.sIx xs.length 0 lo)).take (HT.sIx xs.length xs.length hi - HT.sIx xs.length 0 lo), Heap.get?_push_size _ rfl⟩
theorem call_len_seq : CallR X (.builtin "len") (fun xs H Q => ∃ p ys, xs = [.ref p] ∧ (SqL X.K H p ys ∨ SqT X.K H p ys) ∧ Q (.int ys.length) H) := by
 intro pins s σ H xs us Q I r h
 obtain ⟨p, ys, rfl, hq, q⟩ := h
 obtain ⟨u, rfl, rx⟩ := vals1 r
 cases rx
 have hn := line63
 rcases hq with hq | hq
 · obtain ⟨its, r', pl, hz⟩ := I.list hq
   have hlen := r'.length
   exact Calls.call_len_list pl.isList (by simp only [List.size_toArray] <;> lia) ⟨.int ys.length, H, I.tok _, ⟨s.toks + 1, by rw [List.size_toArray, hlen]⟩, q⟩
 · obtain ⟨its, r', pl, hz⟩ := I.tuple hq
   have hlen := r'.length
   exact len_tuple pl (by simp only [List.size_toArray] <;> lia) ⟨.int ys.length, H, I.tok _, ⟨s.toks + 1, by rw [List.size_toArray, hlen]⟩, q⟩
theorem call_list_of : CallR X (.type "list") (fun xs H Q => ∃ p ys, xs = [.ref p] ∧ (SqL X.K H p ys ∨ SqT X.K H p ys) ∧ ∀ l, H l = none → Q (.ref l) (upd H l (.lst ys))) := by
 intro pins s σ H xs us Q I r h
 obtain ⟨p, ys, rfl, hq, q⟩ := h
 obtain ⟨u, rfl, rx⟩ := vals1 r
 cases rx
 have fin : ∀ (its : List Value), Vals ys its → ys.length ≤ sizeLine → ∀ (h' : Heap) (c' : Nat), (∀ b o', s.heap.get? b = some o' → h'.get? b = some o') →
     h'.get? s.heap.objs.size = some { cls := .type "list", dict := none, data := .seq its.toArray c', slots := #[] } → EP X pins σ Q (.ref s.heap.objs.size) { s with heap := h' } := fun its r' hz h' c' kp e =>
   ⟨.ref s.heap.objs.size, _, I.laid (t' := s.toks) kp (Nat.le_refl _) (show ObjOk X.prog X.w _ h' _ (.lst ys) from ⟨hz, its, c', r', e⟩), rfl, q _ (I.hok.fresh (Nat.le_refl _))⟩
 rcases hq with hq | hq
 · obtain ⟨its, r', pl, hz⟩ := I.list hq
   have hlen := r'.length
   obtain ⟨o, ho, hc, n, hd⟩ := pl.isList
   exact call_list_seq p (.inl rfl) ho hc hd (fun h' c' kp e => fin its r' hz h' c' kp e) (by simp only [List.size_toArray] <;> lia)
 · obtain ⟨its, r', pl, hz⟩ := I.tuple hq
   have hlen := r'.length
   obtain ⟨o, ho, hc, n, hd⟩ := pl
   exact call_list_seq p (.inr rfl) ho hc hd (fun h' c' kp e => fin its r' hz h' c' kp e) (by simp only [List.size_toArray] <;> lia)
theorem call_tuple_of : CallR X (.type "tuple") (fun xs H Q => ∃ p ys, xs = [.ref p] ∧ ((SqL X.K H p ys ∧ ∀ l, H l = none → Q (.ref l) (upd H l (.tup ys))) ∨ (SqT X.K H p ys ∧ Q (.ref p) H))) := by
 intro pins s σ H xs us Q I r h
 obtain ⟨p, ys, rfl, h⟩ := h
 obtain ⟨u, rfl, rx⟩ := vals1 r
 cases rx
 rcases h with ⟨hq, q⟩ | ⟨hq, q⟩
 · obtain ⟨its, r', pl, hz⟩ := I.list hq
   have hlen := r'.length
   refine call_tuple_list pl.isList (fun h' kp => ?_) (by simp only [List.size_toArray] <;> lia)
   have I1 : Inv X pins σ H { s with heap := h' } := I.kept (t' := s.toks) kp
   have I2 : Inv X pins σ (upd H h'.objs.size (.tup ys)) { s with heap := h'.push { cls := .type "tuple", data := .seq its.toArray } } :=
     I1.laid (t' := s.toks) (fun b o e => Heap.get?_push_of_some _ e) (Nat.le_refl _) (show ObjOk X.prog X.w _ _ _ (.tup ys) from ⟨hz, its, r', IsTup.new _ _⟩)
   exact ⟨.ref h'.objs.size, _, I2, rfl, q _ (I1.hok.fresh (Nat.le_refl _))⟩
 · obtain ⟨its, r', pl, hz⟩ := I.tuple hq
   exact call_tuple_same pl ⟨.ref p, H, I, rfl, q⟩
def tyV (K : PySem.W.Frag) (T : String) (x : V) (H : Hp) : Prop := match x with
 | .str _ => T = "str"
 | .int _ => T = "int"
 | .ref p => (T = "list" ∧ ∃ xs, SqL K H p xs) ∨ (T = "tuple" ∧ ∃ o, K.lookup p = some o ∧ o.cls = .type "tuple" ∧ o.dict = none) ∨
     (T = "dict" ∧ ((∃ kvs, H p = some (.dK kvs)) ∨ ∃ kvs, H p = some (.dT kvs))) ∨ (T = "set" ∧ ∃ S n, H p = some (.set S n))
 | _ => False
theorem tyV_is {pins : List (Addr × Obj)} {σ : St} {H : Hp} {s : Shared} {T : String} {x : V} {v : Value} (I : Inv X pins σ H s) (r : RelV x v) (ty : tyV X.K T x H) :
   s.TypeIs v T ∧ ∀ a, v = .ref a → ∃ ob, s.heap.get? a = some ob ∧ ob.dict = none := by
 cases x with
 | str z =>
   obtain ⟨t, rfl⟩ := r
   cases (show T = "str" from ty)
   exact ⟨typeIs_str s z t, fun _ e => nomatch e⟩
 | int i =>
   obtain ⟨t, rfl⟩ := r
   cases (show T = "int" from ty)
   exact ⟨typeIs_int s i t, fun _ e => nomatch e⟩
 | ref p =>
   cases r
   rcases ty with ⟨rfl, xs, hq⟩ | ⟨rfl, o, hk, hc, hd⟩ | ⟨rfl, hk⟩ | ⟨rfl, S, n, hk⟩
   · obtain ⟨its, _, pl, _⟩ := I.list hq
     refine ⟨pl.isList.typeIs, fun a e => ?_⟩
     cases e
     obtain ⟨o, n, e, c, hd, _⟩ := pl
     exact ⟨o, e, hd⟩
   · refine ⟨⟨o, I.kIn p o hk, hc⟩, fun a e => ?_⟩
     cases e
     exact ⟨o, I.kIn _ o hk, hd⟩
   · have z : ∃ o, s.heap.get? p = some o ∧ o.ExactDict := by
       rcases hk with ⟨kvs, hk⟩ | ⟨kvs, hk⟩
       · obtain ⟨_, _, _, _, o, _, _, e, ex, _⟩ := I.hok p _ hk
         exact ⟨o, e, ex⟩
       · obtain ⟨_, _, _, _, o, _, _, e, ex, _⟩ := I.hok p _ hk
         exact ⟨o, e, ex⟩
     obtain ⟨o, e, ex⟩ := z
     refine ⟨⟨o, e, ex.1⟩, fun a e2 => ?_⟩
     cases e2
     exact ⟨o, e, ex.2.1⟩
   · obtain ⟨o, _, _, _, e, ex, _⟩ := I.hok p _ hk
     refine ⟨⟨o, e, ex.1⟩, fun a e2 => ?_⟩
     cases e2
     exact ⟨o, e, ex.2.1⟩
 | _ => exact False.elim ty
def tBM (K : PySem.W.Frag) (T : String) (r : V → List V → Hp → VK → Prop) (to : TE) (t : TA) : TE := fun σ H Q => to σ H fun x H1 => tyV K T x H1 ∧ t σ H1 fun xs H2 => r x xs H2 Q
variable {o e : Expr} {es : List Expr} {to : TE} {t : TA} {name : Str} {apos cpos : Pos} {T id : String} {r : V → List V → Hp → VK → Prop}
theorem pe_bm (pa : PlainAttrs T) (slot : Slot T name id) (hty : typeOf (.builtin id) = pure (.type "method_descriptor")) (hm : MtR X id r) (ho : PE X o to) (ha : PA X (e :: es) t)
   (hbase : attributeBase o name X.env (eval o X.env) = eval o X.env := by rfl)
   (hfew : ((backTo cpos (starEach (e :: es) X.env)).all (fun x => !x.1) && (backToKw cpos (keywordEach [] X.env)).all (fun x => x.1.isSome)
     && decide ((e :: es).length + ([] : List Keyword).length + (if ([] : List Keyword).isEmpty then 0 else 1) < 30)) = true := by rfl)
   (hline : (apos.endLine == cpos.line) = true := by rfl) (hs : starEach (e :: es) X.env = (false, eval e X.env) :: starEach es X.env := by rfl) (hplain : (backTo cpos (starEach es X.env)).any (·.1) = false := by rfl) {K : PySem.W.Frag} (eK : X.K = K := by rfl) :
   PE X (.Call (.Attribute o name apos) (e :: es) [] cpos) (tBM K T r to t) := by
 subst eK
 intro pins s σ H Q I h
 refine wpAny_Call_method_late hbase hfew hline rfl (thn (ho pins s σ H _ I h) fun v s1 ⟨x, H1, I1, r1, ty, q1⟩ => ?_)
 obtain ⟨h1, h2⟩ := tyV_is I1 r1 ty
 refine ⟨T, id, pa, slot, hty, h1, h2, ?_⟩
 have hA := ha cpos pins s1 σ H1 _ I1 q1
 rw [hs] at hA ⊢
 refine Calls.callWith_builtin (by show (false || (backTo cpos (starEach es X.env)).any (·.1)) = false; rw [hplain] <;> rfl) (Calls.evalArgs_plain ?_)
 exact thn hA fun us s2 ⟨vs, H2, I2, r2, q2⟩ => hm pins s2 σ H2 x vs v us Q I2 r1 r2 q2
end
end L2
namespace L2
open PySem PySem.Spec PyProof.Rows
def MtM (X : Cx) (id : String) (r : V → List V → Hp → VK → Prop) : Prop :=
 ∀ (pins : List (Addr × Obj)) (s : Shared) (σ : St) (H : Hp) (x : V) (xs : List V) (v : Value) (us : List Value) (Q : VK), Inv X pins σ H s → RelV x v → Vals xs us → r x xs H Q →
   wpAny (model X.prog X.w) X.A (call (.builtin id) (v :: us)) (EP X pins σ Q) X.xe s
theorem Vals.one {x : V} {us : List Value} (h : Vals [x] us) : ∃ u, us = [u] ∧ RelV x u := by
 cases h with
 | cons r t => cases t; exact ⟨_, rfl, r⟩
theorem Vals.rep {xs : List V} {us : List Value} (h : Vals xs us) : ∀ k : Nat, Vals (List.replicate k xs).flatten (List.replicate k us).flatten
 | 0 => .nil
 | k + 1 => by
   rw [List.replicate_succ, List.replicate_succ, List.flatten_cons, List.flatten_cons]
   exact Vals.append h (Vals.rep h k)
theorem foldl_rep (its : List Value) : ∀ (k : Nat) (acc : List Value),
   List.foldl (fun x1 x2 => x1 ++ x2) acc.toArray (List.replicate k its.toArray) = (acc ++ (List.replicate k its).flatten).toArray
 | 0, acc => by simp
 | k + 1, acc => by
   have e : acc.toArray ++ its.toArray = (acc ++ its).toArray := by simp
   have e2 : (acc ++ its) ++ (List.replicate k its).flatten = acc ++ (List.replicate (k + 1) its).flatten := by
     rw [List.replicate_succ, List.flatten_cons, List.append_assoc]
   rw [← e2, ← foldl_rep its k (acc ++ its), ← e, List.replicate_succ, List.foldl_cons]
section
variable {X : Cx} {pins : List (Addr × Obj)} {σ : St} {H : Hp} {s : Shared} {l b : Addr} {xs ys zs : List V}
theorem Inv.lset {its its' : List Value} {n : Nat} {f : Array Value → Array Value} {t' : Nat} (I : Inv X pins σ H s) (hH : H l = some (.lst xs))
   (e : s.heap.get? l = some { cls := .type "list", data := .seq its.toArray n }) (hf : f its.toArray = its'.toArray) (hv : Vals ys its') (hz : ys.length ≤ sizeLine) :
   Inv X pins σ (upd H l (.lst ys)) { s with heap := s.heap.update l (Obj.mapSeq f), toks := t' } := by
 have q := PySem.IsL.update e f
 rw [hf] at q
 refine I.write (x := l) (e := l) (by rw [hH]; exact trivial) (.inl rfl) (fun b' u hb hu => (Heap.get?_update_other s.heap (Obj.mapSeq f) (Ne.symm hb)).trans hu) ⟨_, q⟩ ?_
 exact ⟨hz, its', _, hv, q⟩
theorem Inv.lnew {its : List Value} {t' : Nat} (I : Inv X pins σ H s) (hv : Vals ys its) (hz : ys.length ≤ sizeLine) :
   Inv X pins σ (upd H s.heap.objs.size (.lst ys)) { s with heap := s.heap.push { cls := .type "list", data := .seq its.toArray }, toks := t' } :=
 I.laid (fun _ _ q => Heap.get?_push_of_some _ q) (Nat.le_refl _) ⟨hz, its, 0, hv, Heap.get?_push_size _ rfl⟩
theorem Inv.fresh (I : Inv X pins σ H s) : H s.heap.objs.size = none := I.hok.fresh (Nat.le_refl _)
theorem Inv.lstM (I : Inv X pins σ H s) (hH : H l = some (.lst xs)) : xs.length ≤ sizeLine ∧ ∃ (its : List Value) (n : Nat), Vals xs its ∧ xs.length = its.length ∧ s.heap.get? l = some { cls := .type "list", data := .seq its.toArray n } := by
 obtain ⟨z, its, n, r, e⟩ := I.hok l _ hH
 exact ⟨z, its, n, r, r.length, e⟩
theorem notLongL {n : Nat} (h : n ≤ sizeLine) : Builtin.List.listTooLong n = false := by
 unfold Builtin.List.listTooLong
 exact decide_eq_false (by lia)
end
section
variable {X : Cx}
inductive rAppend (x : V) (vs : List V) (H : Hp) (Q : VK) : Prop
 | mk (l : _) (xs : _) (y : _) (h1 : x = .ref l) (h2 : vs = [y]) (h3 : H l = some (.lst xs)) (h4 : xs.length < sizeLine) (h5 : Q .non (upd H l (.lst (xs ++ [y])))) : rAppend x vs H Q
theorem mt_append : MtM X "list.append" rAppend := by
 intro pins s σ H x vs v us Q I rx rv h
 obtain ⟨l, xs, y, rfl, rfl, hH, hz, q⟩ := h
 cases rx
 obtain ⟨u, rfl, ru⟩ := rv.one
 obtain ⟨z, its, n, r, hl, e⟩ := I.lstM hH
 refine call_meets F.slot_list_append ⟨_, e, rfl⟩ F.entry_list_append (F.args_list_append_2 _ _) (PySem.list_append l its.toArray n u (by rw [List.size_toArray]; lia)) ⟨e, ?_⟩
 refine ⟨.non, _, I.lset (its' := its ++ [u]) hH e (by simp) (r.append (.cons ru .nil)) ?_, rfl, q⟩
 rw [List.length_append, List.length_singleton]
 lia
inductive rCat (x : V) (y : V) (H : Hp) (Q : VK) : Prop
 | mk (l : _) (b : _) (xs : _) (zs : _) (h1 : x = .ref l) (h2 : y = .ref b) (h3 : H l = some (.lst xs)) (h4 : H b = some (.lst zs)) (h5 : xs.length + zs.length ≤ sizeLine) (h6 : ∀ p, H p = none → Q (.ref p) (upd H p (.lst (xs ++ zs)))) : rCat x y H Q
theorem op_cat : OpR X (binaryOp .Add) rCat := by
 intro pins s σ H x y v u Q I rx ry h
 obtain ⟨l, b, xs, zs, rfl, rfl, hH, hB, hz, q⟩ := h
 cases rx
 cases ry
 obtain ⟨z, its, n, r, hl, e⟩ := I.lstM hH
 obtain ⟨z2, its2, n2, r2, hl2, e2⟩ := I.lstM hB
 refine PySem.P.add_list e e2 ?_ (by rw [List.size_toArray, List.size_toArray]; lia)
 have ea : its.toArray ++ its2.toArray = (its ++ its2).toArray := by simp
 rw [ea]
 exact ⟨.ref _, _, I.lnew (t' := s.toks) (r.append r2) (by rw [List.length_append]; lia), rfl, q _ I.fresh⟩
inductive rRep (x : V) (y : V) (H : Hp) (Q : VK) : Prop
 | mk (l : _) (k : _) (xs : _) (h1 : x = .ref l) (h2 : y = .int k) (h3 : H l = some (.lst xs)) (h4 : -(2 ^ 63) ≤ k) (h5 : k < 2 ^ 63) (h6 : xs.length * k.toNat ≤ sizeLine) (h7 : ∀ p, H p = none → Q (.ref p) (upd H p (.lst (List.replicate k.toNat xs).flatten))) : rRep x y H Q
theorem len_rep {α : Type} (xs : List α) (k : Nat) : (List.replicate k xs).flatten.length = k * xs.length := by
 induction k with
 | zero => simp
 | succ k ih => rw [List.replicate_succ, List.flatten_cons, List.length_append, ih, Nat.succ_mul, Nat.add_comm]
theorem op_rep : OpR X (binaryOp .Mult) rRep := by
 intro pins s σ H x y v u Q I rx ry h
 obtain ⟨l, k, xs, rfl, rfl, hH, h1, h2, hz, q⟩ := h
 cases rx
 obtain ⟨t, rfl⟩ := ry
 obtain ⟨z, its, n, r, hl, e⟩ := I.lstM hH
 have hlen : its.toArray.size * k.toNat ≤ sizeLine := by rw [List.size_toArray, ← hl]; exact hz
 have hcap : ¬ its.toArray.size * k.toNat > (2 ^ 63 - 1) / 8 := by
   have : (sizeLine : Nat) ≤ (2 ^ 63 - 1) / 8 := by decide
   lia
 have hfit : ¬ (!Builtin.List.listFitsIndex k) = true := by
   rw [fitsIndex_both h1 h2]
   exact Bool.false_ne_true
 have hlong : ¬ Builtin.List.listTooLong (its.toArray.size * k.toNat) = true := by
   rw [notLongL hlen]
   exact Bool.false_ne_true
 have hnew : List.foldl (fun x1 x2 => x1 ++ x2) #[] (List.replicate (if its.toArray.isEmpty = true then 0 else k.toNat) its.toArray) = (List.replicate k.toNat its).flatten.toArray := by
   have f0 : ∀ m : Nat, List.foldl (fun x1 x2 => x1 ++ x2) #[] (List.replicate m its.toArray) = (List.replicate m its).flatten.toArray := fun m => by
     have := foldl_rep its m []
     rw [List.nil_append] at this
     exact this
   rw [f0]
   cases its with
   | nil => simp
   | cons a r' => rw [if_neg (by simp)]
 refine wpAny_binaryOp_repeat_ref (T := "list") (U := "int") (by decide) ⟨_, e, rfl⟩ (fun s' => typeIs_int s' k t) noFill_list_mul F.fills_int_mul F.slot_int_rmul repeat_list F.slot_int_index.lookup
   (call_meets F.slot_int_rmul (typeIs_int s k t) F.entry_int_rmul (F.args_int_rmul_2 _ _) (int___rmul___int_list k t l its.toArray n)
     ⟨e, rfl, ⟨_, e, rfl⟩, call_meets F.slot_list_mul ⟨_, e, rfl⟩ F.entry_list_mul (F.args_list_mul_2 _ _) (AutoListH.list___mul___list_int_3 l its.toArray n k t hfit hcap hlong) ⟨e, ?_⟩⟩)
 rw [hnew]
 exact ⟨.ref _, _, I.lnew (t' := s.toks) (r.rep k.toNat) (by rw [len_rep, Nat.mul_comm]; exact hz), rfl, q _ I.fresh⟩
end
section
variable {prog : Program} {w : World} {A : Around} {E : Value → Shared → Prop} {s : Shared}
set_option maxRecDepth 100000 in
end
section
variable {X : Cx}
end
end L2
namespace Att
open PySem PySem.W PySem.Calls PyProof.Rows
theorem ints_of_wellAll {P : Params} {h : Heap} : ∀ (ns : List Int) (vs : List Value), WellAll P h vs (ns.map WData.int) → IntsAre vs ns := by
 intro ns
 induction ns with
 | nil =>
   intro vs w
   rw [List.map_nil] at w
   cases w
   exact .nil
 | cons n ns ih =>
   intro vs w
   rw [List.map_cons] at w
   cases w with
   | cons a b =>
     cases a
     exact .cons _ _ (ih _ b)
theorem script_of {l : OpenLaw} {n : Nat} (hn : l.most = some n) {P : Params} {h : Heap} {args : List WData} {vals : List Value}
   (hpre : l.row.toRowW.claim.pre args = true) (hwl : WellAll P h vals args) :
   ∃ a vs ns, vals = [Value.ref a] ∧ args = [WData.list (ns.map WData.int)] ∧ h.get? a = some { cls := .type "list", data := .seq vs.toArray } ∧ IntsAre vs ns ∧ ns.length ≤ n := by
 have hsh : WShape.hasAll [] args [.list .int] = true := (pre_splitW hpre).1
 have hc : l.pre.holds [] { args := args } = true := (pre_splitW hpre).2
 obtain ⟨d, r, rfl, h1, h2⟩ := hasAllW_cons hsh
 obtain rfl := hasAllW_nil h2
 obtain ⟨xs, rfl, h3⟩ := hasW_list h1
 obtain ⟨ns, rfl⟩ := items_int h3
 have hlen : ns.length ≤ n := by
   unfold OpenLaw.pre at hc
   have h4 : (WTm.not (.lt (.lit (.int (n : Int))) (.len (.arg 0)))).holds [] { args := [.list (ns.map .int)] } = true := by
     have h4 := (holds_andW hc).1
     rw [hn] at h4
     exact h4
   have h5 := condW_of h4 (w_not (w_lt w_lit (w_len_list (w_arg rfl))))
   rw [List.length_map] at h5
   refine Nat.le_of_not_lt fun q => ?_
   have q' : (n : Int) < ((ns.length : Nat) : Int) := by lia
   first
     | (rw [decide_eq_true q'] at h5; exact absurd h5 (by decide))
     | (simp at h5; lia)
 cases hwl with
 | cons w1 w2 =>
   cases w2
   cases w1 with
   | list ho hall => exact ⟨_, _, ns, rfl, rfl, ho, ints_of_wellAll ns _ hall, hlen⟩
theorem post_true (l : OpenLaw) (args : List WData) : l.row.toRowW.claim.post args (.bool true) args = true :=
 postW_of (r := l.row.toRowW) (X := (true == true))
   (show WShape.has [] (.bool true) .bool = true by first | rfl | decide | simp [WShape.has, WShape.arms, WShape.armsAll])
   (show (WTm.eq .res (.lit (.bool true))).value [] { args := args, res := some (.bool true), after := args } = some (.bool (true == true)) from w_eq_bool (w_res rfl) w_lit) rfl
theorem attach_call {l : OpenLaw} {n : Nat} {q : Program} {loose : List Str} {XP : (Str → Option Value) → Heap → Prop} {YP : World → Heap → Prop} {d : DefRec}
   (hn : l.most = some n) (hdf : d.params.defaults = [])
   (call : ∀ (w : World) (s₀ s₁ : Shared) (mg mb : Str → Option Value) (fa : Addr) (o : Obj) (pm cd doc : Value) (a : Addr) (vs : List Value) (ns : List Int),
     Ground q loose [] XP w s₀ mg mb s₁.heap → YP w s₁.heap →
     s₁.heap.get? fa = some o → o.data = .func (docDef d.name d.params d.body d.scope pm cd doc) → s₁.heap.CodeRec cd d.name → mg d.name = some (.ref fa) →
     s₁.heap.get? a = some { cls := .type "list", data := .seq vs.toArray } → IntsAre vs ns → ns.length ≤ n → s₁.gens = #[] →
     codeAny (model l.prog w) callerA (.call (.ref fa) ⟨[.ref a], []⟩) (fun r s' => r = .ok (.ret (.bool true)) ∧ OldK s₁.heap s'.heap ∧ s'.os = s₁.os ∧ AllBare s'.gens) s₁) :
   WalkO q loose XP YP l.row.toRowW d [] (fun f vs => PySem.call f vs) := by
 intro w s₀ s₁ mg mb G Y fa o pm cd doc dV kV ho hd hcd hD hmg hg args vals as hpre hlay hrd hwl hlo
 obtain rfl : dV = .none := Dflts.none hD hdf
 obtain rfl : kV = .none := Dflts.noKw hD
 obtain ⟨a, vs, ns, rfl, rfl, hobj, hints, hlen⟩ := script_of hn hpre hwl
 refine enter_call (codeAny_mono (call w s₀ s₁ mg mb fa o pm cd doc a vs ns G Y ho (fd_plain hd) hcd hmg hobj hints hlen hg) fun r s' hq => ?_)
 obtain ⟨rfl, h2, h3, h4⟩ := hq
 exact ⟨.inl ⟨.bool true, .bool true, [], rfl, fun _ => rfl, .bool true, post_true l _, fun _ => ⟨List.Pairwise.nil, fun _ hm => (nomatch hm)⟩⟩, h2, h3, h4⟩
section
variable {prog : Program} {w : World} {A : Around} {E : Value → Shared → Prop} {s : Shared} {K : Frag}
end
end Att
namespace L2
open PySem PySem.Spec PyProof.Rows
theorem vals_ints {vs : List Value} {ns : List Int} (h : IntsAre vs ns) : Vals (ns.map V.int) vs := by
 induction h with
 | nil => exact .nil
 | cons n t h ih => exact .cons ⟨t, rfl⟩ ih
end L2
namespace L2
open PySem PySem.Spec PyProof.Rows
end L2
namespace L2
open PySem PySem.Spec PyProof.Rows
def defArgs (s : Stmt) : Arguments := match s with
 | .FunctionDef _ a _ _ _ _ _ _ _ _ => a
 | _ => { posonlyargs := [], args := [], vararg := none, kwonlyargs := [], kw_defaults := [], kwarg := none, defaults := [] }
def defBody (s : Stmt) : List Stmt := match s with
 | .FunctionDef _ _ b _ _ _ _ _ _ _ => b
 | _ => []
def defScope (s : Stmt) : Scope := match s with
 | .FunctionDef _ _ _ _ _ _ sc _ _ _ => sc
 | _ => { kind := .function, names := [], isGenerator := false, isCoroutine := false }
abbrev CX0 : CXT := fun _ _ _ _ _ _ => False
abbrev E0 : XK := fun _ _ _ => False
theorem pass0 {X : Cx} : Passes CX0 X E0 := fun _ _ _ _ _ _ _ h => h.elim
structure Fun (K : PySem.W.Frag) (x qual : Str) (st : Stmt) (f : Addr) (fd : FuncData) : Prop where
 ex : ∃ (oc : Value) (od : Option Addr) (kV doc pm : Value) (an : Option Addr) (cdv ct : Value) (osl : Array (Option Value)),
   fd = PySem.W.fnOf x qual (defArgs st) (defBody st) (defScope st) .none kV doc pm an cdv ct ∧ K.lookup f = some ⟨oc, od, .func fd, osl⟩ ∧ PySem.W.codeIn K cdv qual = true
 kp : PySem.W.keepIn K (.ref f) = true
section
variable {P : Program} {w : World} {K : PySem.W.Frag} {mg : Str → Option Value} {base : Heap}
theorem Fun.ok {x qual : Str} {st : Stmt} {f : Addr} {fd : FuncData} {N ps : List Str} {k : Nat} {sp : Sp} (F : Fun K x qual st f fd) (S : FnScope N ps (defScope st)) (len : ∀ vs H Q E, sp vs H Q E → vs.length = ps.length)
   (hbody : ∀ (cdv : Value) (A : Around) (outer : List Env) (s : Shared) (H : Hp) (vs : List V) (Q : VK) (E : XK), Room k (A.deeper (envOfC qual (defScope st) s.heap.objs.size f cdv)) → sp vs H Q E →
     ∃ t, PSs (cxOf CX0 P w K mg base N qual (defScope st) f cdv A outer s H E).nox (defBody st) t ∧ t { nx := fun _ H' => Q .non H', rt := Q } (start N vs) H) : FnOk P w K mg base CX0 (k + 1) f fd ps sp := by
 obtain ⟨oc, od, kV, doc, pm, an, cdv, ct, osl, rfl, lk, hcd⟩ := F.ex
 refine fn_of lk hcd S len fun A outer s H vs Q E hr hsp => ?_
 obtain ⟨t, h, q⟩ := hbody cdv A outer s H vs Q E hr hsp
 exact ⟨t, h.nox, q⟩
theorem Fun.binds {x qual : Str} {st : Stmt} {f : Addr} {fd : FuncData} {ps : List Str} (F : Fun K x qual st f fd)
   (h : ∀ (kV doc pm : Value) (an : Option Addr) (cdv ct : Value) (us : List Value), us.length = ps.length → bindArgs (PySem.W.fnOf x qual (defArgs st) (defBody st) (defScope st) .none kV doc pm an cdv ct) ⟨us, []⟩ = pure (ps.zip us)) : Binds K fd ps [] := by
 obtain ⟨oc, od, kV, doc, pm, an, cdv, ct, osl, rfl, lk, hcd⟩ := F.ex
 exact .all (h kV doc pm an cdv ct)
theorem fun_mk {x qual : Str} {st : Stmt} {f : Addr} {oc : Value} {od an : Option Addr} {osl : Array (Option Value)} {kV doc pm cdv ct : Value} (l : K.lookup f = some ⟨oc, od, .func (PySem.W.fnOf x qual (defArgs st) (defBody st) (defScope st) .none kV doc pm an cdv ct), osl⟩)
   (c : PySem.W.codeIn K cdv qual = true) (k : PySem.W.keepIn K (.ref f) = true) : Fun K x qual st f (PySem.W.fnOf x qual (defArgs st) (defBody st) (defScope st) .none kV doc pm an cdv ct) := ⟨⟨oc, od, kV, doc, pm, an, cdv, ct, osl, rfl, l, c⟩, k⟩
end
theorem small1000 {n : Nat} (h : n ≤ 1000) : n < sizeLine := Nat.lt_of_le_of_lt h (by decide)
section
variable {X : Cx}
theorem pv (i : Nat) {x : Str} {pos : Pos} (hN : X.N[i]? = some x := by rfl) (hv : Vis X.env.scope x := by first | exact Or.inl rfl | exact Or.inr (Or.inl rfl) | exact Or.inr (Or.inr rfl)) (hd : (x == ("__debug__" : Str)) = false := by decide)
   (hcd : (x == ("__classdict__" : Str)) = false := by decide) : PE X (.Name x pos) (tVar i) := pe_var hN hv hd hcd
end
theorem iteF {A B : Prop} (h : B) : if false = true then A else B := by
 rw [if_neg Bool.false_ne_true]
 exact h
theorem ite2 {c A B : Prop} [Decidable c] (h1 : c → A) (h2 : ¬ c → B) : if c then A else B := by
 by_cases h : c
 · rw [if_pos h]
   exact h1 h
 · rw [if_neg h]
   exact h2 h
def Same (H H' : Hp) : Prop := ∀ b o, H b = some o → H' b = some o
theorem Same.refl (H : Hp) : Same H H := fun _ _ h => h
theorem Same.trans {H H1 H2 : Hp} (a : Same H H1) (b : Same H1 H2) : Same H H2 := fun c o h => b c o (a c o h)
theorem Same.seq {K : PySem.W.Frag} {H H' : Hp} {a : Addr} {xs : List V} (e : Same H H') (h : SqL K H a xs) : SqL K H' a xs := by
 rcases h with (h | ⟨o, h⟩) | h
 · exact .inl (.inl (e _ _ h))
 · exact .inl (.inr ⟨o, e _ _ h⟩)
 · exact .inr h
end L2
namespace L2
open PySem PySem.Spec PyProof.Rows
section
variable {κ : Type} [DecidableEq κ]
end
theorem kV_is {P : Program} {w : World} {k : Key} {u : Value} (r : RelV (kV k) u) : (mixKind P w).is k u = true := by
 cases k with
 | inl i => obtain ⟨t, e⟩ := (show ∃ t, u = Value.int i t from r); subst e; exact mixKind_int P w i t
 | inr x => obtain ⟨t, e⟩ := (show ∃ t, u = Value.str x t from r); subst e; exact mixKind_str P w x t
theorem items_are {P : Program} {w : World} : ∀ {ks : List Key} {us : List Value}, Vals (ks.map kV) us → ItemsAre (mixKind P w) ks us
 | [], _, r => by rw [List.map_nil] at r; cases r; exact .nil
 | k :: ks, _, r => by
   rw [List.map_cons] at r
   cases r with
   | cons h t => exact .cons (kV_is h) (items_are t)
section
variable {P : Program} {w : World} {H : Hp} {h : Heap} {a : Addr}
end
section
variable {X : Cx} {pins : List (Addr × Obj)} {σ : St} {H : Hp} {s : Shared} {a : Addr} {y v : V} {u r : Value} {o : Option V} {A : Around} {E : Value → Shared → Prop}
end
section
variable {X : Cx} {pins : List (Addr × Obj)} {σ : St} {H : Hp} {s : Shared} {a : Addr} {kvs : List (Key × V)} {k : Key} {u : Value} {A : Around} {E : Value → Shared → Prop}
end
section
variable {X : Cx} {o i e value : Expr} {pos pos' tpos : Pos} {td ty tv : TE}
end
section
variable {X : Cx} {pos : Pos}
end
structure M1 (X : Cx) (o : Expr) (m : Str) (apos : Pos) (e : Expr) (cpos : Pos) : Prop where
 base : attributeBase o m X.env (eval o X.env) = eval o X.env
 few : ((backTo cpos (starEach [e] X.env)).all (fun x => !x.1) && (backToKw cpos (keywordEach [] X.env)).all (fun x => x.1.isSome)
   && decide (([e] : List Expr).length + ([] : List Keyword).length + (if ([] : List Keyword).isEmpty then 0 else 1) < 30)) = true
 line : (apos.endLine == cpos.line) = true
 trees : backTo cpos (starEach [e] X.env) = [(false, eval e X.env)]
structure M2 (X : Cx) (o : Expr) (m : Str) (apos : Pos) (e f : Expr) (cpos : Pos) : Prop where
 base : attributeBase o m X.env (eval o X.env) = eval o X.env
 few : ((backTo cpos (starEach [e, f] X.env)).all (fun x => !x.1) && (backToKw cpos (keywordEach [] X.env)).all (fun x => x.1.isSome)
   && decide (([e, f] : List Expr).length + ([] : List Keyword).length + (if ([] : List Keyword).isEmpty then 0 else 1) < 30)) = true
 line : (apos.endLine == cpos.line) = true
 trees : backTo cpos (starEach [e, f] X.env) = [(false, eval e X.env), (false, eval f X.env)]
section
variable {X : Cx} {pins : List (Addr × Obj)} {σ : St} {H : Hp} {s : Shared} {a : Addr} {y d : V} {u r : Value} {o : Option V} {A : Around} {E : Value → Shared → Prop}
end
section
variable {X : Cx} {o e f : Expr} {apos cpos : Pos} {td ty tx : TE}
end
section
variable {X : Cx} {pins : List (Addr × Obj)} {σ : St} {H : Hp} {s : Shared} {a : Addr} {kvs : List (Key × V)} {A : Around} {E : Value → Shared → Prop}
end
section
variable {X : Cx} {pins : List (Addr × Obj)} {σ : St} {H : Hp} {s : Shared} {a : Addr} {y : V} {u : Value} {A : Around} {E : Value → Shared → Prop}
end
end L2
namespace Nm
def msr (a b : Int) : Int := if b < 0 then -(Int.gcd a b : Int) else (Int.gcd a b : Int)
theorem gcd_pos {a b : Int} (hb : b ≠ 0) : 0 < Int.gcd a b := Nat.pos_of_ne_zero fun h => hb (Int.gcd_eq_zero_iff.mp h).2
theorem msr_ne {a b : Int} (hb : b ≠ 0) : msr a b ≠ 0 := by
 have := gcd_pos (a := a) hb
 unfold msr; split <;> lia
theorem fdiv_neg_dvd {a g : Int} (h : g ∣ a) : a.fdiv (-g) = -(a / g) := by
 obtain ⟨k, rfl⟩ := h
 by_cases hg : g = 0
 · subst hg; simp
 · rw [Int.mul_ediv_cancel_left _ hg, show g * k = -g * -k by rw [Int.neg_mul_neg], Int.mul_fdiv_cancel_left _ (by lia)]
theorem fdiv_dvd {a g : Int} (h : g ∣ a) : a.fdiv g = a / g := by
 obtain ⟨k, rfl⟩ := h
 by_cases hg : g = 0
 · subst hg; simp
 · rw [Int.mul_ediv_cancel_left _ hg, Int.mul_fdiv_cancel_left _ hg]
theorem top_msr {a b : Int} (hb : b ≠ 0) : a.fdiv (msr a b) = (Rat.divInt a b).num := by
 rw [Rat.num_divInt, Int.gcd_comm b a]
 have d : (Int.gcd a b : Int) ∣ a := Int.gcd_dvd_left ..
 unfold msr
 split
 · rename_i h
   rw [fdiv_neg_dvd d, Int.sign_eq_neg_one_of_neg h, Int.neg_mul, Int.one_mul, Int.neg_ediv_of_dvd d]
 · rw [fdiv_dvd d, Int.sign_eq_one_of_pos (by lia), Int.one_mul]
theorem bottom_msr {a b : Int} (hb : b ≠ 0) : b.fdiv (msr a b) = (Rat.divInt a b).den := by
 rw [Rat.den_divInt, if_neg hb, Int.gcd_comm b a]
 have d : (Int.gcd a b : Int) ∣ b := Int.gcd_dvd_right ..
 rw [Int.natCast_ediv]
 unfold msr
 split
 · rename_i h
   rw [fdiv_neg_dvd d, ← Int.neg_ediv_of_dvd d, Int.ofNat_natAbs_of_nonpos (by lia)]
 · rw [fdiv_dvd d, Int.natAbs_of_nonneg (by lia)]
theorem gcd_turn (x y : Int) : Int.gcd y (x % y) = Int.gcd x y := by
 have e : x % y + y * (x / y) = x := Int.emod_add_mul_ediv x y
 have h : Int.gcd (x % y + y * (x / y)) y = Int.gcd (x % y) y := Int.gcd_add_mul_left_left ..
 rw [e] at h
 rw [h, Int.gcd_comm]
theorem abs_if (i : Int) : (if i < 0 then -i else i) = (i.natAbs : Int) := by split <;> lia
theorem num_mul (q : Rat) : ((q.num : Int) : Rat) = q * ((q.den : Int) : Rat) := by
 have hd : ((q.den : Nat) : Int) ≠ 0 := by have := q.den_pos; lia
 have h1 : q = (q.num : Rat) / ((q.den : Int) : Rat) := by
   have := Rat.num_divInt_den q
   rw [Rat.divInt_eq_div] at this
   exact this.symm
 have h0 : (((q.den : Int)) : Rat) ≠ 0 := fun z => hd (by exact_mod_cast z)
 conv => rhs; lhs; rw [h1]
 rw [Rat.div_mul_cancel h0]
theorem den_ne (q : Rat) : ((q.den : Nat) : Int) ≠ 0 := by have := q.den_pos; lia
theorem cast_ne {a : Int} (h : a ≠ 0) : (a : Rat) ≠ 0 := fun z => h (by exact_mod_cast z)
theorem div_eq {t b : Int} {q : Rat} (hb : b ≠ 0) (h : (t : Rat) = q * (b : Rat)) : Rat.divInt t b = q := by
 rw [Rat.divInt_eq_div, h, Rat.mul_div_cancel (cast_ne hb)]
theorem plus_eq (p q : Rat) : Rat.divInt (p.num * q.den + q.num * p.den) (p.den * q.den) = p + q :=
 div_eq (Int.mul_ne_zero (den_ne p) (den_ne q)) (by rw [Rat.intCast_add, Rat.intCast_mul, Rat.intCast_mul, Rat.intCast_mul, num_mul p, num_mul q]; grind)
theorem times_eq (p q : Rat) : Rat.divInt (p.num * q.num) (p.den * q.den) = p * q :=
 div_eq (Int.mul_ne_zero (den_ne p) (den_ne q)) (by rw [Rat.intCast_mul, Rat.intCast_mul, num_mul p, num_mul q]; grind)
theorem pow_add (x : Rat) (m : Nat) : ∀ n : Nat, x ^ (m + n) = x ^ m * x ^ n
 | 0 => by rw [Nat.add_zero, Rat.pow_zero]; grind
 | n + 1 => by rw [← Nat.add_assoc, Rat.pow_succ, Rat.pow_succ, pow_add x m n]; grind
end Nm
namespace Cv
def ev : List Rat → Rat → Rat
 | [], _ => 0
 | q :: r, x => q + x * ev r x
def strip : List Rat → List Rat
 | [] => []
 | q :: r => if strip r = [] ∧ q = 0 then [] else q :: strip r
theorem ev_strip (x : Rat) : ∀ qs, ev (strip qs) x = ev qs x
 | [] => rfl
 | q :: r => by
   have ih := ev_strip x r
   unfold strip
   split
   · rename_i h
     rw [h.1] at ih
     show (0 : Rat) = q + x * ev r x
     rw [← ih, h.2]; show (0 : Rat) = 0 + x * 0; grind
   · show q + x * ev (strip r) x = _
     rw [ih]; rfl
theorem strip_length : ∀ qs, (strip qs).length ≤ qs.length
 | [] => Nat.le_refl _
 | q :: r => by
   have ih := strip_length r
   unfold strip
   split
   · exact Nat.zero_le _
   · exact Nat.succ_le_succ ih
theorem strip_last : ∀ qs, strip qs ≠ [] → (strip qs)[(strip qs).length - 1]? ≠ some 0
 | [], h => absurd rfl h
 | q :: r, h => by
   have ih := strip_last r
   unfold strip at h ⊢
   split at h
   · exact absurd rfl h
   · rename_i hc
     rw [if_neg hc]
     by_cases e : strip r = []
     · rw [e]
       intro z
       have z' : q = 0 := by simpa using z
       exact hc ⟨e, z'⟩
     · have hl : 0 < (strip r).length := List.length_pos_iff.mpr e
       rw [List.length_cons, show (strip r).length + 1 - 1 = ((strip r).length - 1) + 1 by lia, List.getElem?_cons_succ]
       exact ih e
theorem strip_mem : ∀ qs q, q ∈ strip qs → q ∈ qs
 | [], _, h => h
 | p :: r, q, h => by
   unfold strip at h
   split at h
   · cases h
   · rcases List.mem_cons.mp h with e | e
     · exact e ▸ List.mem_cons_self
     · exact List.mem_cons_of_mem _ (strip_mem r q e)
theorem take_strip : ∀ (qs : List Rat) (w : Nat), (∀ j q, w ≤ j → qs[j]? = some q → q = 0) → (w = 0 ∨ ∃ q, qs[w - 1]? = some q ∧ q ≠ 0) → qs.take w = strip qs
 | [], w, _, _ => by simp [strip]
 | p :: r, 0, h, _ => by
   have ih := take_strip r 0 (fun j q _ e => h (j + 1) q (by lia) (by simpa using e)) (.inl rfl)
   have hp : p = 0 := h 0 p (Nat.le_refl _) rfl
   unfold strip
   rw [← ih, if_pos ⟨rfl, hp⟩]; rfl
 | p :: r, w + 1, h, h2 => by
   have hz : ∀ j q, w ≤ j → r[j]? = some q → q = 0 := fun j q hj e => h (j + 1) q (by lia) (by simpa using e)
   by_cases hw : w = 0
   · subst hw
     have ih := take_strip r 0 hz (.inl rfl)
     rcases h2 with z | ⟨q, e, hq⟩
     · exact absurd z (by lia)
     · have e' : p = q := by simpa using e
       subst e'
       unfold strip
       rw [← ih, if_neg (fun z => hq z.2)]; rfl
   · have ih := take_strip r w hz (by
       rcases h2 with z | ⟨q, e, hq⟩
       · exact absurd z (by lia)
       · refine .inr ⟨q, ?_, hq⟩
         rw [show w + 1 - 1 = (w - 1) + 1 by lia, List.getElem?_cons_succ] at e
         exact e)
     have hne : strip r ≠ [] := by
       rw [← ih]
       rcases h2 with z | ⟨q, e, hq⟩
       · exact absurd z (by lia)
       · rw [show w + 1 - 1 = (w - 1) + 1 by lia, List.getElem?_cons_succ] at e
         intro z
         have hl : 0 < (r.take w).length := by
           rw [List.length_take]
           have := (List.getElem?_eq_some_iff.mp e).1
           lia
         rw [z] at hl; simp at hl
     unfold strip
     rw [← ih, if_neg (fun z => hne (by rw [← ih]; exact z.1))]; rfl
def pw : List Rat → Rat → Rat → Rat
 | [], _, _ => 0
 | q :: r, x, p => q * p + pw r x (p * x)
theorem ev_scale (c x : Rat) : ∀ qs, ev (qs.map (· * c)) x = ev qs x * c
 | [] => by show (0 : Rat) = 0 * c; grind
 | q :: r => by
   show q * c + x * ev (r.map (· * c)) x = (q + x * ev r x) * c
   rw [ev_scale c x r]; grind
theorem ev_snoc (x q : Rat) : ∀ l : List Rat, ev (l ++ [q]) x = ev l x + q * x ^ l.length
 | [] => by show q + x * 0 = 0 + q * x ^ 0; rw [Rat.pow_zero]; grind
 | p :: r => by
   show p + x * ev (r ++ [q]) x = (p + x * ev r x) + q * x ^ (r.length + 1)
   rw [ev_snoc x q r, Rat.pow_succ]; grind
theorem strip_zeros : ∀ (qs : List Rat) (n : Nat), strip (qs ++ List.replicate n 0) = strip qs
 | [], 0 => rfl
 | [], n + 1 => by
   have ih := strip_zeros [] n
   show strip (0 :: List.replicate n 0) = []
   unfold strip
   have e : strip (List.replicate n 0) = [] := by simpa [strip] using ih
   rw [if_pos ⟨e, rfl⟩]
 | q :: r, n => by
   have ih := strip_zeros r n
   show strip (q :: (r ++ List.replicate n 0)) = strip (q :: r)
   unfold strip
   rw [ih]
theorem ev_set (x d : Rat) : ∀ (l : List Rat) (i : Nat) (v : Rat), l[i]? = some v → ev (l.set i (v + d)) x = ev l x + d * x ^ i
 | [], _, _, h => by simp at h
 | q :: r, 0, v, h => by
   have e : q = v := by simpa using h
   subst e
   show (q + d) + x * ev r x = (q + x * ev r x) + d * x ^ 0
   rw [Rat.pow_zero]; grind
 | q :: r, i + 1, v, h => by
   show q + x * ev (r.set i (v + d)) x = (q + x * ev r x) + d * x ^ (i + 1)
   rw [ev_set x d r i v (by simpa using h), Rat.pow_succ]; grind
theorem ev_zeros (x : Rat) : ∀ n, ev (List.replicate n 0) x = 0
 | 0 => rfl
 | n + 1 => by
   show (0 : Rat) + x * ev (List.replicate n 0) x = 0
   rw [ev_zeros x n]; grind
def evI (ts : List Int) (x : Rat) : Rat := ev (ts.map fun t : Int => (t : Rat)) x
theorem evI_set (x : Rat) (l : List Int) (i : Nat) (v d : Int) (h : l[i]? = some v) : evI (l.set i (v + d)) x = evI l x + (d : Rat) * x ^ i := by
 unfold evI
 rw [List.map_set, Rat.intCast_add]
 exact ev_set x _ _ i _ (by rw [List.getElem?_map, h]; rfl)
theorem evI_zeros (x : Rat) (n : Nat) : evI (List.replicate n 0) x = 0 := by
 unfold evI
 rw [List.map_replicate]
 exact ev_zeros x n
theorem evI_take_succ (x : Rat) (l : List Int) (i : Nat) (v : Int) (h : l[i]? = some v) : evI (l.take (i + 1)) x = evI (l.take i) x + (v : Rat) * x ^ i := by
 have hi : i < l.length := (List.getElem?_eq_some_iff.mp h).1
 unfold evI
 rw [List.take_add_one, h]
 show ev ((l.take i ++ [v]).map _) x = _
 rw [List.map_append]
 show ev (_ ++ [(v : Rat)]) x = _
 rw [ev_snoc, List.length_map, List.length_take, Nat.min_eq_left (by lia)]
theorem evI_cons (x : Rat) (t : Int) (l : List Int) : evI (t :: l) x = (t : Rat) + x * evI l x := rfl
theorem evI_scale (x : Rat) (c : Int) (l : List Int) : evI (l.map (c * ·)) x = (c : Rat) * evI l x := by
 induction l with
 | nil => show (0 : Rat) = _ * 0; grind
 | cons t l ih => rw [List.map_cons, evI_cons, evI_cons, ih, Rat.intCast_mul]; grind
theorem evI_last (x : Rat) (l : List Int) (t : Int) (h : l[l.length - 1]? = some t) : evI l x = evI (l.take (l.length - 1)) x + (t : Rat) * x ^ (l.length - 1) := by
 have hl : l.length - 1 < l.length := (List.getElem?_eq_some_iff.mp h).1
 have := evI_take_succ x l (l.length - 1) t h
 rw [show l.length - 1 + 1 = l.length by lia, List.take_length] at this
 exact this
def quot (c : Rat) : List Rat → List Rat
 | [] => []
 | [_] => []
 | _ :: b :: l => ev (b :: l) c :: quot c (b :: l)
theorem quot_ev (c x : Rat) : ∀ l : List Rat, ev l x = ev l c + (x - c) * ev (quot c l) x
 | [] => by show (0 : Rat) = 0 + _ * 0; grind
 | [a] => by show a + x * 0 = a + c * 0 + (x - c) * 0; grind
 | a :: b :: l => by
   have h := quot_ev c x (b :: l)
   show a + x * ev (b :: l) x = a + c * ev (b :: l) c + (x - c) * (ev (b :: l) c + x * ev (quot c (b :: l)) x)
   rw [h]; grind
theorem quot_length (c : Rat) : ∀ l : List Rat, (quot c l).length = l.length - 1
 | [] => rfl
 | [_] => rfl
 | _ :: b :: l => by
   show (quot c (b :: l)).length + 1 = _
   rw [quot_length c (b :: l)]
   simp
theorem ev_none (x : Rat) : ∀ l : List Rat, (∀ q ∈ l, q = 0) → ev l x = 0
 | [], _ => rfl
 | a :: l, h => by
   show a + x * ev l x = 0
   rw [h a List.mem_cons_self, ev_none x l fun q hq => h q (List.mem_cons_of_mem _ hq)]
   grind
theorem ident : ∀ (n : Nat) (l : List Rat), l.length ≤ n → ∀ s : Nat, (∀ k : Nat, s ≤ k → ev l (k : Rat) = 0) → ∀ q ∈ l, q = 0
 | 0, l, hl, _, _ => by
   have e : l = [] := List.eq_nil_of_length_eq_zero (by lia)
   rw [e]
   exact fun q h => nomatch h
 | n + 1, [], _, _, _ => fun q h => nomatch h
 | n + 1, a :: t, hl, s, h => by
   have hs := h s (Nat.le_refl _)
   have hq : ∀ q ∈ quot (s : Rat) (a :: t), q = 0 := ident n _ (by rw [quot_length]; simp at hl ⊢; lia) (s + 1) fun k hk => by
     have e := quot_ev (s : Rat) (k : Rat) (a :: t)
     rw [h k (by lia), hs] at e
     have e2 : ((k : Rat) - (s : Rat)) * ev (quot (s : Rat) (a :: t)) (k : Rat) = 0 := by grind
     rcases Rat.mul_eq_zero.mp e2 with z | z
     · have z2 : (k : Rat) = (s : Rat) := by grind
       have z3 : k = s := by exact_mod_cast z2
       lia
     · exact z
   have hall : ∀ x, ev (a :: t) x = 0 := fun x => by
     rw [quot_ev (s : Rat) x (a :: t), hs, ev_none x _ hq]; grind
   have ha : a = 0 := by
     have := hall 0
     show a = 0
     have e : ev (a :: t) 0 = a + 0 * ev t 0 := rfl
     rw [e] at this
     grind
   have ht : ∀ q ∈ t, q = 0 := ident n t (by simp at hl; lia) 1 fun k hk => by
     have e := hall (k : Rat)
     have e1 : ev (a :: t) (k : Rat) = a + (k : Rat) * ev t (k : Rat) := rfl
     rw [e1, ha] at e
     have e2 : (k : Rat) * ev t (k : Rat) = 0 := by grind
     rcases Rat.mul_eq_zero.mp e2 with z | z
     · have z3 : k = 0 := by exact_mod_cast z
       lia
     · exact z
   intro q hq'
   rcases List.mem_cons.mp hq' with z | z
   · rw [z]; exact ha
   · exact ht q z
def dif : List Rat → List Rat → List Rat
 | [], m => m.map (· * (-1))
 | a :: l, m => (a - m.headD 0) :: dif l m.tail
theorem ev_head (x : Rat) (m : List Rat) : ev m x = m.headD 0 + x * ev m.tail x := by
 cases m with
 | nil => show (0 : Rat) = 0 + x * 0; grind
 | cons b m => rfl
theorem dif_ev (x : Rat) : ∀ l m : List Rat, ev (dif l m) x = ev l x - ev m x
 | [], m => by
   show ev (m.map (· * (-1))) x = 0 - ev m x
   rw [ev_scale]; grind
 | a :: l, m => by
   show (a - m.headD 0) + x * ev (dif l m.tail) x = (a + x * ev l x) - ev m x
   rw [dif_ev x l m.tail, ev_head x m]; grind
theorem dif_none : ∀ l m : List Rat, l.length = m.length → (∀ q ∈ dif l m, q = 0) → l = m
 | [], [], _, _ => rfl
 | [], _ :: _, e, _ => nomatch e
 | _ :: _, [], e, _ => nomatch e
 | a :: l, b :: m, e, h => by
   have h1 : a - b = 0 := h _ List.mem_cons_self
   have h2 := dif_none l m (by simpa using e) fun q hq => h q (List.mem_cons_of_mem _ hq)
   rw [h2, show a = b by grind]
theorem same_of (l m : List Rat) (e : l.length = m.length) (h : ∀ x, ev l x = ev m x) : l = m :=
 dif_none l m e (ident _ _ (Nat.le_refl _) 0 fun k _ => by rw [dif_ev, h]; grind)
end Cv
namespace L2
open PySem PySem.Spec PyProof.Rows
theorem closure_ok {env : Env} : ∀ (names : List (Str × NameKind)) (acc : List (Str × Addr)), (∀ x ∈ names, x.2 = .free → ∃ c, env.cells.lookup x.1 = some c) →
   ∃ cl : List (Str × Addr), (forIn (m := Sem) names acc fun x r => do
       if x.2 == .free then pure (ForInStep.yield ((x.1, ← cellOf env x.1) :: r)) else pure (ForInStep.yield r)) = pure cl ∧
     (∀ p ∈ cl, p ∈ acc ∨ env.cells.lookup p.1 = some p.2) ∧ (∀ p ∈ acc, p ∈ cl) ∧ ∀ x ∈ names, x.2 = .free → ∃ c, (x.1, c) ∈ cl
 | [], acc, _ => ⟨acc, rfl, fun _ h => .inl h, fun _ h => h, fun _ h => nomatch h⟩
 | x :: r, acc, h => by
   by_cases hk : x.2 = .free
   · obtain ⟨c, hc⟩ := h x List.mem_cons_self hk
     obtain ⟨cl, e, h1, h2, h3⟩ := closure_ok r ((x.1, c) :: acc) fun y hy => h y (List.mem_cons_of_mem _ hy)
     refine ⟨cl, ?_, fun p hp => ?_, fun p hp => h2 p (List.mem_cons_of_mem _ hp), fun y hy hf => ?_⟩
     · rw [List.forIn_cons]
       have z : (x.2 == NameKind.free) = true := by rw [hk]; rfl
       have cell : cellOf env x.1 = pure c := by unfold cellOf; rw [hc]
       simp only [z, if_true, cell]
       exact e
     · rcases h1 p hp with q | q
       · rcases List.mem_cons.mp q with rfl | q
         · exact .inr hc
         · exact .inl q
       · exact .inr q
     · rcases List.mem_cons.mp hy with rfl | hy
       · exact ⟨c, h2 _ List.mem_cons_self⟩
       · exact h3 y hy hf
   · obtain ⟨cl, e, h1, h2, h3⟩ := closure_ok r acc fun y hy => h y (List.mem_cons_of_mem _ hy)
     refine ⟨cl, ?_, h1, h2, fun y hy hf => ?_⟩
     · rw [List.forIn_cons]
       have z : (x.2 == NameKind.free) = false := by
         cases e : x.2 <;> first | rfl | exact absurd e hk
       simp only [z, Bool.false_eq_true, if_false]
       exact e
     · rcases List.mem_cons.mp hy with rfl | hy
       · exact absurd hf hk
       · exact h3 y hy hf
theorem lookup_of_mem {x : Str} {c : Addr} : ∀ {cl : List (Str × Addr)}, (x, c) ∈ cl → ∃ c', cl.lookup x = some c'
 | [], h => nomatch h
 | (y, d) :: r, h => by
   by_cases e : x = y
   · subst e; exact ⟨d, by simp⟩
   · rcases List.mem_cons.mp h with q | q
     · cases q; exact absurd rfl e
     · obtain ⟨c', q'⟩ := lookup_of_mem q
       refine ⟨c', ?_⟩
       have : (x == y) = false := by simpa using e
       rw [List.lookup_cons, this]
       exact q'
theorem closureFor_ok {scope : Scope} {env : Env} (h : ∀ x ∈ scope.names, x.2 = .free → ∃ c, env.cells.lookup x.1 = some c) :
   ∃ cl : List (Str × Addr), closureFor scope env = pure cl ∧ (∀ x c, cl.lookup x = some c → env.cells.lookup x = some c) ∧ ∀ x ∈ scope.names, x.2 = .free → ∃ c, cl.lookup x.1 = some c := by
 obtain ⟨cl, e, h1, _, h3⟩ := closure_ok scope.names [] h
 refine ⟨cl, ?_, fun x c q => ?_, fun x hx hf => ?_⟩
 · unfold closureFor
   simp only [bind_pure]
   exact e
 · rcases h1 _ (PySem.mem_of_lookup q) with z | z
   · exact nomatch z
   · exact z
 · obtain ⟨c, hc⟩ := h3 x hx hf
   exact lookup_of_mem hc
theorem lookup_relabel_free {env : Env} : ∀ {names : List (Str × NameKind)} {x : Str}, names.lookup x = some .free →
   (names.map fun (n, k) => if (k == NameKind.free && env.scope.kind == .function && env.kindOf n == some .cell) then (n, NameKind.cell) else (n, k)).lookup x = some .cell ∨
   (names.map fun (n, k) => if (k == NameKind.free && env.scope.kind == .function && env.kindOf n == some .cell) then (n, NameKind.cell) else (n, k)).lookup x = some .free
 | [], _, h => by simp at h
 | (n, k) :: r, x, h => by
   have ih := @lookup_relabel_free env r x
   show List.lookup x ((if (k == NameKind.free && env.scope.kind == .function && env.kindOf n == some .cell) = true then (n, NameKind.cell) else (n, k)) :: _) = _ ∨ List.lookup x ((if (k == NameKind.free && env.scope.kind == .function && env.kindOf n == some .cell) = true then (n, NameKind.cell) else (n, k)) :: _) = _
   cases hx : x == n with
   | true =>
     simp only [List.lookup_cons, hx] at h
     cases h
     by_cases hc : (NameKind.free == NameKind.free && env.scope.kind == .function && env.kindOf n == some .cell) = true
     · rw [if_pos hc]; simp [List.lookup_cons, hx]
     · rw [if_neg hc]; simp [List.lookup_cons, hx]
   | false =>
     simp only [List.lookup_cons, hx] at h
     by_cases hc : (k == NameKind.free && env.scope.kind == .function && env.kindOf n == some .cell) = true
     · rw [if_pos hc]; simp only [List.lookup_cons, hx]; exact ih h
     · rw [if_neg hc]; simp only [List.lookup_cons, hx]; exact ih h
theorem relabel_free {env : Env} {x : Str} : ∀ {names : List (Str × NameKind)}, (∀ y ∈ names, y.2 ≠ .cell) →
   ((names.map fun (n, k) => if (k == NameKind.free && env.scope.kind == .function && env.kindOf n == some .cell) then (n, NameKind.cell) else (n, k)).lookup x = some .cell ∨
    (names.map fun (n, k) => if (k == NameKind.free && env.scope.kind == .function && env.kindOf n == some .cell) then (n, NameKind.cell) else (n, k)).lookup x = some .free) → (x, NameKind.free) ∈ names
 | [], _, h => by simp at h
 | (n, k) :: r, hc, h => by
   have ih := @relabel_free env x r fun y hy => hc y (List.mem_cons_of_mem _ hy)
   have hk : k ≠ .cell := hc (n, k) List.mem_cons_self
   change List.lookup x ((if (k == NameKind.free && env.scope.kind == .function && env.kindOf n == some .cell) = true then (n, NameKind.cell) else (n, k)) :: _) = _ ∨ List.lookup x ((if (k == NameKind.free && env.scope.kind == .function && env.kindOf n == some .cell) = true then (n, NameKind.cell) else (n, k)) :: _) = _ at h
   cases hx : x == n with
   | true =>
     have e : x = n := by simpa using hx
     subst e
     by_cases hq : (k == NameKind.free && env.scope.kind == .function && env.kindOf x == some .cell) = true
     · have : k = .free := by
         cases k <;> first | rfl | (simp at hq)
       subst this; exact List.mem_cons_self
     · rw [if_neg hq] at h
       simp only [List.lookup_cons, hx] at h
       rcases h with h | h
       · cases h; exact absurd rfl hk
       · cases h; exact List.mem_cons_self
   | false =>
     refine List.mem_cons_of_mem _ (ih ?_)
     by_cases hq : (k == NameKind.free && env.scope.kind == .function && env.kindOf n == some .cell) = true
     · rw [if_pos hq] at h; simpa only [List.lookup_cons, hx] using h
     · rw [if_neg hq] at h; simpa only [List.lookup_cons, hx] using h
def cxComp (X : Cx) (N : List Str) (scope : Scope) (cl : List (Str × Addr)) (C : Addr) (s : Shared) (H : Hp) (fp : List Addr) : Cx :=
 { prog := X.prog, w := X.w, K := X.K, mg := X.mg, base := X.base, A := X.A, N := N, s₀ := s, H₀ := H, env := compEnvC scope cl C X.env, outer := X.stack, stack := X.stack, ex := fp,
   fn := fun _ => false, calm := X.calm, pn := [], xe := fun _ _ => False }
def cS (nt : Nat) (js : List Nat) (σ : St) : St := List.replicate nt none ++ js.map fun i => σ.getD i none
abbrev lstO (ys : List Value) : Obj := { cls := .type "list", data := .seq ys.toArray ys.length }
theorem compLoop_any {prog : Program} {w : World} {A : Around} {R : Result → Shared → Prop} {s : Shared} {elt target iter : Expr} {ifs : List Expr} {scope : Scope} {pos : Pos} {it acc : Value} {env : Env} (I : Nat → Shared → Prop)
   (turn : ∀ n s, I n s → wpAny (model prog w) A (pyNext it) (fun r s₁ => match r with
     | none => R (.ok .next) s₁
     | some v => wpAny (model prog w) A (letOwnedTupleGo target it v) (fun _ s₁' => wpAny (model prog w) A (assign target env v) (fun _ s₂ =>
         wpAny (model prog w) A (forIn ifs true fun c r => if r = true then do let ok ← isTrue c env (eval c env); pure (ForInStep.yield ok) else pure (ForInStep.yield r)) (fun ok s₃ =>
           if ok = true then wpAny (model prog w) A (eval elt env) (fun x s₄ =>
             wpAny (model prog w) A (call (.builtin "list.append") [acc, x]) (fun _ s₅ => ∃ m, m < n ∧ I m s₅) (fun _ _ => False) s₄) (fun _ _ => False) s₃
           else ∃ m, m < n ∧ I m s₃) (fun _ _ => False) s₂) (fun _ _ => False) s₁') (fun _ _ => False) s₁) (fun _ _ => False) s)
   (n : Nat) (h : I n s) :
   codeAny (model prog w) A (.compLoop (.ListComp elt [⟨target, iter, ifs, 0⟩] scope pos) 0 it acc env) R s := by
 refine codeAny_loop rfl I (fun n s hI => ?_) n h
 show wpAny _ A ((compTurn (.ListComp elt [⟨target, iter, ifs, 0⟩] scope pos) 0 it acc env).onRaise (fun x => do noteFrame x env; theTreesLotGoes x)) _ _ s
 refine wpAny_noted ?_
 rw [compTurn_list]
 refine wpAny_bind (wpAny_standAt (wpAny_bind (wpAny_mono (turn n s hI) (fun r s₁ h₁ => ?_) fun _ _ h' => h'.elim)))
 cases r with
 | none => exact wpAny_pure h₁
 | some v =>
   refine wpAny_bind (wpAny_mono h₁ (fun _ s₁' h₁' => ?_) fun _ _ h' => h'.elim)
   refine wpAny_bind (wpAny_mono h₁' (fun _ s₂ h₂ => wpAny_bind (wpAny_mono h₂ (fun ok s₃ h₃ => ?_) fun _ _ h' => h'.elim)) fun _ _ h' => h'.elim)
   cases ok with
   | false => exact wpAny_pure ⟨rfl, h₃⟩
   | true =>
     exact wpAny_bind (wpAny_bind (wpAny_mono h₃ (fun x s₄ h₄ => wpAny_bind (wpAny_mono h₄ (fun _ s₅ h₅ => wpAny_pure (wpAny_pure ⟨rfl, h₅⟩)) fun _ _ h' => h'.elim)) fun _ _ h' => h'.elim))
def PTs (X : Cx) (ifs : List Expr) (t : TT) : Prop :=
 ∀ (pins : List (Addr × Obj)) (s : Shared) (σ : St) (H : Hp) (Q : Bool → Hp → Prop), Inv X pins σ H s → t σ H Q →
   wpAny (model X.prog X.w) X.A (forIn ifs true fun c r => if r = true then do let ok ← isTrue c X.env (eval c X.env); pure (ForInStep.yield ok) else pure (ForInStep.yield r)) (TP X pins σ Q) X.xe s
def tYes : TT := fun _ H Q => Q true H
theorem pts_nil {X : Cx} : PTs X [] tYes := fun _ _ _ H _ I h => wpAny_tests_nil ⟨H, I, h⟩
theorem pts_one {X : Cx} {c : Expr} {t : TT} (h : PT X c t) : PTs X [c] t := fun pins s σ H Q I q => wpAny_tests_one (h pins s σ H Q I q)
structure LcW (J : It) (n nt : Nat) (js : List Nat) (σ : St) (g : TG) (tc : TT) (te : TE) (Fin : List V → Hp → Prop) (W : Nat → List V → Hp → Prop) : Prop where
 go : ∀ i zs H, i < n → W i zs H → J.go i H ∧ zs.length < sizeLine
 step : ∀ i zs H x H', i < n → W i zs H → J.yld i H x H' → g x (cS nt js σ) H' fun σ2 H2 => tc σ2 H2 fun b H3 => if b = true then te σ2 H3 fun y H4 => W (i + 1) (zs ++ [y]) H4 else W (i + 1) zs H3
 stop : ∀ zs H, W n zs H → J.stop n H ∧ zs.length ≤ sizeLine ∧ Fin zs H
@[irreducible] def tLC (wi : TI) (nt : Nat) (js : List Nat) (g : TG) (tc : TT) (te : TE) : TE := fun σ H Q => wi σ H fun J H1 =>
 ∃ (n : Nat) (W : Nat → List V → Hp → Prop), W 0 [] H1 ∧ LcW J n nt js σ g tc te (fun zs H' => ∀ p, H' p = none → Q (.ref p) (upd H' p (.lst zs))) W
theorem lc_of {wi : TI} {nt : Nat} {js : List Nat} {g : TG} {tc : TT} {te : TE} {σ : St} {H : Hp} {Q : VK}
   (h : wi σ H fun J H1 => ∃ (n : Nat) (W : Nat → List V → Hp → Prop), W 0 [] H1 ∧ LcW J n nt js σ g tc te (fun zs H' => ∀ p, H' p = none → Q (.ref p) (upd H' p (.lst zs))) W) : tLC wi nt js g tc te σ H Q := by
 unfold tLC; exact h
theorem lc_to {wi : TI} {nt : Nat} {js : List Nat} {g : TG} {tc : TT} {te : TE} {σ : St} {H : Hp} {Q : VK} (h : tLC wi nt js g tc te σ H Q) :
   wi σ H fun J H1 => ∃ (n : Nat) (W : Nat → List V → Hp → Prop), W 0 [] H1 ∧ LcW J n nt js σ g tc te (fun zs H' => ∀ p, H' p = none → Q (.ref p) (upd H' p (.lst zs))) W := by
 unfold tLC at h; exact h
structure CompOk (X : Cx) (N : List Str) (nt : Nat) (js : List Nat) (scope : Scope) : Prop where
 kind : scope.kind = .function
 nocell : ∀ y ∈ scope.names, y.2 ≠ .cell
 names : ∀ y ∈ scope.names, y.2 = .local → scope.names.lookup y.1 = some .local
 free : ∀ y ∈ scope.names, y.2 = .free → X.env.kindOf y.1 = some .cell ∨ X.env.kindOf y.1 = some .free
 len : N.length = nt + js.length
 outer : ∀ j i, js[j]? = some i → ∃ x, N[nt + j]? = some x ∧ X.N[i]? = some x ∧ scope.names.lookup x = some .free
def compOkB (NX : List Str) (sc : Scope) (N : List Str) (nt : Nat) (js : List Nat) (scope : Scope) : Bool :=
 decide (scope.kind = .function) && scope.names.all (fun y => decide (y.2 ≠ .cell)) && scope.names.all (fun y => decide (y.2 ≠ .local) || decide (scope.names.lookup y.1 = some .local)) &&
 scope.names.all (fun y => decide (y.2 ≠ .free) || (decide (sc.names.lookup y.1 = some .cell) || decide (sc.names.lookup y.1 = some .free))) && decide (N.length = nt + js.length) &&
 (List.range js.length).all fun j => match js[j]?, N[nt + j]? with
   | some i, some x => decide (NX[i]? = some x) && decide (scope.names.lookup x = some .free)
   | _, _ => false
theorem CompOk.look {X : Cx} {NX N : List Str} {sc scope : Scope} {nt : Nat} {js : List Nat} (hN : X.N = NX) (hs : X.env.scope = sc) (h : compOkB NX sc N nt js scope = true) : CompOk X N nt js scope := by
 unfold compOkB at h
 simp only [Bool.and_eq_true, List.all_eq_true, Bool.or_eq_true, decide_eq_true_eq] at h
 obtain ⟨⟨⟨⟨⟨h1, h2⟩, h3⟩, h4⟩, h5⟩, h6⟩ := h
 refine ⟨h1, h2, fun y hy hl => (h3 y hy).resolve_left fun z => z hl, fun y hy hf => ?_, h5, fun j i e => ?_⟩
 · have q := (h4 y hy).resolve_left fun z => z hf
   rw [← hs] at q
   exact q
 · have hj : j < js.length := (List.getElem?_eq_some_iff.mp e).1
   have q := h6 j (List.mem_range.mpr hj)
   rw [e] at q
   cases en : N[nt + j]? with
   | none => rw [en] at q; cases q
   | some x =>
     rw [en] at q
     simp only [Bool.and_eq_true, decide_eq_true_eq] at q
     exact ⟨x, rfl, by rw [hN]; exact q.1, q.2⟩
section
variable {X : Cx} {N : List Str} {nt : Nat} {js : List Nat} {scope : Scope} {cl : List (Str × Addr)}
theorem HOk.track {P : Program} {w : World} {H : Hp} {h : Heap} {a : Addr} {o : HO} (x : HOk P w H h) (hn : H a = none) (new : ObjOk P w (upd H a o) h a o) : HOk P w (upd H a o) h := fun b u e => by
 by_cases hb : b = a
 · subst hb; rw [upd_same] at e; cases e; exact new
 · rw [upd_ne hb] at e
   exact (x b u e).stay (fun c v _ q => q) (fun c q => by rw [upd_ne (ne_of_none q hn)]; exact q) fun c xs q => by rw [upd_ne (ne_of_none q hn)]; exact q
theorem inv_comp {pins : List (Addr × Obj)} {σ : St} {H : Hp} {s : Shared} {C D : Addr} {h' : Heap} {tk : Nat} {fp : List Addr} {m : Str → Option Value} (I : Inv X pins σ H s) (ok : CompOk X N nt js scope)
   (hcl : ∀ x c, cl.lookup x = some c → X.env.cells.lookup x = some c) (hcl2 : ∀ x ∈ scope.names, x.2 = .free → ∃ c, cl.lookup x.1 = some c)
   (hf : ∀ b ∈ fp, FpOk X pins H b) (ho : ∀ b ∈ fp, ∃ o, s.heap.get? b = some o ∧ ∀ v, o.data ≠ .cell v)
   (hD : s.heap.objs.size ≤ D) (hC : s.heap.objs.size ≤ C) (hDC : D ≠ C) (k : ∀ b o, s.heap.get? b = some o → h'.get? b = some o) (hn : h'.Ns C m) (hd : h'.get? D = some (lstO [])) :
   Inv (cxComp X N scope cl C s H fp) [(D, lstO [])] (cS nt js σ) H { s with heap := h', toks := tk } := by
 have lt : ∀ b ∈ fp, b < s.heap.objs.size := fun b hb => by obtain ⟨o, e, _⟩ := ho b hb; exact Heap.lt_size e
 have frlt : ∀ b ∈ frs X.stack, b < s.heap.objs.size := fun b hb => by
   obtain ⟨_, o, e, _⟩ := I.stack.mem hb
   exact Heap.lt_size e
 refine ⟨⟨I.ok.mod, ok.kind, I.ok.glob, I.ok.blt, hC, fun x y c h1 h2 => I.ok.inj x y c (hcl x c h1) (hcl y c h2), fun x hx => ?_, fun x c hx => absurd hx Bool.false_ne_true, I.ok.hd, I.ok.frames, .inl rfl, fun b hb => ⟨?_, fun x c e => (hf b hb).2.2.2.2.1 x c (hcl x c e)⟩, I.bs,
     Nat.le_trans I.ok.bsz I.sz, fun b o e hb => ?_, fun b hb hs => ?_, I.stack, I.stkFree⟩, rfl, I.bare, Un.kept k, ⟨m, hn, fun j x v h1 h2 h3 => ?_⟩, fun x c e => ?_, I.hok.fresh hC, fun x c e => I.freeC x c (hcl x c e), fun p hp => ?_, I.hok.kept k, ?_⟩
 · obtain ⟨c, hc⟩ := hcl2 (x, .free) (relabel_free ok.nocell hx) rfl
   exact ⟨c, hc⟩
 · exact Nat.ne_of_lt (Nat.lt_of_lt_of_le (lt b hb) hC)
 · rcases (hf b hb).2.2.2.1 with z | z
   · exact I.ok.noex b o e z
   · exact absurd (Nat.lt_of_lt_of_le (Heap.lt_size e) (Nat.le_trans I.ok.bsz z)) (Nat.lt_irrefl _)
 · rcases List.mem_cons.mp (I.stkSub b hs) with z | z
   · exact (hf b hb).2.1 z
   · exact (hf b hb).2.2.1 z
 · change N[j]? = some x at h1
   unfold cS at h2
   by_cases hj : j < nt
   · rw [List.getElem?_append_left (by simpa using hj), List.getElem?_replicate] at h2
     rw [if_pos hj] at h2; cases h2
   · rw [List.getElem?_append_right (by simpa using Nat.not_lt.mp hj), List.length_replicate, List.getElem?_map] at h2
     cases ei : js[j - nt]? with
     | none => rw [ei] at h2; cases h2
     | some i =>
       rw [ei] at h2
       obtain ⟨y, e1, e2, e3⟩ := ok.outer _ i ei
       rw [show nt + (j - nt) = j by lia, h1] at e1
       cases e1
       have hv : σ[i]? = some (some v) := by
         simp only [Option.map_some, Option.some.injEq] at h2
         rw [List.getD_eq_getElem?_getD] at h2
         cases eσ : σ[i]? with
         | none => rw [eσ] at h2; cases h2
         | some z => rw [eσ] at h2; simp at h2; rw [h2]
       obtain ⟨m₀, _, hl⟩ := I.loc
       have kf := ok.free (x, .free) (PySem.mem_of_lookup e3) rfl
       obtain ⟨u, r, l⟩ := hl i x v e2 hv (kf.elim (fun z => .inr (.inl z)) fun z => .inr (.inr z))
       refine ⟨u, r, .inr ⟨lookup_relabel_free e3, ?_⟩⟩
       rcases l with ⟨kl, _⟩ | ⟨_, c, ec, ⟨oc, hoc, hod⟩⟩
       · rcases kf with z | z <;> (rw [z] at kl; cases kl)
       · obtain ⟨c', hc'⟩ := hcl2 (x, .free) (PySem.mem_of_lookup e3) rfl
         have e' := hcl x c' hc'
         rw [ec] at e'
         cases e'
         exact ⟨c, hc', oc, k _ _ hoc, hod⟩
 · obtain ⟨v, oc, hoc, hod⟩ := I.cell x c (hcl x c e)
   exact ⟨v, oc, k _ _ hoc, hod⟩
 · have e : p = (D, lstO []) := by
     have hp' : p ∈ [(D, lstO [])] := hp
     simpa using hp'
   subst e
   refine ⟨hd, I.hok.fresh hD, hDC, fun hb => absurd (Nat.lt_of_lt_of_le (frlt D hb) hD) (Nat.lt_irrefl _), fun v z => by cases z⟩
 · show (cS nt js σ).length = N.length
   unfold cS
   rw [List.length_append, List.length_replicate, List.length_map, ok.len]
end
end L2
namespace L2
open PySem PySem.Spec PyProof.Rows
def Stays (g : TG) (nt : Nat) : Prop := ∀ x σ H Q, g x σ H Q → g x σ H fun σ2 H2 => (σ2.length = σ.length ∧ σ2.drop nt = σ.drop nt) ∧ Q σ2 H2
theorem stays_name {i nt : Nat} (h : i < nt) : Stays (gName i) nt := fun x σ H Q q => ⟨⟨List.length_set, by
 apply List.ext_getElem?
 intro k
 rw [List.getElem?_drop, List.getElem?_drop, List.getElem?_set_ne (by lia)]⟩, q⟩
section
variable {X : Cx} {N : List Str} {nt : Nat} {js : List Nat} {scope : Scope} {elt iter tg : Expr} {ifs : List Expr} {pos : Pos} {g : TG} {tc : TT} {te : TE} {wi : TI}
theorem cS_weak {σ σ2 : St} (hl : σ2.length = (cS nt js σ).length) (hd : σ2.drop nt = (cS nt js σ).drop nt) : ∀ (i : Nat) v, (cS nt js σ)[i]? = some (some v) → σ2[i]? = some (some v) := fun i v e => by
 by_cases hi : i < nt
 · unfold cS at e
   rw [List.getElem?_append_left (by simpa using hi), List.getElem?_replicate, if_pos hi] at e
   cases e
 · have q : ((cS nt js σ).drop nt)[i - nt]? = some (some v) := by rw [List.getElem?_drop, show nt + (i - nt) = i by lia]; exact e
   rw [← hd, List.getElem?_drop, show nt + (i - nt) = i by lia] at q
   exact q
set_option maxHeartbeats 4000000 in
theorem comp_run {pins : List (Addr × Obj)} {σ : St} {H : Hp} {s₂ : Shared} {cl : List (Str × Addr)} {J : It} {fp : List Addr} {it : Addr} {tn : Nat → Heap → Prop} {E : Value → Shared → Prop} {Fin : List V → Hp → Prop} {W : Nat → List V → Hp → Prop} {nn : Nat}
   {RR : Value → Addr → Result → Shared → Prop} (hcalm : X.calm = true) (ok : CompOk X N nt js scope)
   (hcl : ∀ x c, cl.lookup x = some c → X.env.cells.lookup x = some c) (hcl2 : ∀ x ∈ scope.names, x.2 = .free → ∃ c, cl.lookup x.1 = some c)
   (hg : ∀ cl C s H fp, PG (cxComp X N scope cl C s H fp) tg g) (hk : Stays g nt) (hc : ∀ cl C s H fp, PTs (cxComp X N scope cl C s H fp) ifs tc) (he : ∀ cl C s H fp, PE (cxComp X N scope cl C s H fp) elt te)
   (I : Inv X pins σ H s₂) (T : Turn X.prog X.w X.K tg J fp it tn) (st : tn 0 s₂.heap) (hf : ∀ b ∈ fp, FpOk X pins H b) (w0 : W 0 [] H) (lw : LcW J nn nt js σ g tc te Fin W)
   (hRR : ∀ D C s' H' zs m, Inv X pins σ (upd H' D (.lst zs)) s' → s'.heap.Ns C m → H' D = none → (upd H' D (.lst zs)) C = none → C ≠ X.env.locals → X.s₀.heap.objs.size ≤ C → (∀ x c, X.env.cells.lookup x = some c → c ≠ C) →
     (∀ p ∈ X.pn ++ pins, p.1 ≠ C) → Fin zs H' → RR (.ref D) C (.ok .next) s') :
   wpAny (model X.prog X.w) X.A (newList []) (fun acc s₃ => wpAny (model X.prog X.w) X.A (newFunctionEnv scope X.env.globals cl [] X.env.qual none .none (some X.env)) (fun cenv s₄ =>
     codeAny (model X.prog X.w) X.A (.compStart (.ListComp elt [⟨tg, iter, ifs, 0⟩] scope pos) 0 (.ref it) acc { cenv with scope := relabel scope X.env }) (RR acc cenv.locals) s₄) E s₃) E s₂ := by
 refine wpAny_newObj_type (wpAny_newFunctionEnv ok.nocell (by intro y hy; simp at hy) (fun h₁ hns₁ hsb₁ => ?_) ok.kind)
 dsimp only at hns₁ hsb₁ ⊢
 generalize hH2 : s₂.heap.push { cls := .type "list", dict := none, data := .seq ([] : List Value).toArray } = H2 at hns₁ hsb₁ ⊢
 have hC : H2.objs.size = s₂.heap.objs.size + 1 := by rw [← hH2, Heap.size_push]
 have hDC : s₂.heap.objs.size ≠ H2.objs.size := by rw [hC]; exact Nat.ne_of_lt (Nat.lt_succ_self _)
 have hCle : s₂.heap.objs.size ≤ H2.objs.size := by rw [hC]; exact Nat.le_succ _
 have below : ∀ b, b < s₂.heap.objs.size → b ≠ H2.objs.size ∧ b ≠ s₂.heap.objs.size := fun b hb => ⟨by rw [hC]; exact Nat.ne_of_lt (Nat.lt_succ_of_lt hb), Nat.ne_of_lt hb⟩
 have old : ∀ b o, s₂.heap.get? b = some o → h₁.get? b = some o := fun b o e => hsb₁.extBut b o (below b (Heap.lt_size e)).1 (Heap.get?_push_of_some _ (hH2 ▸ Heap.get?_push_of_some _ e))
 have hacc : h₁.get? s₂.heap.objs.size = some (lstO []) := hsb₁.extBut _ _ hDC (Heap.get?_push_of_some _ (hH2 ▸ Heap.get?_push_size _ rfl))
 have ho := T.obj 0 _ st
 have lt : ∀ b ∈ fp, b < s₂.heap.objs.size := fun b hb => by obtain ⟨o, e, _⟩ := ho b hb; exact Heap.lt_size e
 have loop : ∀ s₃ : Shared, s₃ = { s₂ with heap := h₁, toks := s₂.toks + ([] : List (Str × Value)).length } →
     codeAny (model X.prog X.w) X.A (.compLoop (.ListComp elt [⟨tg, iter, ifs, 0⟩] scope pos) 0 (.ref it) (.ref s₂.heap.objs.size) (compEnvC scope cl H2.objs.size X.env)) (RR (.ref s₂.heap.objs.size) H2.objs.size) s₃ := by
   rintro s₃ rfl
   have I0 : Inv (cxComp X N scope cl H2.objs.size s₂ H fp) [(s₂.heap.objs.size, lstO [])] (cS nt js σ) H { s₂ with heap := h₁, toks := s₂.toks + ([] : List (Str × Value)).length } :=
     inv_comp I ok hcl hcl2 hf ho (Nat.le_refl _) hCle hDC old hns₁ hacc
   have fpy : ∀ {H' : Hp} {ys : List Value}, (∀ b ∈ fp, H' b = none) → ∀ b ∈ fp, FpOk (cxComp X N scope cl H2.objs.size s₂ H fp) [(s₂.heap.objs.size, lstO ys)] H' b := fun {H' ys} hn b hb =>
     ⟨hn b hb, (below b (lt b hb)).1, I0.ok.exfs b hb, .inl hb, (I0.ok.exf b hb).2, fun p hp => by
       have hp' : p ∈ [(s₂.heap.objs.size, lstO ys)] := hp
       have e : p = (s₂.heap.objs.size, lstO ys) := by simpa using hp'
       rw [e]; exact Ne.symm (below b (lt b hb)).2⟩
   refine compLoop_any (fun n s' => ∃ i zs ys H', n = nn - i ∧ i ≤ nn ∧ Inv (cxComp X N scope cl H2.objs.size s₂ H fp) [(s₂.heap.objs.size, lstO ys)] (cS nt js σ) H' s' ∧ Vals zs ys ∧ tn i s'.heap ∧ (∀ b ∈ fp, H' b = none) ∧ W i zs H') ?_ nn
     ⟨0, [], [], H, rfl, Nat.zero_le _, I0, .nil, T.keep 0 _ _ st (fun b _ o e => old b o e), fun b hb => (hf b hb).1, w0⟩
   rintro n s' ⟨i, zs, ys, H', hn0, hile, I', rv, st', fr', w'⟩
   by_cases hlt : i < nn
   case neg =>
     have hie : i = nn := Nat.le_antisymm hile (Nat.not_lt.mp hlt)
     rw [hie] at w' st'
     obtain ⟨stop, zl, fin⟩ := lw.stop zs H' w'
     refine thn (T.done (cxComp X N scope cl H2.objs.size s₂ H fp) rfl rfl rfl hcalm nn _ s' _ H' (fun _ _ => False) I' (fpy fr') st' stop) fun r s4 ⟨hr, I4⟩ => ?_
     subst hr
     have zD := (I4.pin (s₂.heap.objs.size, lstO ys) (List.mem_append_right _ (List.mem_singleton.mpr rfl)))
     have u := I4.base
     have u2 : Un (frs X.stack) fp H (upd H' s₂.heap.objs.size (.lst zs)) s₂.heap s4.heap :=
       ⟨u.keep, u.slot, fun b o q n hx => by rw [upd_ne (Nat.ne_of_lt (Heap.lt_size q))]; exact u.free b o q n hx, u.there, fun b xs q => by rw [upd_ne (ne_of_none (u.tups b xs q) zD.2.1)]; exact u.tups b xs q,
        fun b o xs q => by rw [upd_ne (ne_of_none (u.frzs b o xs q) zD.2.1)]; exact u.frzs b o xs q, fun b ps q => by
          obtain ⟨more, e⟩ := u.tbls b ps q
          exact ⟨more, by rw [upd_ne (ne_of_none e zD.2.1)]; exact e⟩⟩
     have hok2 : HOk X.prog X.w (upd H' s₂.heap.objs.size (.lst zs)) s4.heap := HOk.track I4.hok zD.2.1 ⟨zl, ys, _, rv, zD.1⟩
     have I5 : Inv X pins σ (upd H' s₂.heap.objs.size (.lst zs)) s4 := I.call' I4.os u2 hok2 I4.bare fun b hb => ⟨(hf b hb).2.2.2.1, (hf b hb).2.1, (hf b hb).2.2.2.2.1, (hf b hb).2.2.2.2.2⟩
     obtain ⟨m, hn, _⟩ := I4.loc
     refine hRR _ _ s4 H' zs m I5 hn zD.2.1 ?_ ?_ (Nat.le_trans I.sz hCle) ?_ ?_ fin
     · rw [upd_ne (Ne.symm hDC)]; exact I4.free
     · exact Nat.ne_of_gt (Nat.lt_of_lt_of_le I.lt hCle)
     · intro x c e z
       obtain ⟨v, q⟩ := I.cell x c e
       exact absurd (Nat.lt_of_lt_of_le q.lt (by rw [z]; exact hCle)) (Nat.lt_irrefl _)
     · intro p hp z
       exact absurd (Nat.lt_of_lt_of_le (Heap.lt_size (I.pin p hp).1) (by rw [z]; exact hCle)) (Nat.lt_irrefl _)
   case pos =>
     obtain ⟨go, zl⟩ := lw.go i zs H' hlt w'
     have step := lw.step i zs H'
     refine thn (T.item (cxComp X N scope cl H2.objs.size s₂ H fp) rfl rfl rfl hcalm i _ s' _ H' (fun _ _ => False) I' (fpy fr') st' go) fun r s4 ⟨u, hr, h4⟩ => ?_
     subst hr
     refine thn h4 fun _ s5 ⟨x, H5, I5, r5, y5, st5, fr5⟩ => ?_
     have I5' := I5.pinned (fpy fr5) (T.obj _ _ st5)
     refine thn (hg cl _ s₂ H fp _ s5 _ H5 x u _ I5' r5 (hk _ _ _ _ (step x H5 hlt w' y5))) fun _ s6 ⟨σ6, H6, I6, ⟨hl6, hd6⟩, q6⟩ => ?_
     refine thn (hc cl _ s₂ H fp _ s6 σ6 H6 _ I6 q6) fun okb s7 ⟨H7, I7, q7⟩ => ?_
     have frs' : ∀ {H8 : Hp} {σ8 : St} {s8 : Shared}, Inv (cxComp X N scope cl H2.objs.size s₂ H fp) ([(s₂.heap.objs.size, lstO ys)] ++ pinsAt fp s5.heap) σ8 H8 s8 → tn (i + 1) s8.heap ∧ ∀ b ∈ fp, H8 b = none := fun {H8 σ8 s8} I8 =>
       ⟨T.keep _ _ _ st5 fun b hb o e => (I8.pin (b, o) (List.mem_append_right _ (List.mem_append_right _ (mem_pinsAt hb e)))).1, fun b hb => by
         obtain ⟨o, e, d⟩ := T.obj _ _ st5 b hb
         exact (I8.pin (b, o) (List.mem_append_right _ (List.mem_append_right _ (mem_pinsAt hb e)))).2.1⟩
     cases okb with
     | false =>
       rw [if_neg Bool.false_ne_true] at q7 ⊢
       obtain ⟨a1, a2⟩ := frs' I7
       exact ⟨nn - (i + 1), by rw [hn0]; exact Nat.sub_lt_sub_left hlt (Nat.lt_succ_self i), i + 1, zs, ys, H7, rfl, hlt, I7.unpinned.weak (by rw [hl6]) (cS_weak hl6 hd6), rv, a1, a2, q7⟩
     | true =>
       rw [if_pos rfl] at q7 ⊢
       refine thn (he cl _ s₂ H fp _ s7 σ6 H7 _ I7 q7) fun v s8 ⟨y, H8, I8, r8, q8⟩ => ?_
       have zD := (I8.pin (s₂.heap.objs.size, lstO ys) (List.mem_append_right _ (List.mem_append_left _ (List.mem_singleton.mpr rfl))))
       have ylen : ys.length < sizeLine := by rw [← rv.length]; exact zl
       obtain ⟨a1, a2⟩ := frs' I8
       refine append_at (hsz := by rw [List.size_toArray]; exact Nat.le_of_lt ylen) zD.1 fun h9 hs9 hD9 => ?_
       have I8u : Inv (cxComp X N scope cl H2.objs.size s₂ H fp) [] (cS nt js σ) H8 s8 := (I8.pins_of (pins' := []) fun p hp => nomatch hp).weak (by rw [hl6]) (cS_weak hl6 hd6)
       have I9 : Inv (cxComp X N scope cl H2.objs.size s₂ H fp) [] (cS nt js σ) H8 { s8 with heap := h9 } := I8u.turned (t' := s8.toks) (it := s₂.heap.objs.size) (fun b o hb e => hs9.extBut b o hb e) zD.2.1 hDC (.inr (Nat.le_refl _))
         (fun x c e z => by
           obtain ⟨v, q⟩ := I.cell x c (hcl x c e)
           exact absurd (Nat.lt_of_lt_of_le q.lt (by rw [z]; exact Nat.le_refl _)) (Nat.lt_irrefl _)) (fun p hp => nomatch hp)
       refine ⟨nn - (i + 1), by rw [hn0]; exact Nat.sub_lt_sub_left hlt (Nat.lt_succ_self i), i + 1, zs ++ [y], ys ++ [v], H8, rfl, hlt, I9.pins_of (fun p hp => ?_), rv.snoc r8, T.keep _ _ _ a1 fun b hb o e => hs9.extBut b o (below b (lt b hb)).2 e, a2, q8⟩
       have e : p = (s₂.heap.objs.size, lstO (ys ++ [v])) := by simpa using hp
       subst e
       refine ⟨?_, zD.2.1, hDC, zD.2.2.2.1, fun v z => by cases z⟩
       rw [hD9]
       show some ({ cls := .type "list", data := .seq (ys.toArray.push v) (ys.length + 1) } : Obj) = some { cls := .type "list", data := .seq (ys ++ [v]).toArray (ys ++ [v]).length }
       rw [List.length_append, List.length_singleton, List.push_toArray]
 exact codeAny_compStart_list (loop _ rfl) (T.self _ 0 _ _ _ (T.keep 0 _ _ st (fun b _ o e => old b o e)) (loop _ rfl))
theorem pe_lc (hcalm : X.calm = true) (ok : CompOk X N nt js scope) (hi : PI X tg iter wi) (hg : ∀ cl C s H fp, PG (cxComp X N scope cl C s H fp) tg g) (hk : Stays g nt) (hc : ∀ cl C s H fp, PTs (cxComp X N scope cl C s H fp) ifs tc)
   (he : ∀ cl C s H fp, PE (cxComp X N scope cl C s H fp) elt te) (hs : ∀ x, foldedSetIterable iter X.env x = pure x := by intro _; rfl) : PE X (.ListComp elt [⟨tg, iter, ifs, 0⟩] scope pos) (tLC wi nt js g tc te) := by
 intro pins s σ H Q I h
 obtain ⟨cl, hclos, hcl, hcl2⟩ := closureFor_ok (scope := scope) (env := X.env) fun x hx hf => I.ok.has x.1 (ok.free x hx hf)
 rw [eval_ListComp]
 refine wpAny_comprehension_free (use := none) rfl hs hclos ok.kind ok.names ?_
 refine thn (hi pins s σ H _ I (lc_to h)) fun v s1 h1 => thn h1 fun itv s2 h2 => ?_
 obtain ⟨it, fp, tn, J, H2, e, I2, T, st2, f2, nn, W, w0, lw⟩ := h2
 subst e
 refine comp_run (RR := fun acc C => compPost (model X.prog X.w) X.A X.xe none (EP X pins σ Q) acc C) hcalm ok hcl hcl2 hg hk hc he I2 T st2 f2 w0 lw ?_
 intro D C s' H' zs m I3 hn hDn hCn hCL hC0 hCc hCp fin
 exact ⟨m, hn, fun h'' hs'' => ⟨.ref D, _, I3.turned (t' := s'.toks) (it := C) (fun b o hb e => hs''.extBut b o hb e) hCn hCL (.inr hC0) hCc hCp, rfl, fin D hDn⟩⟩
theorem ps_lc {i : Nat} {y : Str} {py spos : Pos} (hcalm : X.calm = true) (hN : X.N.Nodup) (hi' : X.N[i]? = some y) (hy : X.env.kindOf y = some .local) (ok : CompOk X N nt js scope) (hi : PI X tg iter wi) (hg : ∀ cl C s H fp, PG (cxComp X N scope cl C s H fp) tg g) (hk : Stays g nt)
   (hc : ∀ cl C s H fp, PTs (cxComp X N scope cl C s H fp) ifs tc) (he : ∀ cl C s H fp, PE (cxComp X N scope cl C s H fp) elt te)
   (hsw : swapsWith (.ListComp elt [⟨tg, iter, ifs, 0⟩] scope pos) (some (.Name y py)) spos.line X.env = pure true) (hs : ∀ x, foldedSetIterable iter X.env x = pure x := by intro _; rfl) :
   PS X (.Assign [.Name y py] (.ListComp elt [⟨tg, iter, ifs, 0⟩] scope pos) spos) (tAsg (tLC wi nt js g tc te) (gName i)) := by
 intro pins s σ H D₀ I h
 obtain ⟨cl, hclos, hcl, hcl2⟩ := closureFor_ok (scope := scope) (env := X.env) fun x hx hf => I.ok.has x.1 (ok.free x hx hf)
 rw [exec_Assign_Name_used _ _ _ _ hsw]
 refine wpAny_bind (wpAny_standAt (wpAny_bind ?_))
 show wpAny _ X.A (do let _ ← comprehension (.ListComp elt [⟨tg, iter, ifs, 0⟩] scope pos) scope X.env _ (newList []) false (eval iter X.env) (some (assign (.Name y py) X.env))) _ _ s
 refine wpAny_bind (wpAny_mono (wpAny_comprehension_free (use := some (assign (.Name y py) X.env)) (Q := fun _ s' => SP X pins D₀ .next s') rfl hs hclos ok.kind ok.names
   (thn (hi pins s σ H _ I (lc_to (show tLC wi nt js g tc te σ H fun x H1 => gName i x σ H1 D₀.nx from h))) fun v s1 h1 => thn h1 fun itv s2 h2 => ?_)) (fun _ s' hq => wpAny_pure (wpAny_pure hq)) fun _ _ e => e)
 obtain ⟨it, fp, tn, J, H2, e, I2, T, st2, f2, nn, W, w0, lw⟩ := h2
 subst e
 refine comp_run (RR := fun acc C => compPost (model X.prog X.w) X.A X.xe (some (assign (.Name y py) X.env)) (fun _ s' => SP X pins D₀ .next s') acc C) hcalm ok hcl hcl2 hg hk hc he I2 T st2 f2 w0 lw ?_
 intro D C s' H' zs m I3 hn hDn hCn hCL hC0 hCc hCp fin
 show wpAny _ X.A (assign (.Name y py) X.env (.ref D)) _ _ _
 refine wpAny_assign_Name (store_ok2 (v := .ref D) I3 hN hi' (.inl hy) rfl (fun s3 I4 hsb => ?_) (.inr hy))
 obtain ⟨a, hsb, ha⟩ := hsb
 have haC : C ≠ a := by
   rcases ha with z | z
   · rw [z]; exact hCL
   · exact Ne.symm (hCc y a z)
 refine ⟨m, hn.sameBut hsb haC, fun h'' hs'' => ?_⟩
 exact ⟨_, _, I4.turned (t' := s3.toks) (it := C) (fun b o hb e => hs''.extBut b o hb e) hCn hCL (.inr hC0) hCc hCp, fin D hDn⟩
end
end L2
namespace L2
open PySem PySem.Spec PyProof.Rows
def Bd (n : Nat) (x : Int) : Prop := x.natAbs < 2 ^ n
theorem Bd.bits {n : Nat} {x : Int} (h : Bd n x) : Builtin.Int.intBits x ≤ n := PySem.intBits_le_iff.mpr h
def MulOk (i j : Int) : Prop := ∃ m n, Bd m i ∧ Bd n j ∧ m + n ≤ 134217728
theorem MulOk.ok {i j : Int} (h : MulOk i j) : IntMulOk i j := by
 obtain ⟨m, n, h1, h2, h3⟩ := h
 exact PySem.IntMulOk.of_le h1.bits h2.bits h3
section
variable {X : Cx}
theorem op_fdivX {k : Nat} (hr : Room k X.A) (hT : X.prog.given.tree = none) (hk : 32 ≤ k := by decide)
   (hst : ∃ (env : Env) (l : List Env), X.stack = env :: l ∧ env.scope.isGenerator = false ∧ env.scope.isCoroutine = false ∧ env.builtins = builtinsNs ∧ env.globals = mainGlobals := by exact ⟨_, _, rfl, rfl, rfl, rfl, rfl⟩) :
   OpR X (binaryOp .FloorDiv) (rI (fun _ j => j ≠ 0) fun i j => .int (i.fdiv j)) := by
 intro pins s σ H x y v u Q I rx ry h
 obtain ⟨i, j, rfl, rfl, hc, q⟩ := h
 obtain ⟨t, rfl⟩ := rx
 obtain ⟨t', rfl⟩ := ry
 obtain ⟨env, l, e1, e2, e3, e4, e5⟩ := hst
 have hd : X.A.depth + Builtin.pylongFrames < recursionLimit := by
   have := hr.dp
   have e : Builtin.pylongFrames ≤ 101 := by decide
   lia
 refine floordiv_int hc ⟨.int (i.fdiv j), H, I.tok _, ⟨_, rfl⟩, q⟩ (.inr (PySem.PylongRoom.of I.nolimit hd (PySem.SeerAt.of (I.ok.mod.seer.keeps I.bk) hT (by rw [I.ok.frames, e1]) e2 e3 e4 e5)))
end
structure Fd (P : Program) (w : World) (K : PySem.W.Frag) (mg : Str → Option Value) (base : Heap) (n : Nat) (x : Str) (ps : List Str) (sp : Sp) : Prop where
 ex : ∃ (f : Addr) (fd : FuncData), FnOk P w K mg base CX0 n f fd ps sp ∧ Binds K fd ps [] ∧ PySem.W.keepIn K (.ref f) = true ∧ mg x = some (.ref f)
theorem pe_fn {X : Cx} {n k : Nat} {x : Str} {ps : List Str} {sp : Sp} {e : Expr} {es : List Expr} {t : TA} {p pos : Pos} (F : Fd X.prog X.w X.K X.mg X.base n x ps sp) (hr : Room k X.A) (hg : Gl X x) (ha : PA X (e :: es) t) (hn : n ≤ k := by decide)
   (hdb : (x == ("__debug__" : Str)) = false := by decide) (he : starEach (e :: es) X.env = (false, eval e X.env) :: starEach es X.env := by rfl) (hpl : (backTo pos (starEach es X.env)).any (·.1) = false := by rfl) :
   PE X (.Call (.Name x p) (e :: es) [] pos) (tCall sp [] E0 t) := by
 obtain ⟨f, fd, F1, F2, F3, F4⟩ := F.ex
 exact pe_call F1 (hr.mono hn) hg F4 F3 F2 .nil pass0 ha hdb he hpl
inductive Rds (K : PySem.W.Frag) (H : Hp) : V → PyData → Prop where
 | non : Rds K H .non .none
 | bl (b : Bool) : Rds K H (.bl b) (.bool b)
 | int (i : Int) : Rds K H (.int i) (.int i)
 | str (x : Str) : Rds K H (.str x) (.str x)
 | lst {a : Addr} {xs : List V} {ds : List PyData} : SqL K H a xs → xs.length = ds.length → (∀ (i : Nat) x d, xs[i]? = some x → ds[i]? = some d → Rds K H x d) → Rds K H (.ref a) (.list ds)
 | tup {a : Addr} {xs : List V} {ds : List PyData} : SqT K H a xs → xs.length = ds.length → (∀ (i : Nat) x d, xs[i]? = some x → ds[i]? = some d → Rds K H x d) → Rds K H (.ref a) (.tuple ds)
theorem readsAll_of {h : Heap} : ∀ {us : List Value} {xs : List V} {ds : List PyData}, Vals xs us → xs.length = ds.length → (∀ (i : Nat) x d u, xs[i]? = some x → ds[i]? = some d → RelV x u → ∃ as, Reads h u d as) → ∃ as, ReadsAll h us ds as
 | [], _, [], .nil, _, _ => ⟨[], .nil⟩
 | [], _, _ :: _, .nil, hl, _ => by simp at hl
 | _ :: _, _, [], .cons _ _, hl, _ => by simp at hl
 | u :: us, x :: xs, d :: ds, .cons r t, hl, hr => by
   obtain ⟨a1, r1⟩ := hr 0 x d u rfl rfl r
   obtain ⟨a2, r2⟩ := readsAll_of (us := us) (xs := xs) (ds := ds) t (by simpa using hl) fun i x' d' u' e1 e2 q => hr (i + 1) x' d' u' (by simpa using e1) (by simpa using e2) q
   exact ⟨_, .cons r1 r2⟩
theorem reads_of {X : Cx} {pins : List (Addr × Obj)} {σ : St} {H : Hp} {s : Shared} (I : Inv X pins σ H s) {x : V} {d : PyData} (r : Rds X.K H x d) : ∀ {u : Value}, RelV x u → ∃ as, Reads s.heap u d as := by
 induction r with
 | non => intro u ru; cases ru; exact ⟨_, .none⟩
 | bl b => intro u ru; cases ru; exact ⟨_, .bool b⟩
 | int i => intro u ru; obtain ⟨t, rfl⟩ := ru; exact ⟨_, .int i t⟩
 | str z => intro u ru; obtain ⟨t, rfl⟩ := ru; exact ⟨_, .str z t⟩
 | lst q hl _ ih =>
   intro u ru
   cases ru
   obtain ⟨its, rv, ⟨o, n, e, c, _, dd⟩, _⟩ := I.list q
   obtain ⟨as, ra⟩ := readsAll_of rv hl fun i x d u e1 e2 rr => ih i x d e1 e2 rr
   exact ⟨_, .list e c dd (by simpa using ra)⟩
 | tup q hl _ ih =>
   intro u ru
   cases ru
   obtain ⟨its, rv, ⟨o, e, c, n, dd⟩, _⟩ := I.tuple q
   obtain ⟨as, ra⟩ := readsAll_of rv hl fun i x d u e1 e2 rr => ih i x d e1 e2 rr
   exact ⟨_, .tuple e c dd (by simpa using ra)⟩
section
variable {X : Cx}
@[irreducible] def rEqD (K : PySem.W.Frag) (neg : Bool) : R2 := fun x y H Q => ∃ d e, Rds K H x d ∧ Rds K H y e ∧ SeqAt.shaped d = true ∧ SeqAt.shaped e = true ∧ Q (.bl (if neg then !PyData.eqv d e else PyData.eqv d e)) H
theorem eqD_of {K : PySem.W.Frag} {neg : Bool} {x y : V} {H : Hp} {Q : VK} (h : ∃ d e, Rds K H x d ∧ Rds K H y e ∧ SeqAt.shaped d = true ∧ SeqAt.shaped e = true ∧ Q (.bl (if neg then !PyData.eqv d e else PyData.eqv d e)) H) : rEqD K neg x y H Q := by
 unfold rEqD; exact h
theorem op_eqD (hu : X.A.units + 64 < cLine) : OpR X (compareOp .Eq) (rEqD X.K false) := by
 intro pins s σ H x y v u Q I rx ry h
 unfold rEqD at h
 obtain ⟨d, e, r1, r2, h1, h2, q⟩ := h
 obtain ⟨as, q1⟩ := reads_of I r1 rx
 obtain ⟨bs, q2⟩ := reads_of I r2 ry
 exact SeqAt.compareEq_shaped q1 q2 h1 h2 hu ⟨.bl _, H, I, rfl, q⟩
theorem op_neD (hu : X.A.units + 64 < cLine) : OpR X (compareOp .NotEq) (rEqD X.K true) := by
 intro pins s σ H x y v u Q I rx ry h
 unfold rEqD at h
 obtain ⟨d, e, r1, r2, h1, h2, q⟩ := h
 obtain ⟨as, q1⟩ := reads_of I r1 rx
 obtain ⟨bs, q2⟩ := reads_of I r2 ry
 exact SeqAt.compareNe_shaped q1 q2 h1 h2 hu ⟨.bl _, H, I, rfl, q⟩
end
end L2
namespace L2
open PySem PySem.Spec PyProof.Rows
theorem bt_len : bootBuiltins "len" = some (.builtin "len") := by decide +kernel
theorem bt_abs : bootBuiltins "abs" = some (.builtin "abs") := by decide +kernel
theorem bt_list : bootBuiltins "list" = some (.type "list") := by decide +kernel
theorem bt_tuple : bootBuiltins "tuple" = some (.type "tuple") := by decide +kernel
theorem bt_reversed : bootBuiltins "reversed" = some (.type "reversed") := by decide +kernel
def Fx (H : Hp) (L : List (Addr × HO)) : Prop := ∀ p ∈ L, H p.1 = some p.2
def Mv (a : Addr) (H H' : Hp) : Prop := ∀ b o, b ≠ a → H b = some o → H' b = some o
theorem Mv.refl (a : Addr) (H : Hp) : Mv a H H := fun _ _ _ h => h
theorem Mv.trans {a : Addr} {H H1 H2 : Hp} (x : Mv a H H1) (y : Mv a H1 H2) : Mv a H H2 := fun b o n h => y b o n (x b o n h)
theorem Mv.new {a p : Addr} {H : Hp} {o : HO} (h : H p = none) : Mv a H (upd H p o) := fun b u _ q => by rw [upd_ne (ne_of_none q h)]; exact q
theorem at_ints {ns : List Int} {k : Int} (h0 : 0 ≤ k) (h : k < (ns.length : Int)) : ∃ v : Int, atI (ns.map V.int) k = some (.int v) := by
 have hk : k.toNat < ns.length := by lia
 have ek : k = ((k.toNat : Nat) : Int) := by lia
 have q : atI (ns.map V.int) ((k.toNat : Nat) : Int) = some (.int ns[k.toNat]) := atI_nat (by rw [List.getElem?_map, List.getElem?_eq_getElem hk] <;> rfl)
 rw [← ek] at q
 exact ⟨_, q⟩
def nT (q : Rat) : HO := .tup [.int q.num, .int q.den]
def Pen (H : Hp) (a : Addr) : Prop := ∃ c0 c1 c2 : Int, H a = some (.lst [.int c0, .int c1, .int c2])
theorem Pen.same {H : Hp} {a p : Addr} {o : HO} (x : Pen H a) (h : H p = none) : Pen (upd H p o) a := by
 obtain ⟨c0, c1, c2, e⟩ := x
 exact ⟨c0, c1, c2, by rw [upd_ne (ne_of_none e h)]; exact e⟩
theorem Pen.put {H : Hp} {a : Addr} {c0 c1 c2 : Int} : Pen (upd H a (.lst [.int c0, .int c1, .int c2])) a := ⟨c0, c1, c2, upd_same⟩
def MulC (i j : Int) : Prop := (-(2 ^ 64) < i ∧ i < 2 ^ 64) ∨ (-(2 ^ 64) < j ∧ j < 2 ^ 64) ∨ MulOk i j
theorem MulC.ok {i j : Int} (h : MulC i j) : IntMulOk i j := by
 rcases h with ⟨h1, h2⟩ | ⟨h1, h2⟩ | h
 · exact .of_left (intBits_le_64 h1 h2)
 · exact .of_right (intBits_le_64 h1 h2)
 · exact h.ok
theorem op_mulC {X : Cx} : OpR X (binaryOp .Mult) (rI MulC fun i j => .int (i * j)) := opI fun _ _ _ _ _ _ _ hc q => mul_int q hc.ok
def OnlyAt (a : Addr) (H H' : Hp) : Prop := ∀ b, b ≠ a → H' b = H b
theorem OnlyAt.mv {a : Addr} {H H' : Hp} (x : OnlyAt a H H') : Mv a H H' := fun b o n h => by rw [x b n]; exact h
theorem OnlyAt.put {a : Addr} {H : Hp} {o : HO} : OnlyAt a H (upd H a o) := fun b n => upd_ne n
theorem Pen.ne {H : Hp} {a p : Addr} {o : HO} (x : Pen H a) (h : H p = some o) (hd : ∀ c0 c1 c2 : Int, o ≠ .lst [.int c0, .int c1, .int c2]) : p ≠ a := by
 obtain ⟨c0, c1, c2, e⟩ := x
 exact ne_of h e (hd c0 c1 c2)
structure Lg (a : Addr) (H : Hp) (L : List (Addr × HO)) : Prop where
 fx : Fx H L
 ne : ∀ x ∈ L, x.1 ≠ a
 pen : Pen H a
theorem nT_ne (q : Rat) : ∀ c0 c1 c2 : Int, nT q ≠ .lst [.int c0, .int c1, .int c2] := fun _ _ _ z => by cases z
theorem at_menu {xs : List Int} {i : Int} (h0 : 0 ≤ i) (h : i < (xs.length : Int)) : ∃ v : Int, atI (xs.map V.int) i = some (.int v) ∧ v ∈ xs := by
 have hk : i.toNat < xs.length := by lia
 have ek : i = ((i.toNat : Nat) : Int) := by lia
 have q : atI (xs.map V.int) ((i.toNat : Nat) : Int) = some (.int xs[i.toNat]) := atI_nat (by rw [List.getElem?_map, List.getElem?_eq_getElem hk] <;> rfl)
 rw [← ek] at q
 exact ⟨_, q, List.getElem_mem hk⟩
theorem sq_new {K : PySem.W.Frag} {H : Hp} {a p : Addr} {xs : List V} {o : HO} (hS : SqL K H a xs) (hp : H p = none) : SqL K (upd H p o) a xs := by
 have st : ∀ u, H a = some u → upd H p o a = some u := fun u e => by rw [upd_ne (ne_of_none e hp)]; exact e
 rcases hS with (h | ⟨o, h⟩) | h
 · exact .inl (.inl (st _ h))
 · exact .inl (.inr ⟨o, st _ h⟩)
 · exact .inr h
inductive spDraw (vs : List V) (H : Hp) (Q : VK) (E_3 : XK) : Prop
 | mk (a : Addr) (m : Int) (h1 : vs = [.ref a, .int m]) (h2 : Pen H a) (h3 : 1 ≤ m) (h4 : m < 1073741824) (h5 : ∀ (d : Int) (H' : Hp), 0 ≤ d → d < m → OnlyAt a H H' → Pen H' a → Q (.int d) H') : spDraw vs H Q E_3
inductive spPen (K : PySem.W.Frag) (vs : List V) (H : Hp) (Q : VK) (E_3 : XK) : Prop
 | mk (a : Addr) (ns : List Int) (k : Int) (h1 : vs = [.ref a, .int k]) (h2 : SqL K H a (ns.map V.int)) (h3 : ns.length ≤ 63) (h4 : 0 ≤ k) (h5 : k < 2 ^ 62) (h6 : ∀ (p : Addr) (c0 c1 : Int), H p = none → Q (.ref p) (upd H p (.lst [.int c0, .int c1, .int 0]))) : spPen K vs H Q E_3
inductive spLow (vs : List V) (H : Hp) (Q : VK) (E_3 : XK) : Prop
 | mk (t b : Int) (h1 : vs = [.int t, .int b]) (h2 : b ≠ 0) (h3 : ∀ p, H p = none → Q (.ref p) (upd H p (nT (Rat.divInt t b)))) : spLow vs H Q E_3
inductive spGcd (vs : List V) (H : Hp) (Q : VK) (E_3 : XK) : Prop
 | mk (a b : Int) (h1 : vs = [.int a, .int b]) (h2 : Q (.int (Int.gcd a b)) H) : spGcd vs H Q E_3
inductive spNum (n : Nat) (vs : List V) (H : Hp) (Q : VK) (E_3 : XK) : Prop
 | mk (a : _) (h1 : vs = [.ref a]) (h2 : Pen H a) (h3 : ∀ (q : Rat) (r : Addr) (H' : Hp), Mv a H H' → Pen H' a → H' r = some (nT q) → Bd n q.num → Bd n q.den → Q (.ref r) H') : spNum n vs H Q E_3
def mu (i : Nat) (σ : St) : Nat := match σ[i]? with | some (some (.int y)) => y.toNat | _ => 0
theorem Bd.mono {m n : Nat} {x : Int} (h : Bd m x) (hmn : m ≤ n) : Bd n x := Nat.lt_of_lt_of_le h (Nat.pow_le_pow_right (by decide) hmn)
theorem Bd.num {n : Nat} {t b : Int} (h : Bd n t) : Bd n (Rat.divInt t b).num := by
 unfold Bd at *
 by_cases hb : b = 0
 · subst hb; simp; exact Nat.pos_of_ne_zero (by simp)
 · rw [← Nm.top_msr hb]
   exact Nat.lt_of_le_of_lt (PySem.natAbs_fdiv_le t _) h
theorem Bd.den {n : Nat} {t b : Int} (hb : b ≠ 0) (h : Bd n b) : Bd n (Rat.divInt t b).den := by
 unfold Bd at *
 rw [← Nm.bottom_msr hb]
 exact Nat.lt_of_le_of_lt (PySem.natAbs_fdiv_le b _) h
end L2
namespace L2
open PySem PySem.Spec PyProof.Rows
def Itrev (K : PySem.W.Frag) (a : Addr) (xs : List V) : It :=
 ⟨fun i H => SqL K H a xs ∧ i < xs.length, fun i H x H' => H' = H ∧ xs[xs.length - 1 - i]? = some x, fun i _ => xs.length = i⟩
theorem turn_rev {P : Program} {w : World} {K : PySem.W.Frag} {tg : Expr} (a it : Addr) (xs : List V) : Turn P w K tg (Itrev K a xs) [it] it (fun i h => i ≤ xs.length ∧ h.IsRevIter it a ((xs.length : Int) - 1 - (i : Int))) where
 mem := by simp
 obj := fun i h st b hb => by
   have e : b = it := by simpa using hb
   subst e
   obtain ⟨_, o, e, c, d⟩ := st
   exact ⟨o, e, fun v z => by rw [d] at z; cases z⟩
 keep := fun i h h' st k => ⟨st.1, st.2.at fun o e => k it (by simp) o e⟩
 item := by
   intro X hP hw hK hc i pins s σ H E I hf st hg
   subst hP hw hK
   obtain ⟨hq, hi⟩ := hg
   obtain ⟨its, rv, p, hz⟩ := I.list hq
   have hl := rv.length
   have hx : xs[xs.length - 1 - i]? = some (xs[xs.length - 1 - i]'(by lia)) := List.getElem?_eq_getElem (by lia)
   obtain ⟨u, hu, ru⟩ := rv.get hx
   obtain ⟨f0, f1, f2, f3, f4, f5⟩ := hf it (by simp)
   have e : (xs.length : Int) - 1 - (i : Int) = ((xs.length - 1 - i : Nat) : Int) := by lia
   have st2 := st.2
   rw [e] at st2
   refine wpAny_pyNext_rev_item st2 p.isList (x := u) (by simpa using hu) fun h' st' sb => ?_
   have I1 : Inv X pins σ H { s with heap := h' } := I.turned (t' := s.toks) (fun b o hb e => (sb.2 b hb).trans e) f0 f1 f3 f4 f5
   obtain ⟨o, e', c, d⟩ := id st'
   have e2 : ((xs.length - 1 - i : Nat) : Int) - 1 = (xs.length : Int) - 1 - ((i + 1 : Nat) : Int) := by lia
   rw [e2] at st'
   exact ⟨u, rfl, go_of (s := { s with heap := h' }) e' c d (by decide) ⟨_, H, I1, ru, ⟨rfl, hx⟩, ⟨hi, st'⟩, fun b hb => (hf b hb).1⟩⟩
 done := by
   intro X hP hw hK hc i pins s σ H E I hf st hg
   subst hP hw hK
   obtain ⟨f0, f1, f2, f3, f4, f5⟩ := hf it (by simp)
   have hg' : xs.length = i := hg
   have st2 := st.2
   rw [show (xs.length : Int) - 1 - (i : Int) = -1 by lia] at st2
   exact wpAny_pyNext_rev_end (I.ok.hd hc) st2 fun h' eb => ⟨rfl, I.turned (t' := s.toks) (fun b o hb e => eb b o hb e) f0 f1 f3 f4 f5⟩
 self := fun _ _ _ _ _ st h => wpAny_pyIter_revIter st.2 h
section
variable {X : Cx} {tg : Expr}
def iRev (K : PySem.W.Frag) (tl : TE) : TI := fun σ H R => tl σ H fun x H1 => ∃ v, [x] = [v] ∧ ∃ a xs, v = .ref a ∧ SqL K H1 a xs ∧ R (Itrev K a xs) H1
theorem pi_rev {l : Expr} {tl : TE} {p pos : Pos} (hg : Gl X "reversed") (hm : X.mg "reversed" = none) (hl : PE X l tl) (hs : starEach [l] X.env = [(false, eval l X.env)] := by rfl) : PI X tg (.Call (.Name "reversed" p) [l] [] pos) (iRev X.K tl) := by
 intro pins s σ H R I h
 have ha : PA X [l] (tCons tl tNil) := pa_cons hl pa_nil (by rw [hs]; rfl)
 refine Call_ (ld_blt I hg hm bt_reversed (PyProof.Rows.callWith_type1 (thn (ha pos pins s σ H (fun vs H1 => ∃ x, vs = [x] ∧ ∃ a xs, x = .ref a ∧ SqL X.K H1 a xs ∧ R (Itrev X.K a xs) H1) I h) fun us s1 ⟨vs, H1, I1, r1, q1⟩ => ?_) hs rfl))
 obtain ⟨x, e0, a, xs, e, hq, q⟩ := q1
 subst e0
 subst e
 cases r1 with
 | cons r rr =>
   cases rr
   cases r
   obtain ⟨its, rv, p, hz⟩ := I1.list hq
   refine call_reversed_list p.isList ?_
   have I2 : Inv X pins σ H1 { s1 with heap := s1.heap.push (revObj a ((its.toArray.size : Int) - 1)) } := I1.kept (t' := s1.toks) fun b o e => Heap.get?_push_of_some _ e
   have st : ({ s1 with heap := s1.heap.push (revObj a ((its.toArray.size : Int) - 1)) } : Shared).heap.IsRevIter s1.heap.objs.size a ((xs.length : Int) - 1 - ((0 : Nat) : Int)) := by
     refine ⟨_, Heap.get?_push_size _ rfl, rfl, ?_⟩
     have e : ((its.toArray.size : Nat) : Int) - 1 = (xs.length : Int) - 1 - ((0 : Nat) : Int) := by rw [List.size_toArray, ← rv.length]; simp
     show Data.fields #[.ref a, rawInt _] = _
     rw [e]
   refine wpAny_pyIter_revIter st ?_
   refine ⟨s1.heap.objs.size, [s1.heap.objs.size], _, _, H1, rfl, I2, turn_rev a _ xs, ⟨Nat.zero_le _, st⟩, fun b hb => ?_, q⟩
   have e : b = s1.heap.objs.size := by simpa using hb
   subst e
   exact I1.fpOk (Nat.le_refl _) (I1.hok.fresh (Nat.le_refl _))
end
theorem for_rev {K : PySem.W.Frag} {a : Addr} {xs : List V} {g : TG} {tb : TS} {D : Ends} {σ : St} {H : Hp} (Pv : Nat → St → Hp → Prop) (h0 : Pv 0 σ H) (hl : ∀ i σ H, i ≤ xs.length → Pv i σ H → SqL K H a xs)
   (hs : ∀ i x σ H, i < xs.length → xs[xs.length - 1 - i]? = some x → Pv i σ H → g x σ H fun σ2 H2 => tb { D with nx := Pv (i + 1), ct := Pv (i + 1), bk := D.nx } σ2 H2) (hd : ∀ σ H, Pv xs.length σ H → D.nx σ H) :
   ∃ W : Nat → Nat → St → Hp → Prop, (∃ m, W 0 m σ H) ∧ ∀ i m σ H, W i m σ H →
     ((Itrev K a xs).stop i H ∧ D.nx σ H) ∨ ((Itrev K a xs).go i H ∧ ∃ N : St → Hp → Prop, (∀ σ' H', N σ' H' → ∃ m', m' < m ∧ W (i + 1) m' σ' H') ∧ ∀ x H', (Itrev K a xs).yld i H x H' → g x σ H' fun σ2 H2 => tb { D with nx := N, ct := N, bk := D.nx } σ2 H2) := by
 refine ⟨fun i m σ H => m = xs.length - i ∧ i ≤ xs.length ∧ Pv i σ H, ⟨xs.length, by simp, Nat.zero_le _, h0⟩, ?_⟩
 rintro i m σ H ⟨rfl, hi, p⟩
 have q := hl i σ H hi p
 by_cases hlt : i < xs.length
 · refine .inr ⟨⟨q, hlt⟩, Pv (i + 1), fun σ' H' p' => ⟨xs.length - (i + 1), by lia, rfl, hlt, p'⟩, fun x H' y => ?_⟩
   obtain ⟨e, y⟩ := y
   subst e
   exact hs i x σ _ hlt y p
 · have e : i = xs.length := by lia
   subst e
   exact .inl ⟨rfl, hd σ H p⟩
end L2
namespace L2
open PySem PySem.Spec PyProof.Rows
theorem SqT.same {K : PySem.W.Frag} {H H' : Hp} {a : Addr} {xs : List V} (h : SqT K H a xs) (e : Same H H') : SqT K H' a xs := by
 rcases h with (h | ⟨o, h⟩) | h
 · exact .inl (.inl (e _ _ h))
 · exact .inl (.inr ⟨o, e _ _ h⟩)
 · exact .inr h
theorem Same.new {H : Hp} {p : Addr} {o : HO} (h : H p = none) : Same H (upd H p o) := fun b u q => by rw [upd_ne (ne_of_none q h)]; exact q
theorem Same.mv {H H' : Hp} {a : Addr} (h : Same H H') : Mv a H H' := fun b o _ q => h b o q
theorem Paired.get {α β : Type} {F : α → β → Prop} : ∀ {l₁ : List α} {l₂ : List β} {i : Nat} {a : α}, Paired F l₁ l₂ → l₁[i]? = some a → ∃ b, l₂[i]? = some b ∧ F a b
 | _, _, _, _, .nil, e => by simp at e
 | _, _, 0, _, .cons h _, e => by simp at e; subst e; exact ⟨_, rfl, h⟩
 | _, _, i + 1, _, .cons _ t, e => by
   obtain ⟨b, h1, h2⟩ := Paired.get (i := i) t (by simpa using e)
   exact ⟨b, by simpa using h1, h2⟩
theorem Paired.get' {α β : Type} {F : α → β → Prop} : ∀ {l₁ : List α} {l₂ : List β} {i : Nat} {b : β}, Paired F l₁ l₂ → l₂[i]? = some b → ∃ a, l₁[i]? = some a ∧ F a b
 | _, _, _, _, .nil, e => by simp at e
 | _, _, 0, _, .cons h _, e => by simp at e; subst e; exact ⟨_, rfl, h⟩
 | _, _, i + 1, _, .cons _ t, e => by
   obtain ⟨b, h1, h2⟩ := Paired.get' (i := i) t (by simpa using e)
   exact ⟨b, by simpa using h1, h2⟩
theorem Paired.take {α β : Type} {F : α → β → Prop} : ∀ {l₁ : List α} {l₂ : List β} (n : Nat), Paired F l₁ l₂ → Paired F (l₁.take n) (l₂.take n)
 | _, _, 0, _ => by simp; exact .nil
 | _, _, _ + 1, .nil => .nil
 | _, _, n + 1, .cons h t => .cons h (Paired.take n t)
theorem Paired.append {α β : Type} {F : α → β → Prop} {l₁ l₁' : List α} {l₂ l₂' : List β} (a : Paired F l₁ l₂) (b : Paired F l₁' l₂') : Paired F (l₁ ++ l₁') (l₂ ++ l₂') := by
 induction a with
 | nil => exact b
 | cons h t ih => exact .cons h ih
theorem Paired.set {α β : Type} {F : α → β → Prop} {a : α} {b : β} (q : F a b) : ∀ {l₁ : List α} {l₂ : List β} (i : Nat), Paired F l₁ l₂ → Paired F (l₁.set i a) (l₂.set i b)
 | _, _, _, .nil => .nil
 | _, _, 0, .cons _ t => .cons q t
 | _, _, i + 1, .cons h t => .cons h (Paired.set q i t)
def NumV (K : PySem.W.Frag) (H : Hp) (x : V) (q : Rat) : Prop := ∃ r, x = .ref r ∧ SqT K H r [.int q.num, .int q.den]
abbrev Nums (K : PySem.W.Frag) (H : Hp) : List V → List Rat → Prop := Paired (NumV K H)
theorem NumV.of {K : PySem.W.Frag} {H : Hp} {r : Addr} {q : Rat} (h : H r = some (nT q)) : NumV K H (.ref r) q := ⟨r, rfl, SqT.of h⟩
theorem NumV.same {K : PySem.W.Frag} {H H' : Hp} {x : V} {q : Rat} (h : NumV K H x q) (e : Same H H') : NumV K H' x q := by
 obtain ⟨r, rfl, h⟩ := h
 exact ⟨r, rfl, h.same e⟩
theorem Nums.same {K : PySem.W.Frag} {H H' : Hp} {xs : List V} {qs : List Rat} (h : Nums K H xs qs) (e : Same H H') : Nums K H' xs qs := Paired.mapP h fun _ _ z => z.same e
def Crv (K : PySem.W.Frag) (H : Hp) (r : Addr) (qs : List Rat) : Prop := ∃ xs, SqT K H r xs ∧ Nums K H xs qs
theorem Crv.same {K : PySem.W.Frag} {H H' : Hp} {r : Addr} {qs : List Rat} (h : Crv K H r qs) (e : Same H H') : Crv K H' r qs := let ⟨xs, a, b⟩ := h; ⟨xs, a.same e, b.same e⟩
def nD (q : Rat) : PyData := .tuple [.int q.num, .int q.den]
theorem NumV.rds {K : PySem.W.Frag} {H : Hp} {x : V} {q : Rat} (h : NumV K H x q) : Rds K H x (nD q) := by
 obtain ⟨r, rfl, h⟩ := h
 refine .tup h rfl fun i x d e1 e2 => ?_
 match i with
 | 0 => simp at e1 e2; subst e1; subst e2; exact .int _
 | 1 => simp at e1 e2; subst e1; subst e2; exact .int _
 | i + 2 => simp at e1
theorem nD_eqv (p q : Rat) : PyData.eqv (nD p) (nD q) = decide (p = q) := by
 show (p.num == q.num && (((p.den : Int) == (q.den : Int)) && true)) = _
 rw [Bool.and_true, Bool.eq_iff_iff]
 simp only [Bool.and_eq_true, beq_iff_eq, decide_eq_true_eq]
 constructor
 · rintro ⟨h1, h2⟩
   exact Rat.ext h1 (Int.ofNat.inj h2)
 · rintro rfl
   exact ⟨rfl, rfl⟩
theorem nDs_eqv : ∀ ps qs : List Rat, PyData.eqvAll (ps.map nD) (qs.map nD) = decide (ps = qs)
 | [], [] => rfl
 | [], _ :: _ => rfl
 | _ :: _, [] => rfl
 | p :: ps, q :: qs => by
   show (PyData.eqv (nD p) (nD q) && PyData.eqvAll (ps.map nD) (qs.map nD)) = _
   rw [nD_eqv, nDs_eqv ps qs, Bool.eq_iff_iff]
   simp
theorem nD_shaped (q : Rat) : SeqAt.shaped (nD q) = true := by rfl
theorem Nums.rds {K : PySem.W.Frag} {H : Hp} {xs : List V} {qs : List Rat} (h : Nums K H xs qs) : ∀ (i : Nat) x d, xs[i]? = some x → (qs.map nD)[i]? = some d → Rds K H x d := fun i x d e1 e2 => by
 obtain ⟨q, hq, hn⟩ := Paired.get h e1
 rw [List.getElem?_map, hq] at e2
 cases e2
 exact hn.rds
theorem Nums.rdsT {K : PySem.W.Frag} {H : Hp} {r : Addr} {xs : List V} {qs : List Rat} (h : Nums K H xs qs) (s : SqT K H r xs) : Rds K H (.ref r) (.tuple (qs.map nD)) := .tup s (by rw [h.length, List.length_map]) h.rds
theorem Nums.rdsL {K : PySem.W.Frag} {H : Hp} {r : Addr} {xs : List V} {qs : List Rat} (h : Nums K H xs qs) (s : SqL K H r xs) : Rds K H (.ref r) (.list (qs.map nD)) := .lst s (by rw [h.length, List.length_map]) h.rds
theorem nDs_lay : ∀ qs : List Rat, PyData.canLayAll0 (qs.map nD) = true
 | [] => rfl
 | q :: r => by
   show (PyData.canLay0 (nD q) && PyData.canLayAll0 (r.map nD)) = true
   rw [nDs_lay r]; rfl
theorem nDs_depth : ∀ qs : List Rat, PyData.depthAll (qs.map nD) ≤ 1
 | [] => Nat.zero_le _
 | q :: r => by
   have ih := nDs_depth r
   show max (PyData.depth (nD q)) (PyData.depthAll (r.map nD)) ≤ 1
   exact Nat.max_le.mpr ⟨Nat.le_refl _, ih⟩
theorem nDs_shL (qs : List Rat) : SeqAt.shaped (.list (qs.map nD)) = true := by
 show (PyData.canLayAll0 (qs.map nD) && decide (PyData.depthAll (qs.map nD) + 1 ≤ 64)) = true
 rw [nDs_lay, Bool.true_and]
 exact decide_eq_true (by have := nDs_depth qs; lia)
theorem nDs_shT (qs : List Rat) : SeqAt.shaped (.tuple (qs.map nD)) = true := nDs_shL qs
theorem eqN {K : PySem.W.Frag} {H : Hp} {x y : V} {p q : Rat} {Q : VK} {neg : Bool} (h1 : NumV K H x p) (h2 : NumV K H y q) (h : Q (.bl (if neg then !decide (p = q) else decide (p = q))) H) : rEqD K neg x y H Q :=
 eqD_of ⟨_, _, h1.rds, h2.rds, nD_shaped _, nD_shaped _, by rw [nD_eqv]; exact h⟩
theorem eqT {K : PySem.W.Frag} {H : Hp} {a b : Addr} {ps qs : List Rat} {Q : VK} {neg : Bool} (h1 : Crv K H a ps) (h2 : Crv K H b qs) (h : Q (.bl (if neg then !decide (ps = qs) else decide (ps = qs))) H) : rEqD K neg (.ref a) (.ref b) H Q := by
 obtain ⟨xs, s1, n1⟩ := h1
 obtain ⟨ys, s2, n2⟩ := h2
 refine eqD_of ⟨_, _, n1.rdsT s1, n2.rdsT s2, nDs_shT _, nDs_shT _, ?_⟩
 have e : PyData.eqv (.tuple (ps.map nD)) (.tuple (qs.map nD)) = decide (ps = qs) := nDs_eqv ps qs
 rw [e]; exact h
theorem eqL {K : PySem.W.Frag} {H : Hp} {a b : Addr} {xs ys : List V} {ps qs : List Rat} {Q : VK} {neg : Bool} (s1 : SqL K H a xs) (n1 : Nums K H xs ps) (s2 : SqL K H b ys) (n2 : Nums K H ys qs) (h : Q (.bl (if neg then !decide (ps = qs) else decide (ps = qs))) H) : rEqD K neg (.ref a) (.ref b) H Q := by
 refine eqD_of ⟨_, _, n1.rdsL s1, n2.rdsL s2, nDs_shL _, nDs_shL _, ?_⟩
 have e : PyData.eqv (.list (ps.map nD)) (.list (qs.map nD)) = decide (ps = qs) := nDs_eqv ps qs
 rw [e]; exact h
theorem wh_by {c : TT} {tb : TS} {D : Ends} {σ : St} {H : Hp} (Pv : St → Hp → Prop) (μ : St → Hp → Nat) (h0 : Pv σ H)
   (hs : ∀ σ H, Pv σ H → c σ H fun b H1 => if b = true then ∃ N : St → Hp → Prop, (∀ σ' H', N σ' H' → ∃ m', m' < μ σ H ∧ (m' = μ σ' H' ∧ Pv σ' H')) ∧ tb { D with nx := N, ct := N, bk := D.nx } σ H1 else D.nx σ H1) : tWhile c tb D σ H := by
 refine ⟨fun m σ H => m = μ σ H ∧ Pv σ H, ⟨_, rfl, h0⟩, ?_⟩
 rintro m σ H ⟨rfl, p⟩
 exact hs σ H p
theorem wh_go {tb : TS} {D : Ends} {σ : St} {H1 : Hp} {m : Nat} {Pv : St → Hp → Prop} {μ : St → Hp → Nat}
   (h : tb { D with nx := fun σ' H' => Pv σ' H' ∧ μ σ' H' < m, ct := fun σ' H' => Pv σ' H' ∧ μ σ' H' < m, bk := D.nx } σ H1) :
   ∃ N : St → Hp → Prop, (∀ σ' H', N σ' H' → ∃ m', m' < m ∧ (m' = μ σ' H' ∧ Pv σ' H')) ∧ tb { D with nx := N, ct := N, bk := D.nx } σ H1 :=
 ⟨_, fun _ _ ⟨p, l⟩ => ⟨_, l, rfl, p⟩, h⟩
def RB (n : Nat) (q : Rat) : Prop := Bd n q.num ∧ Bd n (q.den : Int)
theorem Bd.mul {m n : Nat} {x y : Int} (h1 : Bd m x) (h2 : Bd n y) : Bd (m + n) (x * y) := by
 unfold Bd at *
 rw [Int.natAbs_mul, Nat.pow_add]
 exact Nat.mul_lt_mul'' h1 h2
theorem Bd.add {n : Nat} {x y : Int} (h1 : Bd n x) (h2 : Bd n y) : Bd (n + 1) (x + y) := by
 unfold Bd at *
 rw [Nat.pow_succ, Nat.mul_two]
 exact Nat.lt_of_le_of_lt (Int.natAbs_add_le x y) (Nat.add_lt_add h1 h2)
theorem Bd.sub {n : Nat} {x y : Int} (h1 : Bd n x) (h2 : Bd n y) : Bd (n + 1) (x - y) := by
 rw [Int.sub_eq_add_neg]
 exact Bd.add h1 (by unfold Bd; rw [Int.natAbs_neg]; exact h2)
theorem Bd.fdiv {n : Nat} {x y : Int} (h : Bd n x) : Bd n (x.fdiv y) := Nat.lt_of_le_of_lt (PySem.natAbs_fdiv_le x y) h
theorem MulC.bd {m n : Nat} {x y : Int} (h1 : Bd m x) (h2 : Bd n y) (h : m + n ≤ 134217728 := by lia) : MulC x y := .inr (.inr ⟨m, n, h1, h2, h⟩)
theorem RB.mono {m n : Nat} {q : Rat} (h : RB m q) (hmn : m ≤ n) : RB n q := ⟨h.1.mono hmn, h.2.mono hmn⟩
theorem RB.div {m n : Nat} {t b : Int} (h1 : Bd n t) (h2 : Bd n b) (hb : b ≠ 0) : RB n (Rat.divInt t b) := ⟨Bd.num h1, Bd.den hb h2⟩
theorem vals_abs : ∀ {us : List Value} {xs : List V}, us.map absV = xs.map some → (∀ u ∈ us, ∀ x, absV u = some x → RelV x u) → Vals xs us
 | [], [], _, _ => .nil
 | [], _ :: _, e, _ => by simp at e
 | _ :: _, [], e, _ => by simp at e
 | u :: us, x :: xs, e, h => by
   simp only [List.map_cons, List.cons.injEq] at e
   exact .cons (h u List.mem_cons_self x e.1) (vals_abs e.2 fun v hv => h v (List.mem_cons_of_mem _ hv))
theorem absV_rel {u : Value} {x : V} (h : absV u = some x) : RelV x u := by
 cases u <;> first | (cases h; rfl) | (cases h; exact ⟨_, rfl⟩) | cases h
theorem const_num {K : PySem.W.Frag} {H : Hp} {a : Addr} {o : Obj} {vs : Array Value} {n : Nat} {q : Rat} (hk : K.lookup a = some o) (hc : o.cls = .type "tuple") (hd : o.data = .seq vs n) (e : vs.toList.map absV = [some (.int q.num), some (.int (q.den : Int))]) : SqT K H a [.int q.num, .int q.den] := by
 refine .inr ⟨o, vs, n, hk, hc, hd, ?_, vals_abs e fun u _ x h => absV_rel h⟩
 have hl := congrArg List.length e
 simp at hl
 rw [hl]; decide
theorem RB.plus {m n : Nat} {p q : Rat} (h1 : RB m p) (h2 : RB n q) : RB (m + n + 1) (p + q) := by
 rw [← Nm.plus_eq]
 refine ⟨Bd.num (Bd.add (h1.1.mul h2.2) ((h2.1.mul h1.2).mono (by lia))), Bd.den (Int.mul_ne_zero (Nm.den_ne p) (Nm.den_ne q)) ((h1.2.mul h2.2).mono (by lia))⟩
theorem RB.times {m n : Nat} {p q : Rat} (h1 : RB m p) (h2 : RB n q) : RB (m + n) (p * q) := by
 rw [← Nm.times_eq]
 exact ⟨Bd.num (h1.1.mul h2.1), Bd.den (Int.mul_ne_zero (Nm.den_ne p) (Nm.den_ne q)) (h1.2.mul h2.2)⟩
theorem RB.zero {n : Nat} (h : 1 ≤ n) : RB n 0 := ⟨(show Bd 1 0 by unfold Bd; decide).mono h, (show Bd 1 1 by unfold Bd; decide).mono h⟩
theorem RB.one {n : Nat} (h : 1 ≤ n) : RB n 1 := ⟨(show Bd 1 1 by unfold Bd; decide).mono h, (show Bd 1 1 by unfold Bd; decide).mono h⟩
inductive spBin (K : PySem.W.Frag) (g : Rat → Rat → Rat) (vs : List V) (H : Hp) (Q : VK) (E_3 : XK) : Prop
 | mk (x y : V) (p q : Rat) (m n : Nat) (h1 : vs = [x, y]) (h2 : NumV K H x p) (h3 : NumV K H y q) (h4 : RB m p) (h5 : RB n q) (h6 : m + n ≤ 100000000) (h7 : ∀ r, H r = none → Q (.ref r) (upd H r (nT (g p q)))) : spBin K g vs H Q E_3
end L2
namespace L2
open PySem PySem.Spec PyProof.Rows
def Sq (b : Bool) (K : PySem.W.Frag) (H : Hp) (a : Addr) (xs : List V) : Prop := match b with
 | true => SqL K H a xs
 | false => SqT K H a xs
theorem Sq.same {b : Bool} {K : PySem.W.Frag} {H H' : Hp} {a : Addr} {xs : List V} (h : Sq b K H a xs) (e : Same H H') : Sq b K H' a xs := by
 cases b
 · exact SqT.same h e
 · exact e.seq h
theorem pi_either {X : Cx} {tg l : Expr} {w1 w2 : TI} (h1 : PI X tg l w1) (h2 : PI X tg l w2) : PI X tg l (fun σ H R => w1 σ H R ∨ w2 σ H R) := fun pins s σ H R I h => by
 rcases h with h | h
 · exact h1 pins s σ H R I h
 · exact h2 pins s σ H R I h
abbrev iSeq (K : PySem.W.Frag) (tl : TE) : TI := fun σ H R => iList K tl σ H R ∨ iTup K tl σ H R
theorem for_seq {K : PySem.W.Frag} {b : Bool} {a : Addr} {n : Nat} {xs : List V} {g : TG} {tb : TS} {D : Ends} {σ : St} {H : Hp} (hσ : σ[n]? = some (some (.ref a))) (Pv : Nat → St → Hp → Prop) (h0 : Pv 0 σ H) (hl : ∀ i σ H, i ≤ xs.length → Pv i σ H → Sq b K H a xs)
   (hs : ∀ i x σ H, xs[i]? = some x → Pv i σ H → g x σ H fun σ2 H2 => tb { D with nx := Pv (i + 1), ct := Pv (i + 1), bk := D.nx } σ2 H2) (hd : ∀ σ H, Pv xs.length σ H → D.nx σ H) :
   tFor (iSeq K (tVar n)) g tb D σ H := by
 have q := hl 0 σ H (Nat.zero_le _) h0
 cases b with
 | true => exact .inl ⟨_, hσ, a, rfl, ⟨xs, q⟩, for_list Pv h0 hl hs hd⟩
 | false => exact .inr ⟨_, hσ, a, rfl, ⟨xs, q⟩, for_tup Pv h0 hl hs hd⟩
theorem lc_seq {K : PySem.W.Frag} {b : Bool} {a : Addr} {n : Nat} {js : List Nat} {xs : List V} {te : TE} {σ : St} {H : Hp} {Q : VK} (hσ : σ[n]? = some (some (.ref a))) (Pv : Nat → List V → Hp → Prop) (h0 : Pv 0 [] H)
   (hl : ∀ i zs H, i ≤ xs.length → Pv i zs H → Sq b K H a xs ∧ zs.length = i) (hz : xs.length ≤ sizeLine)
   (hs : ∀ i x zs H, xs[i]? = some x → Pv i zs H → te ((cS 1 js σ).set 0 (some x)) H fun y H4 => Pv (i + 1) (zs ++ [y]) H4) (fin : ∀ zs H', Pv xs.length zs H' → ∀ p, H' p = none → Q (.ref p) (upd H' p (.lst zs))) :
   tLC (iSeq K (tVar n)) 1 js (gName 0) tYes te σ H Q := by
 have q := (hl 0 [] H (Nat.zero_le _) h0).1
 cases b with
 | true =>
   refine lc_of (.inl ⟨_, hσ, a, rfl, ⟨xs, q⟩, xs.length, Pv, h0, ⟨?_, ?_, ?_⟩⟩)
   · intro i zs H' hi p
     have hle := Nat.le_of_lt hi
     obtain ⟨h1, h2⟩ := hl i zs H' hle p
     exact ⟨⟨xs, xs[i], h1, by simp [hi]⟩, by lia⟩
   · rintro i zs H' x H1 hi p ⟨rfl, y⟩
     have hle := Nat.le_of_lt hi
     have hx := y xs (hl i zs _ hle p).1
     exact hs i x zs _ hx p
   · intro zs H' p
     have hle := Nat.le_refl xs.length
     obtain ⟨h1, h2⟩ := hl _ zs H' hle p
     exact ⟨⟨xs, h1, Nat.le_refl _⟩, by lia, fin zs H' p⟩
 | false =>
   refine lc_of (.inr ⟨_, hσ, a, rfl, ⟨xs, q⟩, xs.length, Pv, h0, ⟨?_, ?_, ?_⟩⟩)
   · intro i zs H' hi p
     have hle := Nat.le_of_lt hi
     obtain ⟨h1, h2⟩ := hl i zs H' hle p
     exact ⟨⟨xs, xs[i], h1, by simp [hi]⟩, by lia⟩
   · rintro i zs H' x H1 hi p ⟨rfl, y⟩
     have hle := Nat.le_of_lt hi
     have hx := y xs (hl i zs _ hle p).1
     exact hs i x zs _ hx p
   · intro zs H' p
     have hle := Nat.le_refl xs.length
     obtain ⟨h1, h2⟩ := hl _ zs H' hle p
     exact ⟨⟨xs, h1, Nat.le_refl _⟩, by lia, fin zs H' p⟩
section
variable {X : Cx} (K : PySem.W.Frag)
theorem ixT (e : X.K = K := by rfl) : IxR X (rIxT K) := by subst e; exact ix_tup
theorem ixL (e : X.K = K := by rfl) : IxR X (rIxL K) := by subst e; exact ix_list
theorem eqD (hu : X.A.units + 64 < cLine) (e : X.K = K := by rfl) : OpR X (compareOp .Eq) (rEqD K false) := by subst e; exact op_eqD hu
theorem neD (hu : X.A.units + 64 < cLine) (e : X.K = K := by rfl) : OpR X (compareOp .NotEq) (rEqD K true) := by subst e; exact op_neD hu
theorem slL (e : X.K = K := by rfl) : SlR X (rSlL K) := by subst e; exact sl_list
inductive TyX (K : PySem.W.Frag) (H : Hp) : V → Value → Prop where
 | of {x : V} {t : Value} (h : TyOf K H x t) : TyX K H x t
 | tup {a : Addr} {xs : List V} (h : SqT K H a xs) : TyX K H (.ref a) (.type "tuple")
 | lst {a : Addr} {xs : List V} (h : SqL K H a xs) : TyX K H (.ref a) (.type "list")
inductive cLen (xs : List V) (H : Hp) (Q : VK) : Prop
 | mk (p : _) (ys : _) (h1 : xs = [.ref p]) (h2 : (SqL K H p ys ∨ SqT K H p ys)) (h3 : Q (.int ys.length) H) : cLen xs H Q
theorem lenK (e : X.K = K := by rfl) : CallR X (.builtin "len") (cLen K) := by subst e; exact fun pins s σ H xs us Q I r ⟨p, ys, h1, h2, h3⟩ => call_len_seq pins s σ H xs us Q I r ⟨p, ys, h1, h2, h3⟩
inductive cList (xs : List V) (H : Hp) (Q : VK) : Prop
 | mk (p : _) (ys : _) (h1 : xs = [.ref p]) (h2 : (SqL K H p ys ∨ SqT K H p ys)) (h3 : ∀ l, H l = none → Q (.ref l) (upd H l (.lst ys))) : cList xs H Q
theorem listK (e : X.K = K := by rfl) : CallR X (.type "list") (cList K) := by subst e; exact fun pins s σ H xs us Q I r ⟨p, ys, h1, h2, h3⟩ => call_list_of pins s σ H xs us Q I r ⟨p, ys, h1, h2, h3⟩
inductive cTuple (xs : List V) (H : Hp) (Q : VK) : Prop
 | mk (p : _) (ys : _) (h1 : xs = [.ref p]) (h2 : ((SqL K H p ys ∧ ∀ l, H l = none → Q (.ref l) (upd H l (.tup ys))) ∨ (SqT K H p ys ∧ Q (.ref p) H))) : cTuple xs H Q
theorem tupleK (e : X.K = K := by rfl) : CallR X (.type "tuple") (cTuple K) := by subst e; exact fun pins s σ H xs us Q I r ⟨p, ys, h1, h2⟩ => call_tuple_of pins s σ H xs us Q I r ⟨p, ys, h1, h2⟩
variable {tg l : Expr} {tl : TE}
theorem piL (hl : PE X l tl) (e : X.K = K := by rfl) : PI X tg l (iList K tl) := by subst e; exact pi_list hl
theorem piT (hl : PE X l tl) (e : X.K = K := by rfl) : PI X tg l (iTup K tl) := by subst e; exact pi_tup hl
theorem piS (hl : PE X l tl) (e : X.K = K := by rfl) : PI X tg l (iSeq K tl) := by subst e; exact pi_either (pi_list hl) (pi_tup hl)
theorem piRev {p pos : Pos} (hg : Gl X "reversed") (hm : X.mg "reversed" = none) (hl : PE X l tl) (hs : starEach [l] X.env = [(false, eval l X.env)] := by rfl) (e : X.K = K := by rfl) : PI X tg (.Call (.Name "reversed" p) [l] [] pos) (iRev K tl) := by subst e; exact pi_rev hg hm hl hs
theorem pgT {es : List Expr} {k : Nat} {t : TGs} {n : Nat} {pos : Pos} (hc : X.calm = true) (h : PGs X es t) (hn : (assignEach es X.env).length = n := by rfl) (hst : (assignEach es X.env).findIdx? (·.1) = none := by rfl) (e : X.K = K := by rfl) : PG X (.Tuple es k pos) (gTup K n t) := by subst e; exact pg_tup hc h hn hst
end
end L2
namespace L2
open PySem PySem.Spec PyProof.Rows
inductive Whole (K : PySem.W.Frag) (H : Hp) : V → Bool → Prop where
 | int (i : Int) : Whole K H (.int i) true
 | bl (b : Bool) : Whole K H (.bl b) false
 | oth {x : V} {t : Value} (ty : TyX K H x t) (h : PySem.W.kitOne K t (.type "int") = some false) : Whole K H x false
theorem lc_itr {lo : Int} {n : Nat} {js : List Nat} {te : TE} {σ : St} {H : Hp} {Fin : List V → Hp → Prop} (Pv : Nat → List V → Hp → Prop) (h0 : Pv 0 [] H) (hl : ∀ i zs H, i ≤ n → Pv i zs H → zs.length = i) (hz : n ≤ sizeLine)
   (hs : ∀ i zs H, i < n → Pv i zs H → te ((cS 1 js σ).set 0 (some (.int (lo + i)))) H fun y H4 => Pv (i + 1) (zs ++ [y]) H4) (fin : ∀ zs H', Pv n zs H' → Fin zs H') :
   ∃ (n' : Nat) (W : Nat → List V → Hp → Prop), W 0 [] H ∧ LcW (Itr lo n) n' 1 js σ (gName 0) tYes te Fin W := by
 refine ⟨n, Pv, h0, ⟨?_, ?_, ?_⟩⟩
 · intro i zs H' hi p
   have := hl i zs H' (Nat.le_of_lt hi) p
   exact ⟨hi, by lia⟩
 · rintro i zs H' x H1 hi p ⟨rfl, rfl⟩
   exact hs i zs _ hi p
 · intro zs H' p
   have := hl n zs H' (Nat.le_refl _) p
   exact ⟨Nat.le_refl _, by lia, fin zs H' p⟩
theorem atI_back {α : Type} {xs : List α} {v : α} (h : xs[xs.length - 1]? = some v) : atI xs (-1) = some v := by
 have hl : xs.length - 1 < xs.length := (List.getElem?_eq_some_iff.mp h).1
 have e : ixN xs.length (-1) = some (xs.length - 1) := by
   unfold ixN
   rw [if_neg (by decide), if_pos (by lia)]
   congr 1
   lia
 unfold atI
 rw [e]
 exact h
def Good (qs : List Rat) : Prop := qs = [] ∨ ∃ q, qs[qs.length - 1]? = some q ∧ q ≠ 0
theorem good_strip (qs : List Rat) : Good (Cv.strip qs) := by
 by_cases h : Cv.strip qs = []
 · exact .inl h
 · have hl : 0 < (Cv.strip qs).length := List.length_pos_iff.mpr h
   have e := List.getElem?_eq_getElem (l := Cv.strip qs) (i := (Cv.strip qs).length - 1) (by lia)
   refine .inr ⟨_, e, fun z => Cv.strip_last qs h ?_⟩
   rw [e, z]
theorem Pen.sm {H H' : Hp} {p : Addr} (h : Pen H p) (e : Same H H') : Pen H' p := let ⟨c0, c1, c2, z⟩ := h; ⟨c0, c1, c2, e _ _ z⟩
theorem at_plus {ns : List Int} {i : Nat} {t : Int} {k : Int} (h : ns[i]? = some t) (e : k = (i : Int)) : atI (ns.map V.int) k = some (.int t) := by
 subst e
 exact atI_nat (by rw [List.getElem?_map, h]; rfl)
theorem ixN_plus {n i : Nat} {k : Int} (h : i < n) (e : k = (i : Int)) : ixN n k = some i := by
 subst e
 unfold ixN
 rw [if_pos (by lia), if_pos (by lia), Int.toNat_natCast]
theorem Same.put {H H' : Hp} {p : Addr} {o : HO} (h : Same H H') (hp : H p = none) : Same H (upd H' p o) := fun b u q => by rw [upd_ne (ne_of_none q hp)]; exact h b u q
def Up (c M : Nat) (t : Int) : Prop := t.natAbs ≤ c * 2 ^ M
theorem Up.bd {c k M : Nat} {t : Int} (h : Up c M t) (hc : c < 2 ^ k) : Bd (M + k) t := by
 unfold Up at h
 unfold Bd
 rw [Nat.pow_add, Nat.mul_comm (2 ^ M)]
 exact Nat.lt_of_le_of_lt h (Nat.mul_lt_mul_of_pos_right hc (Nat.pow_pos (by decide)))
theorem Up.add {c M : Nat} {t d : Int} (h : Up c M t) (hd : Bd M d) : Up (c + 1) M (t + d) := by
 unfold Up at *
 unfold Bd at hd
 rw [Nat.add_mul, Nat.one_mul]
 exact Nat.le_trans (Int.natAbs_add_le t d) (Nat.add_le_add h (Nat.le_of_lt hd))
theorem Up.mono {c c' M : Nat} {t : Int} (h : Up c M t) (hc : c ≤ c') : Up c' M t := Nat.le_trans h (Nat.mul_le_mul_right _ hc)
end L2
namespace L2
open PySem PySem.Spec PyProof.Rows
def CX1 (P : Program) (w : World) : CXT := fun outer H s E e s' => ∃ (ea : Addr) (cls a0 : Value) (B : Heap) (H' : Hp), e = .ref ea ∧ s'.os = s.os ∧ AllBare s'.gens ∧ Un (frs outer) [] H H' s.heap s'.heap ∧ HOk P w H' s'.heap ∧
 Heap.FlyingW B outer ea cls a0 s'.heap ∧ (∀ b o, s.heap.get? b = some o → b ∉ frs outer → ∃ o', B.get? b = some o') ∧ (∀ b u, H' b = some u → ∃ o', B.get? b = some o') ∧ E cls none H'
section
variable {X : Cx} {pins : List (Addr × Obj)} {σ : St} {H H' : Hp} {s s' : Shared} {B : Heap}
end
section
variable {P : Program} {w : World} {K : PySem.W.Frag} {mg : Str → Option Value} {base : Heap} {N : List Str} {qual : Str} {scope : Scope} {f : Addr} {cd : Value} {A : Around} {outer : List Env} {s : Shared} {H : Hp} {E : XK}
end
structure XCls (K : PySem.W.Frag) (x : Str) (C : Addr) : Prop where
 ns : PySem.W.nsIn K mainGlobals x = some (some (.ref C))
 ob : ∃ bm N nm q bs hdct sn sub ab col dd k0 k1 k2 k3 k5, K.lookup C = some (excClassObj nm q C N bs bm hdct sn sub ab col dd k0 k1 k2 k3 k5 "ValueError.__new__")
 ex : PySem.W.excIn K C [.type "ValueError", .type "Exception", .type "BaseException", .type "object"] "ValueError.__new__" = true
section
variable {X : Cx} {pins : List (Addr × Obj)} {σ : St} {H H' : Hp} {s s' : Shared} {B : Heap}
end
section
open PySem.W PySem.Builtin PySem.Builtin.ObjectAttr PySem.Builtin.Getset_descriptor
variable {prog : Program} {w : World} {A : Around} {E : Value → Shared → Prop} {s : Shared} {K : PySem.W.Frag} {x D : Addr}
structure XTy (K : PySem.W.Frag) (D : Addr) : Prop where
 ga : findIn K (.ref D) "__getattribute__" = some (some (.builtin "BaseException.__getattribute__"))
 gt : findIn K (.ref D) "__getattr__" = some none
 ca : findIn K (.ref D) "__class__" = some (some (.builtin "object.__class__"))
 gg : specialIn K (.builtin "object.__class__") "__get__" = some (some (.builtin "getset_descriptor.__get__"))
 tk : takesIn K (.builtin "object.__class__") = some true
 ob : mroIn K D (.type "object") = some true
 be : mroIn K D (.type "BaseException") = some true
 cl : ∃ c d cd sl, K.lookup D = some ⟨c, d, .cls cd, sl⟩
end
section
open PySem.W
variable {X : Cx} (K : PySem.W.Frag)
end
section
variable {P : Program} {w : World} {K : PySem.W.Frag} {mg : Str → Option Value} {base : Heap}
end
structure FdX (P : Program) (w : World) (K : PySem.W.Frag) (mg : Str → Option Value) (base : Heap) (n : Nat) (x : Str) (ps : List Str) (sp : Sp) : Prop where
 ex : ∃ (f : Addr) (fd : FuncData), FnOk P w K mg base (CX1 P w) n f fd ps sp ∧ Binds K fd ps [] ∧ PySem.W.keepIn K (.ref f) = true ∧ mg x = some (.ref f)
end L2
namespace L2
open PySem PySem.Spec PyProof.Rows
def Itd (lo : Int) (n : Nat) : It := ⟨fun i _ => i < n, fun i H x H' => H' = H ∧ x = .int (lo - i), fun i _ => n ≤ i⟩
theorem turn_down {P : Program} {w : World} {K : PySem.W.Frag} {tg : Expr} (it : Addr) (lo : Int) (n : Nat) : Turn P w K tg (Itd lo n) [it] it (fun i h => IsRangeIter h it (lo + (i : Nat) * (-1)) ((n : Int) - (i : Nat)) (-1)) where
 mem := by simp
 obj := fun i h st b hb => by
   have e : b = it := by simpa using hb
   subst e
   exact ⟨_, st, fun v z => by
     have z' : Data.fields _ = Data.cell v := z
     cases z'⟩
 keep := fun i h h' st k => k it (by simp) _ st
 item := by
   intro X hP hw hK hc i pins s σ H E I hf st hg
   subst hP hw hK
   obtain ⟨f0, f1, f2, f3, f4, f5⟩ := hf it (by simp)
   refine (Walks.range (prog := X.prog) (w := X.w) (I.ok.hd hc) it lo (-1) n).item i s _ _ hg st fun v h' tk hv st' kk => ?_
   obtain ⟨t, rfl⟩ := hv
   have I1 : Inv X pins σ H { s with heap := h', toks := tk } := I.turned (fun b o hb e => kk b o (by simpa using hb) e) f0 f1 f3 f4 f5
   refine ⟨_, rfl, go_of (s := { s with heap := h', toks := tk }) (n := "range_iterator") st' rfl rfl (by decide) ⟨.int (lo - i), H, I1, ⟨t, ?_⟩, ⟨rfl, rfl⟩, st', fun b hb => (hf b hb).1⟩⟩
   rw [show lo + (i : Int) * -1 = lo - i by lia]
 done := by
   intro X hP hw hK hc i pins s σ H E I hf st hg
   subst hP hw hK
   obtain ⟨f0, f1, f2, f3, f4, f5⟩ := hf it (by simp)
   exact wpAny_pyNext_range_end (I.ok.hd hc) st (by have : n ≤ i := hg; lia) fun h' eb => ⟨rfl, I.turned (t' := s.toks) (fun b o hb e => eb b o hb e) f0 f1 f3 f4 f5⟩
 self := fun _ _ _ _ _ st h => wpAny_pyIter_rangeiter st h
theorem size_down (a b : Int) : Builtin.Range.rangeSize a b (-1) = (((a - b).toNat : Nat) : Int) := by
 unfold Builtin.Range.rangeSize
 rw [if_neg (by decide)]
 split
 · rw [show -(-1 : Int) = 1 by decide, Int.ediv_one]; lia
 · lia
section
variable {X : Cx} {tg : Expr}
def iDown (ta : TA) : TI := fun σ H R => ta σ H fun vs H1 => ∃ i j : Int, vs = [.int i, .int j, .int (-1)] ∧ (-1000000 ≤ i ∧ i ≤ 1000000 ∧ -1000000 ≤ j ∧ j ≤ 1000000) ∧ R (Itd i (i - j).toNat) H1
theorem pi_down {a b c : Expr} {ta : TA} {p pos : Pos} (hg : Gl X "range") (hm : X.mg "range" = none) (ha : PA X [a, b, c] ta) (hs : starEach [a, b, c] X.env = [(false, eval a X.env), (false, eval b X.env), (false, eval c X.env)] := by rfl)
   (hs2 : starEach [b, c] X.env = [(false, eval b X.env), (false, eval c X.env)] := by rfl) : PI X tg (.Call (.Name "range" p) [a, b, c] [] pos) (iDown ta) := by
 intro pins s σ H R I h
 refine Call_ (ld_blt I hg hm boot_range (PyProof.Rows.callWith_type1 (thn (ha pos pins s σ H _ I h) fun us s1 ⟨vs, H1, I1, r1, q1⟩ => ?_) (by rw [hs, hs2]) (by rw [hs2]; rfl)))
 obtain ⟨i, j, e, ⟨q1, q2, q3, q4⟩, q⟩ := q1
 subst e
 cases r1 with
 | cons r rr =>
   cases rr with
   | cons r' rr =>
     cases rr with
     | cons r3 rr =>
       cases rr
       obtain ⟨t, rfl⟩ := r
       obtain ⟨t', rfl⟩ := r'
       obtain ⟨t3, rfl⟩ := r3
       have sm : Builtin.Range.small i j (-1) = true := by
         unfold Builtin.Range.small
         rw [size_down]
         simp only [Builtin.Range.rangeFitsLong, Bool.and_eq_true, Bool.or_eq_true, decide_eq_true_eq, beq_iff_eq]
         rw [if_neg (by decide)]
         simp only [Bool.and_eq_true, decide_eq_true_eq]
         lia
       refine call_range_3 (by decide) ?_ (.inl (PyProof.noPylong_small (by lia)))
       refine wpAny_pyIter_range (IsRange.new ..) sm ?_
       have I2 : Inv X pins σ H1 { s1 with heap := s1.heap.push { cls := .type "range", data := .fields #[.int i t, .int j t', .int (-1) t3] }, toks := s1.toks } := I1.kept fun b o e => Heap.get?_push_of_some _ e
       refine ⟨_, [_], _, _, H1, rfl, I2.kept (t' := s1.toks) fun b o e => Heap.get?_push_of_some _ e, turn_down _ i (i - j).toNat, ?_, fun b hb => ?_, q⟩
       · show IsRangeIter _ _ (i + ((0 : Nat) : Int) * (-1)) ((((i - j).toNat : Nat) : Int) - ((0 : Nat) : Int)) (-1)
         rw [show i + ((0 : Nat) : Int) * (-1) = i by lia, show (((i - j).toNat : Nat) : Int) - ((0 : Nat) : Int) = Builtin.Range.rangeSize i j (-1) by rw [size_down]; lia]
         exact Heap.get?_push_size _ rfl
       · have e := List.mem_singleton.mp hb
         subst e
         exact I2.fpOk (Nat.le_refl _) (I2.hok.fresh (Nat.le_refl _))
end
theorem for_down {lo : Int} {n : Nat} {g : TG} {tb : TS} {D : Ends} {σ : St} {H : Hp} (Pv : Nat → St → Hp → Prop) (h0 : Pv 0 σ H)
   (hs : ∀ i σ H, i < n → Pv i σ H → g (.int (lo - i)) σ H fun σ2 H2 => tb { D with nx := Pv (i + 1), ct := Pv (i + 1), bk := D.nx } σ2 H2) (hd : ∀ σ H, Pv n σ H → D.nx σ H) :
   ∃ W : Nat → Nat → St → Hp → Prop, (∃ m, W 0 m σ H) ∧ ∀ i m σ H, W i m σ H →
     ((Itd lo n).stop i H ∧ D.nx σ H) ∨ ((Itd lo n).go i H ∧ ∃ N : St → Hp → Prop, (∀ σ' H', N σ' H' → ∃ m', m' < m ∧ W (i + 1) m' σ' H') ∧ ∀ x H', (Itd lo n).yld i H x H' → g x σ H' fun σ2 H2 => tb { D with nx := N, ct := N, bk := D.nx } σ2 H2) := by
 refine ⟨fun i m σ H => m = n - i ∧ i ≤ n ∧ Pv i σ H, ⟨n, by simp, Nat.zero_le _, h0⟩, ?_⟩
 rintro i m σ H ⟨rfl, hi, p⟩
 by_cases hlt : i < n
 · refine .inr ⟨hlt, Pv (i + 1), fun σ' H' p' => ⟨n - (i + 1), by lia, rfl, hlt, p'⟩, fun x H' y => ?_⟩
   obtain ⟨rfl, rfl⟩ := y
   exact hs i σ _ hlt p
 · have e : i = n := by lia
   subst e
   exact .inl ⟨Nat.le_refl _, hd σ H p⟩
theorem lc_lst {K : PySem.W.Frag} {a : Addr} {js : List Nat} {xs : List V} {te : TE} {σ : St} {H : Hp} {Fin : List V → Hp → Prop} (Pv : Nat → List V → Hp → Prop) (h0 : Pv 0 [] H)
   (hl : ∀ i zs H, i ≤ xs.length → Pv i zs H → SqL K H a xs ∧ zs.length = i) (hz : xs.length ≤ sizeLine)
   (hs : ∀ i x zs H, xs[i]? = some x → Pv i zs H → te ((cS 1 js σ).set 0 (some x)) H fun y H4 => Pv (i + 1) (zs ++ [y]) H4) (fin : ∀ zs H', Pv xs.length zs H' → Fin zs H') :
   ∃ (n' : Nat) (W : Nat → List V → Hp → Prop), W 0 [] H ∧ LcW (Itl K a) n' 1 js σ (gName 0) tYes te Fin W := by
 refine ⟨xs.length, Pv, h0, ⟨?_, ?_, ?_⟩⟩
 · intro i zs H' hi p
   obtain ⟨h1, h2⟩ := hl i zs H' (Nat.le_of_lt hi) p
   exact ⟨⟨xs, xs[i], h1, by simp [hi]⟩, by lia⟩
 · rintro i zs H' x H1 hi p ⟨rfl, y⟩
   exact hs i x zs _ (y xs (hl i zs _ (Nat.le_of_lt hi) p).1) p
 · intro zs H' p
   obtain ⟨h1, h2⟩ := hl _ zs H' (Nat.le_refl _) p
   exact ⟨⟨xs, h1, Nat.le_refl _⟩, by lia, fin zs H' p⟩
theorem cut_back (xs : List V) : cutV xs none (some (-1)) = xs.take (xs.length - 1) := by
 unfold cutV
 have e1 : HT.sIx xs.length 0 none = 0 := rfl
 have e2 : HT.sIx xs.length xs.length (some (-1)) = xs.length - 1 := by
   show (if (-1 : Int) < 0 then ((-1 : Int) + (xs.length : Int)).toNat else min (-1 : Int).toNat xs.length) = xs.length - 1
   rw [if_pos (by decide)]
   lia
 rw [e1, e2, List.drop_zero, Nat.sub_zero]
theorem Bd.pow {L : Nat} {b : Int} (h : Bd L b) : ∀ n : Nat, Bd (L * n + 1) (b ^ n)
 | 0 => by rw [Int.pow_zero]; exact (show Bd 1 1 by unfold Bd; decide).mono (by lia)
 | n + 1 => by
   rw [Int.pow_succ]
   exact ((Bd.pow h n).mul h).mono (by rw [Nat.mul_add]; lia)
theorem ints_scale {lead : Int} {ts : List Int} (i : Nat) {t : Int} (h : ts[i]? = some t) : (((ts.take i).map (lead * ·)).map V.int) ++ [V.int (lead * t)] = ((ts.take (i + 1)).map (lead * ·)).map V.int := by
 rw [List.take_add_one, h, List.map_append, List.map_append]
 rfl
end L2
namespace L2
open PySem PySem.Spec PyProof.Rows
theorem seq_joinN {i : Nat} {v : V} {c : TT} {t u rest : TS} {D : Ends} {σ : St} {H : Hp} (Pv : St → Hp → Prop) (h : ∀ nx : St → Hp → Prop, (∀ σ' H', Pv σ' H' → nx σ' H') → tIfS c t u { D with nx := nx } (σ.set i (some v)) H) (k : ∀ σ' H', Pv σ' H' → rest D σ' H') : gName i v σ H (tSeq (tIfS c t u) rest D) := h _ k
theorem Bd.neg {n : Nat} {x : Int} (h : Bd n x) : Bd n (-x) := by unfold Bd at *; rw [Int.natAbs_neg]; exact h
theorem rcancel {a c b : Rat} (hb : b ≠ 0) (h : a * b = c * b) : a = c := by
 have h2 : a * b * b⁻¹ = c * b * b⁻¹ := by rw [h]
 rw [Rat.mul_assoc, Rat.mul_assoc, Rat.mul_inv_cancel _ hb, Rat.mul_one, Rat.mul_one] at h2
 exact h2
theorem div_back {b : Int} (hb : b ≠ 0) (t : Int) : Rat.divInt t b * (b : Rat) = (t : Rat) := by
 rw [Rat.divInt_eq_div]
 exact Rat.div_mul_cancel (Nm.cast_ne hb)
theorem ev_over {b : Int} (hb : b ≠ 0) (x : Rat) : ∀ ts : List Int, Cv.ev (ts.map fun t => Rat.divInt t b) x * (b : Rat) = Cv.evI ts x
 | [] => by show (0 : Rat) * _ = 0; grind
 | t :: ts => by
   have ih := ev_over hb x ts
   have e := div_back hb t
   show (Rat.divInt t b + x * Cv.ev (ts.map fun t => Rat.divInt t b) x) * (b : Rat) = (t : Rat) + x * Cv.evI ts x
   rw [← ih, ← e]
   grind
theorem drop_at {α : Type} {l : List α} {n i : Nat} {v : α} (hn : l.length = n) (hi : i < n) (h : l[n - 1 - i]? = some v) : l.drop (n - (i + 1)) = v :: l.drop (n - i) := by
 have hlt : n - (i + 1) < l.length := by rw [hn]; exact Nat.sub_lt (Nat.lt_of_le_of_lt (Nat.zero_le _) hi) (Nat.succ_pos i)
 rw [List.drop_eq_getElem_cons hlt, show n - (i + 1) + 1 = n - i from Nat.succ_pred_eq_of_pos (Nat.sub_pos_of_lt hi)]
 congr 1
 have e : l[n - (i + 1)]? = some v := by rw [show n - (i + 1) = n - 1 - i by rw [Nat.sub_sub, Nat.add_comm]]; exact h
 rw [List.getElem?_eq_getElem hlt] at e
 exact Option.some.inj e
theorem Mv.put' {a l : Addr} {H H' : Hp} {o : HO} (m : Mv a H H') (hl : H l = none) : Mv a H (upd H' l o) := fun b u n q => by rw [upd_ne (ne_of_none q hl)]; exact m b u n q
theorem Pen.put' {H : Hp} {a l : Addr} {o : HO} (h : Pen H a) (la : l ≠ a) : Pen (upd H l o) a := let ⟨x0, x1, x2, ex⟩ := h; ⟨x0, x1, x2, by rw [upd_ne (Ne.symm la)]; exact ex⟩
theorem Pen.ne' {H : Hp} {a l : Addr} (h : Pen H a) (hl : H l = none) : l ≠ a := let ⟨_, _, _, ex⟩ := h; (ne_of_none ex hl).symm
def RowV (K : PySem.W.Frag) (H : Hp) (x : V) (rs : List Rat) : Prop := ∃ a ys, x = .ref a ∧ SqL K H a ys ∧ Nums K H ys rs
abbrev Rows (K : PySem.W.Frag) (H : Hp) : List V → List (List Rat) → Prop := Paired (RowV K H)
end L2
namespace L2
open PySem PySem.Spec PyProof.Rows
section
variable {X : Cx}
@[irreducible] def rInD (K : PySem.W.Frag) (neg : Bool) : R2 := fun x y H Q => ∃ p ds d, y = .ref p ∧ Rds K H (.ref p) (.list ds) ∧ Rds K H x d ∧ SeqAt.shaped (.list ds) = true ∧ SeqAt.shaped d = true ∧ Q (.bl (if neg then !(ds.any fun y => PyData.eqv y d) else ds.any fun y => PyData.eqv y d)) H
theorem inD_of {K : PySem.W.Frag} {neg : Bool} {x y : V} {H : Hp} {Q : VK} (h : ∃ p ds d, y = .ref p ∧ Rds K H (.ref p) (.list ds) ∧ Rds K H x d ∧ SeqAt.shaped (.list ds) = true ∧ SeqAt.shaped d = true ∧ Q (.bl (if neg then !(ds.any fun y => PyData.eqv y d) else ds.any fun y => PyData.eqv y d)) H) : rInD K neg x y H Q := by
 unfold rInD; exact h
theorem inD (K : PySem.W.Frag) {k : Nat} (hr : Room k X.A) (e : X.K = K := by rfl) : OpR X (compareOp .In) (rInD K false) := by
 subst e
 intro pins s σ H x y v u Q I rx ry h
 unfold rInD at h
 obtain ⟨p, ds, d, rfl, r1, r2, h1, h2, q⟩ := h
 cases ry
 obtain ⟨as, q1⟩ := reads_of I r1 (u := .ref p) rfl
 obtain ⟨bs, q2⟩ := reads_of I r2 rx
 exact SeqAt.in_list_reads q1 q2 (SeqAt.canLay_of_shaped h1) (SeqAt.canLay_of_shaped h2) (PyProof.Rows.room_in_shaped h2 (by have := hr.un; lia)) ⟨.bl _, H, I, rfl, q⟩
end
theorem any_nD (q : Rat) : ∀ qs : List Rat, ((qs.map nD).any fun y => PyData.eqv y (nD q)) = decide (q ∈ qs)
 | [] => by simp
 | c :: r => by
   rw [List.map_cons, List.any_cons, nD_eqv, any_nD q r, Bool.eq_iff_iff]
   simp only [Bool.or_eq_true, decide_eq_true_eq, List.mem_cons]
   constructor
   · rintro (h | h)
     · exact .inl h.symm
     · exact .inr h
   · rintro (h | h)
     · exact .inl h.symm
     · exact .inr h
theorem inN {K : PySem.W.Frag} {H : Hp} {x : V} {a : Addr} {xs : List V} {q : Rat} {qs : List Rat} {Q : VK} {neg : Bool} (h1 : NumV K H x q) (s2 : SqL K H a xs) (n2 : Nums K H xs qs) (h : Q (.bl (if neg then !decide (q ∈ qs) else decide (q ∈ qs))) H) : rInD K neg x (.ref a) H Q :=
 inD_of ⟨a, _, _, rfl, n2.rdsL s2, h1.rds, nDs_shL _, nD_shaped _, by rw [any_nD]; exact h⟩
structure Told where
 x : Rat
 k : Int
 n : Rat
deriving DecidableEq
end L2
namespace L2
open PySem PySem.Spec PyProof.Rows
section
variable {X : Cx} {e : Expr} {te : TE}
end
def StaysS (t : TGs) (nt : Nat) : Prop := ∀ (vs : List V) (σ : St) (H : Hp) (Q : St → Hp → Prop) (σ0 : St), (σ.length = σ0.length ∧ σ.drop nt = σ0.drop nt) → t vs σ H Q → t vs σ H fun σ2 H2 => (σ2.length = σ0.length ∧ σ2.drop nt = σ0.drop nt) ∧ Q σ2 H2
theorem stays_nilS {nt : Nat} : StaysS gNil nt := fun _ _ _ _ _ r ⟨e, q⟩ => ⟨e, r, q⟩
theorem stays_consS {i nt : Nat} {u : TGs} (h : i < nt) (hu : StaysS u nt) : StaysS (gCons (gName i) u) nt := fun vs σ H Q σ0 r ⟨v, rs, e, q⟩ => ⟨v, rs, e, hu rs (σ.set i (some v)) H Q σ0 ⟨by rw [List.length_set]; exact r.1, by
 rw [← r.2]
 apply List.ext_getElem?
 intro k
 rw [List.getElem?_drop, List.getElem?_drop, List.getElem?_set_ne (by lia)]⟩ q⟩
theorem stays_tup {K : PySem.W.Frag} {n nt : Nat} {t : TGs} (h : StaysS t nt) : Stays (gTup K n t) nt := fun _ σ H Q ⟨a, xs, e, s, l, q⟩ => ⟨a, xs, e, s, l, h xs σ H Q σ ⟨rfl, rfl⟩ q⟩
end L2
namespace L2
def addL : List Rat → List Rat → List Rat
 | [], m => m
 | a :: l, [] => a :: l
 | a :: l, b :: m => (a + b) :: addL l m
theorem addL_nil (l : List Rat) : addL l [] = l := by cases l <;> rfl
theorem ev_addL (x : Rat) : ∀ l m, Cv.ev (addL l m) x = Cv.ev l x + Cv.ev m x
 | [], m => by show _ = 0 + _; grind [addL]
 | a :: l, [] => by show _ = _ + 0; rw [addL]; grind
 | a :: l, b :: m => by
   have ih := ev_addL x l m
   show (a + b) + x * Cv.ev (addL l m) x = (a + x * Cv.ev l x) + (b + x * Cv.ev m x)
   rw [ih]; grind
theorem addL_length : ∀ l m, (addL l m).length = max l.length m.length
 | [], m => by show m.length = max 0 m.length; lia
 | a :: l, [] => by show l.length + 1 = max (l.length + 1) 0; lia
 | a :: l, b :: m => by
   have ih := addL_length l m
   show (addL l m).length + 1 = max (l.length + 1) (m.length + 1)
   lia
theorem addL_far : ∀ (l m : List Rat) (i : Nat), l.length ≤ i → (addL l m)[i]? = m[i]?
 | [], m, i, _ => rfl
 | a :: l, [], i, h => by rw [addL_nil, List.getElem?_eq_none h]; rfl
 | a :: l, b :: m, 0, h => by simp at h
 | a :: l, b :: m, i + 1, h => by
   have ih := addL_far l m i (by simpa using h)
   show (addL l m)[i]? = m[i]?
   exact ih
def mulL : List Rat → List Rat → List Rat
 | [], _ => []
 | a :: l, m => addL (m.map (· * a)) (0 :: mulL l m)
theorem ev_mulL (x : Rat) (m : List Rat) : ∀ l, Cv.ev (mulL l m) x = Cv.ev l x * Cv.ev m x
 | [] => by show (0 : Rat) = 0 * _; grind
 | a :: l => by
   have ih := ev_mulL x m l
   show Cv.ev (addL (m.map (· * a)) (0 :: mulL l m)) x = (a + x * Cv.ev l x) * _
   rw [ev_addL, Cv.ev_scale]
   show _ + (0 + x * Cv.ev (mulL l m) x) = _
   rw [ih]; grind
theorem mulL_length (m : List Rat) (hm : 1 ≤ m.length) : ∀ l, 1 ≤ l.length → (mulL l m).length = l.length + m.length - 1
 | [], h => by simp at h
 | [a], _ => by
   show (addL (m.map (· * a)) [0]).length = 1 + m.length - 1
   rw [addL_length, List.length_map]
   show max m.length 1 = _
   lia
 | a :: b :: l, _ => by
   have ih := mulL_length m hm (b :: l) (by simp)
   show (addL (m.map (· * a)) (0 :: mulL (b :: l) m)).length = l.length + 1 + 1 + m.length - 1
   rw [addL_length, List.length_map]
   show max m.length ((mulL (b :: l) m).length + 1) = _
   rw [ih]
   show max m.length (l.length + 1 + m.length - 1 + 1) = _
   lia
theorem mulL_last (m : List Rat) (u : Rat) (hu : m[m.length - 1]? = some u) : ∀ (l : List Rat) (v : Rat), l[l.length - 1]? = some v → (mulL l m)[l.length + m.length - 2]? = some (u * v)
 | [], v, h => by simp at h
 | [a], v, h => by
   have hm : m.length - 1 < m.length := (List.getElem?_eq_some_iff.mp hu).1
   have e : a = v := by simpa using h
   subst e
   show (addL (m.map (· * a)) [0])[1 + m.length - 2]? = _
   cases m with
   | nil => simp at hm
   | cons b m' =>
     rw [show 1 + (b :: m').length - 2 = m'.length by simp only [List.length_cons]; lia]
     have hu' : (b :: m')[m'.length]? = some u := hu
     cases m' with
     | nil =>
       have e : b = u := by simpa using hu'
       subst e
       show some (b * a + 0) = some (b * a)
       congr 1; grind
     | cons c m'' =>
       show (addL ((c :: m'').map (· * a)) [])[m''.length]? = _
       rw [addL_nil, List.getElem?_map]
       have hu2 : (c :: m'')[m''.length]? = some u := hu'
       rw [hu2]; rfl
 | a :: b :: l, v, h => by
   have hm : m.length - 1 < m.length := (List.getElem?_eq_some_iff.mp hu).1
   have ih := mulL_last m u hu (b :: l) v h
   show (addL (m.map (· * a)) (0 :: mulL (b :: l) m))[l.length + 1 + 1 + m.length - 2]? = _
   rw [addL_far _ _ _ (by rw [List.length_map]; lia)]
   rw [show l.length + 1 + 1 + m.length - 2 = (l.length + 1 + m.length - 2) + 1 by lia]
   exact ih
theorem good_mul {l m : List Rat} (hl : Good l) (hm : Good m) (nl : l ≠ []) (nm : m ≠ []) : Good (mulL l m) := by
 rcases hl with h | ⟨v, hv, v0⟩
 · exact absurd h nl
 rcases hm with h | ⟨u, hu, u0⟩
 · exact absurd h nm
 have l1 : 1 ≤ l.length := List.length_pos_iff.mpr nl
 have m1 : 1 ≤ m.length := List.length_pos_iff.mpr nm
 refine .inr ⟨u * v, ?_, fun z => ?_⟩
 · rw [mulL_length m m1 l l1, show l.length + m.length - 1 - 1 = l.length + m.length - 2 by lia]
   exact mulL_last m u hu l v hv
 · rcases Rat.mul_eq_zero.mp z with z | z
   · exact u0 z
   · exact v0 z
theorem good_le {l m : List Rat} (hm : Good m) (hle : l.length ≤ m.length) (h : ∀ x, Cv.ev l x = Cv.ev m x) : l = m := by
 have e : l ++ List.replicate (m.length - l.length) 0 = m := by
   refine Cv.same_of _ _ (by rw [List.length_append, List.length_replicate]; lia) fun x => ?_
   rw [← Cv.ev_strip, Cv.strip_zeros, Cv.ev_strip]
   exact h x
 by_cases hlt : l.length < m.length
 · rcases hm with hm | ⟨q, hq, q0⟩
   · rw [hm] at hlt; simp at hlt
   · exfalso
     rw [← e, List.length_append, List.length_replicate, List.getElem?_append_right (by lia), List.getElem?_replicate, if_pos (by lia)] at hq
     exact q0 (Option.some.inj hq).symm
 · rw [show m.length - l.length = 0 by lia, List.replicate_zero, List.append_nil] at e
   exact e
theorem good_one {l m : List Rat} (hl : Good l) (hm : Good m) (h : ∀ x, Cv.ev l x = Cv.ev m x) : l = m := by
 by_cases hle : l.length ≤ m.length
 · exact good_le hm hle h
 · exact (good_le hl (by lia) fun x => (h x).symm).symm
theorem div_one {ps os rs os' rs' : List Rat} (hp : Good ps) (np : ps ≠ []) (ho : Good os) (ho' : Good os') (hr : Good rs) (hr' : Good rs') (l : rs.length < ps.length) (l' : rs'.length < ps.length)
   (h : ∀ x, Cv.ev os x * Cv.ev ps x + Cv.ev rs x = Cv.ev os' x * Cv.ev ps x + Cv.ev rs' x) : os = os' ∧ rs = rs' := by
 have key : Cv.strip (addL os (os'.map (· * (-1)))) = [] := by
   by_cases hD : Cv.strip (addL os (os'.map (· * (-1)))) = []
   · exact hD
   exfalso
   have gD := good_strip (addL os (os'.map (· * (-1))))
   have gM := good_mul gD hp hD np
   have gE := good_strip (addL rs' (rs.map (· * (-1))))
   have e := good_one gM gE fun x => by
     rw [ev_mulL, Cv.ev_strip, Cv.ev_strip, ev_addL, ev_addL, Cv.ev_scale, Cv.ev_scale]
     have := h x
     grind
   have p1 : 1 ≤ ps.length := List.length_pos_iff.mpr np
   have d1 : 1 ≤ (Cv.strip (addL os (os'.map (· * (-1))))).length := List.length_pos_iff.mpr hD
   have len := mulL_length ps p1 _ d1
   rw [e] at len
   have le := Cv.strip_length (addL rs' (rs.map (· * (-1))))
   rw [addL_length, List.length_map] at le
   lia
 have eo : os = os' := good_one ho ho' fun x => by
   have z : Cv.ev (Cv.strip (addL os (os'.map (· * (-1))))) x = 0 := by rw [key]; rfl
   rw [Cv.ev_strip, ev_addL, Cv.ev_scale] at z
   grind
 subst eo
 refine ⟨rfl, good_one hr hr' fun x => ?_⟩
 have := h x
 grind
open PySem PySem.Spec PyProof.Rows
theorem lc_tup {K : PySem.W.Frag} {a : Addr} {js : List Nat} {xs : List V} {te : TE} {σ : St} {H : Hp} {Fin : List V → Hp → Prop} (Pv : Nat → List V → Hp → Prop) (h0 : Pv 0 [] H)
   (hl : ∀ i zs H, i ≤ xs.length → Pv i zs H → SqT K H a xs ∧ zs.length = i) (hz : xs.length ≤ sizeLine)
   (hs : ∀ i x zs H, xs[i]? = some x → Pv i zs H → te ((cS 1 js σ).set 0 (some x)) H fun y H4 => Pv (i + 1) (zs ++ [y]) H4) (fin : ∀ zs H', Pv xs.length zs H' → Fin zs H') :
   ∃ (n' : Nat) (W : Nat → List V → Hp → Prop), W 0 [] H ∧ LcW (Itt K a) n' 1 js σ (gName 0) tYes te Fin W := by
 refine ⟨xs.length, Pv, h0, ⟨?_, ?_, ?_⟩⟩
 · intro i zs H' hi p
   obtain ⟨h1, h2⟩ := hl i zs H' (Nat.le_of_lt hi) p
   exact ⟨⟨xs, xs[i], h1, by simp [hi]⟩, by lia⟩
 · rintro i zs H' x H1 hi p ⟨rfl, y⟩
   exact hs i x zs _ (y xs (hl i zs _ (Nat.le_of_lt hi) p).1) p
 · intro zs H' p
   obtain ⟨h1, h2⟩ := hl _ zs H' (Nat.le_refl _) p
   exact ⟨⟨xs, h1, Nat.le_refl _⟩, by lia, fin zs H' p⟩
end L2
namespace L2
def ch : Nat → Nat → Nat
 | _, 0 => 1
 | 0, _ + 1 => 0
 | n + 1, k + 1 => ch n k + ch n (k + 1)
def goL (a b : Rat) : Rat → List Rat → List Rat
 | p, [] => [a * p]
 | p, c :: r => (a * p + b * c) :: goL a b c r
def compL (a b : Rat) : List Rat → List Rat
 | [] => []
 | q :: r => match compL a b r with
   | [] => [q]
   | c :: s => (q + b * c) :: goL a b c s
end L2
namespace L2
def sd : List Rat → List Rat
 | [] => []
 | [_] => []
 | _ :: p :: r => addL (0 :: sd (p :: r)) (compL 1 1 (p :: r))
end L2
namespace L2
open PySem PySem.Spec PyProof.Rows PySem.SeqAt
end L2
namespace L2
def dL : List Rat → List Rat
 | [] => []
 | _ :: r => addL r (0 :: dL r)
def ty (x : Rat) : List Rat → List Rat
 | [] => []
 | q :: r => addL (q :: ty x r) ((ty x r).map (· * x))
theorem getD_addL : ∀ (l m : List Rat) (k : Nat), (addL l m).getD k 0 = l.getD k 0 + m.getD k 0
 | [], m, k => by show m.getD k 0 = 0 + m.getD k 0; grind
 | a :: l, [], k => by show (a :: l).getD k 0 = (a :: l).getD k 0 + 0; grind
 | a :: l, b :: m, 0 => rfl
 | a :: l, b :: m, k + 1 => getD_addL l m k
theorem getD_scale (y : Rat) (l : List Rat) (k : Nat) : (l.map (· * y)).getD k 0 = l.getD k 0 * y := by
 rw [List.getD_eq_getElem?_getD, List.getD_eq_getElem?_getD, List.getElem?_map]
 cases l[k]? with
 | none => show (0 : Rat) = 0 * y; grind
 | some t => rfl
theorem coef_one {l m : List Rat} (h : ∀ k : Nat, Cv.ev l ((k : Nat) : Rat) = Cv.ev m ((k : Nat) : Rat)) (k : Nat) : l.getD k 0 = m.getD k 0 := by
 have z := Cv.ident _ (addL l (m.map (· * (-1)))) (Nat.le_refl _) 0 fun k _ => by
   rw [ev_addL, Cv.ev_scale, h k]; grind
 have e : (addL l (m.map (· * (-1)))).getD k 0 = 0 := by
   rw [List.getD_eq_getElem?_getD]
   cases q : (addL l (m.map (· * (-1))))[k]? with
   | none => rfl
   | some t => exact z t (List.mem_of_getElem? q)
 rw [getD_addL, getD_scale] at e
 grind
def quo (c : Rat) : List Rat → List Rat
 | [] => []
 | _ :: r => addL r ((quo c r).map (· * c))
theorem quo_ev (c x : Rat) : ∀ l, Cv.ev l x = Cv.ev l c + (x - c) * Cv.ev (quo c l) x
 | [] => by show (0 : Rat) = 0 + _ * 0; grind
 | q :: r => by
   have ih := quo_ev c x r
   show q + x * Cv.ev r x = (q + c * Cv.ev r c) + (x - c) * Cv.ev (addL r ((quo c r).map (· * c))) x
   rw [ev_addL, Cv.ev_scale]
   have h : (x - c) * (Cv.ev r x + Cv.ev (quo c r) x * c) = x * Cv.ev r x - c * (Cv.ev r x - (x - c) * Cv.ev (quo c r) x) := by grind
   rw [h, show Cv.ev r x - (x - c) * Cv.ev (quo c r) x = Cv.ev r c by grind]
   grind
theorem quo_length (c : Rat) : ∀ l, (quo c l).length = l.length - 1
 | [] => rfl
 | q :: r => by
   have ih := quo_length c r
   show (addL r ((quo c r).map (· * c))).length = r.length
   rw [addL_length, List.length_map, ih]
   lia
end L2
namespace L2
def prL : List Rat → List Rat
 | [] => [1]
 | o :: os => mulL [-o, 1] (prL os)
def prV (x : Rat) : List Rat → Rat
 | [] => 1
 | o :: os => (x - o) * prV x os
theorem prL_ev (x : Rat) : ∀ os, Cv.ev (prL os) x = prV x os
 | [] => by show (1 : Rat) + x * 0 = 1; grind
 | o :: os => by
   show Cv.ev (mulL [-o, 1] (prL os)) x = _
   rw [ev_mulL, prL_ev x os]
   show (-o + x * (1 + x * 0)) * prV x os = (x - o) * prV x os
   grind
end L2
namespace L2
open PySem PySem.Spec PyProof.Rows
theorem lc_filt {K : PySem.W.Frag} {a : Addr} {js : List Nat} {xs : List V} {tc : TT} {te : TE} {σ : St} {H : Hp} {Fin : List V → Hp → Prop} (Pv : Nat → List V → Hp → Prop) (h0 : Pv 0 [] H)
   (hl : ∀ i zs H, i ≤ xs.length → Pv i zs H → SqL K H a xs ∧ zs.length ≤ i) (hz : xs.length ≤ sizeLine)
   (hs : ∀ i x zs H, xs[i]? = some x → Pv i zs H → tc ((cS 1 js σ).set 0 (some x)) H fun b H3 => if b = true then te ((cS 1 js σ).set 0 (some x)) H3 fun y H4 => Pv (i + 1) (zs ++ [y]) H4 else Pv (i + 1) zs H3) (fin : ∀ zs H', Pv xs.length zs H' → Fin zs H') :
   ∃ (n' : Nat) (W : Nat → List V → Hp → Prop), W 0 [] H ∧ LcW (Itl K a) n' 1 js σ (gName 0) tc te Fin W := by
 refine ⟨xs.length, Pv, h0, ⟨?_, ?_, ?_⟩⟩
 · intro i zs H' hi p
   obtain ⟨h1, h2⟩ := hl i zs H' (Nat.le_of_lt hi) p
   exact ⟨⟨xs, xs[i], h1, by simp [hi]⟩, by lia⟩
 · rintro i zs H' x H1 hi p ⟨rfl, y⟩
   exact hs i x zs _ (y xs (hl i zs _ (Nat.le_of_lt hi) p).1) p
 · intro zs H' p
   obtain ⟨h1, h2⟩ := hl _ zs H' (Nat.le_refl _) p
   exact ⟨⟨xs, h1, Nat.le_refl _⟩, by lia, fin zs H' p⟩
end L2
namespace PySem
open Sem (wp)
open Builtin
set_option maxRecDepth 100000
end PySem
namespace L2
open PySem PySem.Spec PyProof.Rows
variable {X : Cx}
end L2
namespace L2
open PySem PySem.Spec PyProof.Rows
end L2
namespace L2
open PySem PySem.Spec PyProof.Rows
def kQ (q : Rat) : List Key := [.inl q.num, .inl (q.den : Int)]
theorem kQ_inj {p q : Rat} (h : kQ p = kQ q) : p = q := by
 unfold kQ at h
 injection h with h1 h2
 injection h2 with h2 _
 injection h1 with h1
 injection h2 with h2
 exact Rat.ext h1 (Int.ofNat.inj h2)
def NumT (H : Hp) (x : V) (q : Rat) : Prop := ∃ r, x = .ref r ∧ H r = some (nT q)
abbrev NumsT (H : Hp) : List V → List Rat → Prop := Paired (NumT H)
theorem NumT.num {K : PySem.W.Frag} {H : Hp} {x : V} {q : Rat} (h : NumT H x q) : NumV K H x q := let ⟨r, e, h⟩ := h; ⟨r, e, SqT.of h⟩
theorem NumT.same {H H' : Hp} {x : V} {q : Rat} (h : NumT H x q) (e : Same H H') : NumT H' x q := let ⟨r, z, h⟩ := h; ⟨r, z, e _ _ h⟩
theorem NumT.mv {H H' : Hp} {x : V} {q : Rat} {p : Addr} (h : NumT H x q) (pn : Pen H p) (m : Mv p H H') : NumT H' x q := let ⟨r, z, h⟩ := h; ⟨r, z, m r _ (pn.ne h (nT_ne q)) h⟩
theorem NumT.put {H : Hp} {x : V} {q : Rat} {p : Addr} {ys : List V} {o : HO} (h : NumT H x q) (hp : H p = some (.lst ys)) : NumT (upd H p o) x q := let ⟨r, z, h⟩ := h; ⟨r, z, by rw [upd_ne (ne_of h hp (fun z => by cases z))]; exact h⟩
theorem NumsT.nums {K : PySem.W.Frag} {H : Hp} {xs : List V} {qs : List Rat} (h : NumsT H xs qs) : Nums K H xs qs := Paired.mapP h fun _ _ z => z.num
theorem NumsT.same {H H' : Hp} {xs : List V} {qs : List Rat} (h : NumsT H xs qs) (e : Same H H') : NumsT H' xs qs := Paired.mapP h fun _ _ z => z.same e
theorem NumsT.mv {H H' : Hp} {xs : List V} {qs : List Rat} {p : Addr} (h : NumsT H xs qs) (pn : Pen H p) (m : Mv p H H') : NumsT H' xs qs := Paired.mapP h fun _ _ z => z.mv pn m
theorem NumsT.put {H : Hp} {xs : List V} {qs : List Rat} {p : Addr} {ys : List V} {o : HO} (h : NumsT H xs qs) (hp : H p = some (.lst ys)) : NumsT (upd H p o) xs qs := Paired.mapP h fun _ _ z => z.put hp
section
variable {K : PySem.W.Frag} {H H' : Hp} {x : V} {ps : List Rat} {xs : List V} {pss : List (List Rat)} {p : Addr} {ys : List V} {o : HO}
end
section
variable {K : PySem.W.Frag} {H H' : Hp} {x : V} {t : Told} {xs : List V} {ts : List Told} {p : Addr} {ys : List V} {o : HO}
end
end L2
namespace L2
theorem prL_length : ∀ os, (prL os).length = os.length + 1
 | [] => rfl
 | o :: os => by
   have ih := prL_length os
   show (addL ((prL os).map (· * -o)) (0 :: addL ((prL os).map (· * 1)) (0 :: mulL [] (prL os)))).length = _
   have e : mulL [] (prL os) = [] := rfl
   rw [addL_length, List.length_map, List.length_cons, addL_length, List.length_map, e, ih]
   simp only [List.length_cons, List.length_nil]
   lia
end L2
namespace HT
open PySem PyProof.Rows
open PySem.SeqAt
open PySem.AutoSeq1 (wpAny_loadPart')
open PySem.MeetsSeq PySem.MeetsSeq2 PySem.MeetsSeq3
end HT
namespace L2
open PySem PySem.Spec PyProof.Rows
section
variable {X : Cx} {K : PySem.W.Frag}
end
theorem cut_to (xs : List V) (v : Nat) : cutV xs none (some (v : Int)) = xs.take v := by
 unfold cutV
 have e1 : HT.sIx xs.length 0 none = 0 := rfl
 have e2 : HT.sIx xs.length xs.length (some (v : Int)) = min v xs.length := HT.sIx_nat _ _ v
 rw [e1, e2, List.drop_zero, Nat.sub_zero]
 by_cases h : v ≤ xs.length
 · rw [Nat.min_eq_left h]
 · rw [Nat.min_eq_right (by lia), List.take_of_length_le (Nat.le_refl _), List.take_of_length_le (by lia)]
end L2
namespace L2
open PySem PySem.Spec PyProof.Rows PySem.SeqAt
section
variable {X : Cx}
end
theorem cut_from (xs : List V) (v : Nat) : cutV xs (some (v : Int)) none = xs.drop v := by
 unfold cutV
 have e1 : HT.sIx xs.length 0 (some (v : Int)) = min v xs.length := HT.sIx_nat _ _ v
 have e2 : HT.sIx xs.length xs.length none = xs.length := rfl
 rw [e1, e2]
 by_cases h : v ≤ xs.length
 · rw [Nat.min_eq_left h, List.take_of_length_le (by rw [List.length_drop]; exact Nat.le_refl _)]
 · rw [Nat.min_eq_right (by lia), Nat.sub_self, List.take_zero, List.drop_eq_nil_of_le (by lia)]
end L2
namespace L2
open PySem PySem.Spec PyProof.Rows
theorem bt_zip : bootBuiltins "zip" = some (.type "zip") := by decide +kernel
section
variable {X : Cx} {pins : List (Addr × Obj)} {σ : List (Option V)} {H : Hp} {s : Shared} {h' : Heap}
theorem Inv.turnedL {t' : Nat} {ch : List Addr} (I : Inv X pins σ H s) (k : ∀ b o, b ∉ ch → s.heap.get? b = some o → h'.get? b = some o) (hf : ∀ b ∈ ch, FpOk X pins H b) : Inv X pins σ H { s with heap := h', toks := t' } := by
 have nit : ∀ b u, H b = some u → b ∉ ch := fun b u e z => by rw [(hf b z).1] at e; cases e
 refine I.step (g' := s.gens) (d' := s.drawn) (ch := ch) (fun b hb => ?_) (fun b o _ _ hc e _ => k b o hc e) (fun b o _ _ hc e _ => ⟨o.slots, k b o hc e⟩) (fun _ _ _ _ n => n)
   (fun b o hc e => ⟨o, k b o hc e⟩) (fun _ _ e => e) (fun _ _ _ e => e) (fun b ps e => ⟨#[], by rw [e]; simp⟩) (fun m hm => ?_) (fun b u e => ?_) I.bare
 · obtain ⟨_, hL, _, h1, h2, h3⟩ := hf b hb
   exact ⟨h1, hL, h2, h3⟩
 · obtain ⟨o, es, ep, ho, r⟩ := hm
   exact ⟨o, es, ep, k _ o (fun z => (hf _ z).2.1 rfl) ho, r⟩
 · refine (I.hok b u e).stay (fun c v hc q => k c v ?_ q) (fun _ q => q) fun _ _ q => q
   rcases hc with z | z
   · rw [z]; exact nit b u e
   · exact nit c _ z
end
def Itz (K : PySem.W.Frag) (a b : Addr) (xs ys : List V) : It :=
 ⟨fun i H => SqL K H a xs ∧ SqL K H b ys ∧ i < min xs.length ys.length,
  fun i H x H' => ∃ T x1 y1, xs[i]? = some x1 ∧ ys[i]? = some y1 ∧ H T = none ∧ x = .ref T ∧ H' = upd H T (.tup [x1, y1]),
  fun i H => SqL K H a xs ∧ SqL K H b ys ∧ min xs.length ys.length ≤ i⟩
theorem turn_zip {P : Program} {w : World} {K : PySem.W.Frag} {elts : List Expr} {kk} {pos : Pos} {a b z TI TO i1 i2 : Addr} (D : ZipApart z TI TO i1 i2 a b) (xs ys : List V) :
   Turn P w K (.Tuple elts kk pos) (Itz K a b xs ys) [z, TI, TO, i1, i2] z (fun i h => IsZip h z TI TO .none ∧ IsPair h TI (.ref i1) (.ref i2) ∧ (∃ u v, IsPair h TO u v) ∧ h.IsListIter i1 a i ∧ h.IsListIter i2 b i) where
 mem := by simp
 obj := fun i h st c hc => by
   obtain ⟨hz, hTI, ⟨u, v, hTO⟩, ⟨o1, e1, _, d1⟩, ⟨o2, e2, _, d2⟩⟩ := st
   have hc' : c = z ∨ c = TI ∨ c = TO ∨ c = i1 ∨ c = i2 := by simpa using hc
   rcases hc' with rfl | rfl | rfl | rfl | rfl
   · exact ⟨_, hz, fun v z => by cases z⟩
   · exact ⟨_, hTI, fun v z => by cases z⟩
   · exact ⟨_, hTO, fun v z => by cases z⟩
   · exact ⟨o1, e1, fun v z => by rw [d1] at z; cases z⟩
   · exact ⟨o2, e2, fun v z => by rw [d2] at z; cases z⟩
 keep := fun i h h' st k => by
   obtain ⟨hz, hTI, ⟨u, v, hTO⟩, h1, h2⟩ := st
   exact ⟨k z (by simp) _ hz, k TI (by simp) _ hTI, ⟨u, v, k TO (by simp) _ hTO⟩, h1.at fun o e => k i1 (by simp) o e, h2.at fun o e => k i2 (by simp) o e⟩
 item := by
   intro X hP hw hK hc i pins s σ H E I hf st hg
   subst hP hw hK
   obtain ⟨hq1, hq2, hi⟩ := hg
   obtain ⟨its1, rv1, p1, _⟩ := I.list hq1
   obtain ⟨its2, rv2, p2, _⟩ := I.list hq2
   have hx : xs[i]? = some (xs[i]'(by lia)) := List.getElem?_eq_getElem (by lia)
   have hy : ys[i]? = some (ys[i]'(by lia)) := List.getElem?_eq_getElem (by lia)
   obtain ⟨u1, hu1, ru1⟩ := rv1.get hx
   obtain ⟨u2, hu2, ru2⟩ := rv2.get hy
   generalize xs[i]'(by lia) = x1 at hx ru1
   generalize ys[i]'(by lia) = y1 at hy ru2
   obtain ⟨hz, hTI, ⟨ta, tb, hTO⟩, h1, h2⟩ := st
   refine wpAny_pyNext_zip_item D hz hTI hTO h1 h2 p1.isList p2.isList (x := u1) (y := u2) (by simpa using hu1) (by simpa using hu2) fun h' a1 a2 a3 a4 a5 a6 a7 => ?_
   refine ⟨_, rfl, wpAny_letOwnedTupleGo_zip (s := { s with heap := h' }) a1 fun h'' b1 b2 => ?_⟩
   have lz : z < s.heap.objs.size := Heap.lt_size hz
   have lTI : TI < s.heap.objs.size := Heap.lt_size hTI
   have lTO : TO < s.heap.objs.size := Heap.lt_size hTO
   have l1 : i1 < s.heap.objs.size := by obtain ⟨_, e, _⟩ := h1; exact Heap.lt_size e
   have l2 : i2 < s.heap.objs.size := by obtain ⟨_, e, _⟩ := h2; exact Heap.lt_size e
   have I1 : Inv X pins σ (upd H s.heap.objs.size (.tup [x1, y1])) { s with heap := s.heap.push { cls := .type "tuple", data := .seq #[u1, u2] } } :=
     I.laid (t' := s.toks) (o := .tup [x1, y1]) (fun b ob q => Heap.get?_push_of_some _ q) (Nat.le_refl _) ⟨by show 2 ≤ sizeLine; decide, [u1, u2], .cons ru1 (.cons ru2 .nil), IsTup.new _ _⟩
   have hfp : ∀ c ∈ [z, TI, TO, i1, i2], FpOk X pins (upd H s.heap.objs.size (.tup [x1, y1])) c := fun c hc => by
     obtain ⟨f0, fr⟩ := hf c hc
     have hlt : c < s.heap.objs.size := by
       have hc' : c = z ∨ c = TI ∨ c = TO ∨ c = i1 ∨ c = i2 := by simpa using hc
       rcases hc' with rfl | rfl | rfl | rfl | rfl <;> assumption
     exact ⟨by rw [upd_ne (Nat.ne_of_lt hlt)]; exact f0, fr⟩
   have I2 := I1.turnedL (h' := h'') (t' := s.toks) (ch := [z, TO, i1, i2]) (fun c o hcn e => by
     have hcn' : c ≠ z ∧ c ≠ TO ∧ c ≠ i1 ∧ c ≠ i2 := by simpa using hcn
     obtain ⟨c1, c2, c3, c4⟩ := hcn'
     refine b2.extBut _ _ c1 ?_
     by_cases hcs : c = s.heap.objs.size
     · subst hcs
       have e' : (s.heap.push { cls := .type "tuple", data := .seq #[u1, u2] }).get? s.heap.objs.size = some o := e
       rw [Heap.get?_push_size _ rfl] at e'
       cases e'
       exact a5
     · have e' : (s.heap.push { cls := .type "tuple", data := .seq #[u1, u2] }).get? c = some o := e
       refine a7 c o c1 c2 c3 c4 ?_
       rw [Heap.get?_push_ne _ _ _ hcs] at e'
       exact e') (fun c hc => hfp c (by
         have hc' : c = z ∨ c = TO ∨ c = i1 ∨ c = i2 := by simpa using hc
         rcases hc' with rfl | rfl | rfl | rfl <;> simp))
   refine ⟨.ref s.heap.objs.size, upd H s.heap.objs.size (.tup [x1, y1]), I2, rfl, ⟨_, x1, y1, hx, hy, I.hok.fresh (Nat.le_refl _), rfl, rfl⟩, ⟨b1, ?_, ⟨_, _, b2.extBut _ _ D.TOz a2⟩, a3.extBut b2.extBut D.i1z, a4.extBut b2.extBut D.i2z⟩, fun c hc => (hfp c hc).1⟩
   exact b2.extBut _ _ D.TIz (a7 _ _ D.TIz D.TITO D.TIi1 D.TIi2 hTI)
 done := by
   intro X hP hw hK hc i pins s σ H E I hf st hg
   subst hP hw hK
   obtain ⟨hq1, hq2, hi⟩ := hg
   obtain ⟨its1, rv1, p1, _⟩ := I.list hq1
   obtain ⟨its2, rv2, p2, _⟩ := I.list hq2
   have e1 := rv1.length
   have e2 := rv2.length
   obtain ⟨hz, hTI, ⟨ta, tb, hTO⟩, h1, h2⟩ := st
   refine wpAny_pyNext_zip_end (I.ok.hd hc) D hz hTI hTO h1 h2 p1.isList p2.isList ?_ fun h' k => ⟨rfl, I.turnedL (t' := s.toks) (ch := [z, TO, i1, i2]) (fun c o hcn e => by
     have hcn' : c ≠ z ∧ c ≠ TO ∧ c ≠ i1 ∧ c ≠ i2 := by simpa using hcn
     exact k c o hcn'.1 hcn'.2.1 hcn'.2.2.1 hcn'.2.2.2 e) fun c hc => hf c (by
         have hc' : c = z ∨ c = TO ∨ c = i1 ∨ c = i2 := by simpa using hc
         rcases hc' with rfl | rfl | rfl | rfl <;> simp)⟩
   by_cases h : xs.length ≤ i
   · exact .inl (by rw [Array.getElem?_eq_none]; simp; lia)
   · exact .inr (by rw [Array.getElem?_eq_none]; simp; lia)
 self := fun _ _ _ _ _ st h => wpAny_pyIter_zip st.1 h
section
variable {X : Cx}
def iZip (K : PySem.W.Frag) (ta : TA) : TI := fun σ H R => ta σ H fun vs H1 => ∃ a b xs ys, vs = [.ref a, .ref b] ∧ SqL K H1 a xs ∧ SqL K H1 b ys ∧ R (Itz K a b xs ys) H1
theorem pi_zip {elts : List Expr} {kk} {pos' : Pos} {e1 e2 : Expr} {ta : TA} {p pos : Pos} (hg : Gl X "zip") (hm : X.mg "zip" = none) (ha : PA X [e1, e2] ta) (hs : starEach [e1, e2] X.env = [(false, eval e1 X.env), (false, eval e2 X.env)] := by rfl) (hs2 : starEach [e2] X.env = [(false, eval e2 X.env)] := by rfl) :
   PI X (.Tuple elts kk pos') (.Call (.Name "zip" p) [e1, e2] [] pos) (iZip X.K ta) := by
 intro pins s σ H R I h
 refine Call_ (ld_blt I hg hm bt_zip (PyProof.Rows.callWith_type1 (thn (ha pos pins s σ H _ I h) fun us s1 ⟨vs, H1, I1, r1, q1⟩ => ?_) (by rw [hs, hs2]) (by rw [hs2]; rfl)))
 obtain ⟨a, b, xs, ys, e, hq1, hq2, q⟩ := q1
 subst e
 cases r1 with
 | cons r rr =>
   cases rr with
   | cons r' rr =>
     cases rr
     cases r
     cases r'
     obtain ⟨its1, rv1, p1, _⟩ := I1.list hq1
     obtain ⟨its2, rv2, p2, _⟩ := I1.list hq2
     have la : a < s1.heap.objs.size := by obtain ⟨_, e, _⟩ := p1.isList; exact Heap.lt_size e
     have lb : b < s1.heap.objs.size := by obtain ⟨_, e, _⟩ := p2.isList; exact Heap.lt_size e
     refine call_zip_2 p1.isList p2.isList fun h' hz hTI hTO hi1 hi2 hsz hk => ?_
     refine wpAny_pyIter_zip (s := { s1 with heap := h' }) hz ?_
     have D := zipApart_new la lb
     refine ⟨s1.heap.objs.size + 4, [s1.heap.objs.size + 4, s1.heap.objs.size + 2, s1.heap.objs.size + 3, s1.heap.objs.size, s1.heap.objs.size + 1], _, _, H1, rfl, I1.kept (t' := s1.toks) hk, turn_zip D xs ys, ⟨hz, hTI, ⟨_, _, hTO⟩, hi1, hi2⟩, fun c hc => ?_, q⟩
     have hge : s1.heap.objs.size ≤ c := by
       have hc' : c = s1.heap.objs.size + 4 ∨ c = s1.heap.objs.size + 2 ∨ c = s1.heap.objs.size + 3 ∨ c = s1.heap.objs.size ∨ c = s1.heap.objs.size + 1 := by simpa using hc
       rcases hc' with rfl | rfl | rfl | rfl | rfl
       · exact Nat.le_add_right _ _
       · exact Nat.le_add_right _ _
       · exact Nat.le_add_right _ _
       · exact Nat.le_refl _
       · exact Nat.le_add_right _ _
     exact I1.fpOk hge (I1.hok.fresh hge)
theorem piZip (K : PySem.W.Frag) {elts : List Expr} {kk} {pos' : Pos} {e1 e2 : Expr} {ta : TA} {p pos : Pos} (hg : Gl X "zip") (hm : X.mg "zip" = none) (ha : PA X [e1, e2] ta) (hs : starEach [e1, e2] X.env = [(false, eval e1 X.env), (false, eval e2 X.env)] := by rfl) (hs2 : starEach [e2] X.env = [(false, eval e2 X.env)] := by rfl) (e : X.K = K := by rfl) :
   PI X (.Tuple elts kk pos') (.Call (.Name "zip" p) [e1, e2] [] pos) (iZip K ta) := by subst e; exact pi_zip hg hm ha hs hs2
end
theorem for_zip {K : PySem.W.Frag} {a b : Addr} {xs ys : List V} {g : TG} {tb : TS} {D : Ends} {σ : St} {H : Hp} (Pv : Nat → St → Hp → Prop) (h0 : Pv 0 σ H) (hl : ∀ i σ H, i ≤ min xs.length ys.length → Pv i σ H → SqL K H a xs ∧ SqL K H b ys)
   (hs : ∀ i x y T σ H, xs[i]? = some x → ys[i]? = some y → H T = none → Pv i σ H → g (.ref T) σ (upd H T (.tup [x, y])) fun σ2 H2 => tb { D with nx := Pv (i + 1), ct := Pv (i + 1), bk := D.nx } σ2 H2) (hd : ∀ σ H, Pv (min xs.length ys.length) σ H → D.nx σ H) :
   ∃ W : Nat → Nat → St → Hp → Prop, (∃ m, W 0 m σ H) ∧ ∀ i m σ H, W i m σ H →
     ((Itz K a b xs ys).stop i H ∧ D.nx σ H) ∨ ((Itz K a b xs ys).go i H ∧ ∃ N : St → Hp → Prop, (∀ σ' H', N σ' H' → ∃ m', m' < m ∧ W (i + 1) m' σ' H') ∧ ∀ x H', (Itz K a b xs ys).yld i H x H' → g x σ H' fun σ2 H2 => tb { D with nx := N, ct := N, bk := D.nx } σ2 H2) := by
 refine ⟨fun i m σ H => m = min xs.length ys.length - i ∧ i ≤ min xs.length ys.length ∧ Pv i σ H, ⟨min xs.length ys.length, by simp, Nat.zero_le _, h0⟩, ?_⟩
 rintro i m σ H ⟨rfl, hi, p⟩
 obtain ⟨q1, q2⟩ := hl i σ H hi p
 by_cases hlt : i < min xs.length ys.length
 · refine .inr ⟨⟨q1, q2, hlt⟩, Pv (i + 1), fun σ' H' p' => ⟨min xs.length ys.length - (i + 1), by lia, rfl, hlt, p'⟩, fun x H' y => ?_⟩
   obtain ⟨T, x1, y1, hx, hy, hT, rfl, rfl⟩ := y
   exact hs i x1 y1 T σ _ hx hy hT p
 · have e : i = min xs.length ys.length := by lia
   subst e
   exact .inl ⟨⟨q1, q2, Nat.le_refl _⟩, hd σ H p⟩
end L2
namespace L2
open PySem PySem.Spec PyProof.Rows
namespace St
open SetTable
def it (mask : Nat) : Nat → Nat → Nat
 | 0, i => i
 | n + 1, i => it mask n ((i * 5 + 1) % (mask + 1))
theorem cover7 : ∀ i : Fin 8, ∀ e : Fin 8, ∃ m : Fin 8, it 7 m.val i.val = e.val := by decide +kernel
theorem cover31 : ∀ i : Fin 32, ∀ e : Fin 32, ∃ m : Fin 32, it 31 m.val i.val = e.val := by decide +kernel
theorem cover {mask : Nat} (hm : mask = 7 ∨ mask = 31) {i e : Nat} (hi : i < mask + 1) (he : e < mask + 1) : ∃ m, m ≤ mask ∧ it mask m i = e := by
 rcases hm with rfl | rfl
 · obtain ⟨m, h⟩ := cover7 ⟨i, hi⟩ ⟨e, he⟩
   exact ⟨m.val, by lia, h⟩
 · obtain ⟨m, h⟩ := cover31 ⟨i, hi⟩ ⟨e, he⟩
   exact ⟨m.val, by lia, h⟩
def bs (mask : Nat) (b : Nat) : Nat → Nat × Nat
 | 0 => (b % (mask + 1), b)
 | n + 1 => leap mask (bs mask b n).1 (bs mask b n).2
theorem bs_pert (mask b : Nat) : ∀ n, (bs mask b n).2 = b / 32 ^ n
 | 0 => by show b = b / 1; rw [Nat.div_one]
 | n + 1 => by
   show (bs mask b n).2 / 32 = _
   rw [bs_pert mask b n, Nat.div_div_eq_div_mul, Nat.pow_succ]
theorem bs_lt (mask b : Nat) : ∀ n, (bs mask b n).1 < mask + 1
 | 0 => Nat.mod_lt _ (Nat.succ_pos _)
 | _ + 1 => Nat.mod_lt _ (Nat.succ_pos _)
theorem bits_lt (h : Int) : bits h < 2 ^ 64 := by
 unfold bits
 have h1 : (0 : Int) ≤ h % 2 ^ 64 := Int.emod_nonneg _ (by decide)
 have h2 : h % 2 ^ 64 < 2 ^ 64 := Int.emod_lt_of_pos _ (by decide)
 lia
theorem bs_late {mask b n : Nat} (hb : b < 2 ^ 64) (hn : 13 ≤ n) : (bs mask b n).2 = 0 := by
 rw [bs_pert]
 refine Nat.div_eq_of_lt (Nat.lt_of_lt_of_le hb ?_)
 exact Nat.le_trans (by decide : 2 ^ 64 ≤ 32 ^ 13) (Nat.pow_le_pow_right (by decide) hn)
theorem bs_cyc {mask b : Nat} (hb : b < 2 ^ 64) : ∀ m n, 13 ≤ n → (bs mask b (n + m)).1 = it mask m (bs mask b n).1
 | 0, n, _ => rfl
 | m + 1, n, hn => by
   have ih := bs_cyc (mask := mask) hb m (n + 1) (by lia)
   rw [show n + (m + 1) = n + 1 + m by lia, ih]
   show it mask m (leap mask (bs mask b n).1 (bs mask b n).2).1 = it mask m (((bs mask b n).1 * 5 + 1) % (mask + 1))
   rw [bs_late hb hn]
   rfl
theorem bs_hits {mask b e : Nat} (hm : mask = 7 ∨ mask = 31) (hb : b < 2 ^ 64) (he : e < mask + 1) : ∃ n, n ≤ 13 + mask ∧ (bs mask b n).1 = e := by
 obtain ⟨m, h1, h2⟩ := cover hm (bs_lt mask b 13) he
 exact ⟨13 + m, by lia, by rw [bs_cyc hb m 13 (Nat.le_refl _)]; exact h2⟩
def base (mask i pert : Nat) : Probe := { j := i, more := runEnd mask i - i, i, perturb := pert, dummy := none }
def advs (t : SetTable) : Nat → Probe → Probe
 | 0, p => p
 | n + 1, p => advs t n (t.advance p)
theorem advs_add (t : SetTable) : ∀ m n p, advs t (m + n) p = advs t n (advs t m p)
 | 0, n, p => by rw [Nat.zero_add]; rfl
 | m + 1, n, p => by rw [show m + 1 + n = (m + n) + 1 by lia]; exact advs_add t m n _
theorem run_le (mask i : Nat) : runEnd mask i - i ≤ 9 := by unfold runEnd; split <;> lia
theorem advs_run (t : SetTable) : ∀ (r j i pert : Nat), advs t (r + 1) { j := j, more := r, i := i, perturb := pert, dummy := none } = base t.mask (leap t.mask i pert).1 (leap t.mask i pert).2
 | 0, j, i, pert => rfl
 | r + 1, j, i, pert => by
   have ih := advs_run t r (j + 1) i pert
   show advs t (r + 1) (t.advance { j := j, more := r + 1, i := i, perturb := pert, dummy := none }) = _
   rw [← ih]
   rfl
theorem reach (t : SetTable) (h : Int) : ∀ n, ∃ k, k ≤ 10 * n ∧ advs t k (t.probeStart h) = base t.mask (bs t.mask (bits h) n).1 (bs t.mask (bits h) n).2
 | 0 => ⟨0, Nat.le_refl _, rfl⟩
 | n + 1 => by
   obtain ⟨k, hk, e⟩ := reach t h n
   refine ⟨k + (runEnd t.mask (bs t.mask (bits h) n).1 - (bs t.mask (bits h) n).1 + 1), ?_, ?_⟩
   · have := run_le t.mask (bs t.mask (bits h) n).1
     lia
   · rw [advs_add, e]
     exact advs_run t _ _ _ _
theorem slot_empty {t : SetTable} (hd : t.dummies = #[]) {e : Nat} (he : ∀ i : Nat, t.place[i]? ≠ some e) : t.slot e = .empty := by
 unfold slot
 have h1 : (t.place[below t.place e]? == some e) = false := by
   rw [beq_eq_false_iff_ne]; exact he _
 have h2 : has t.dummies e = false := by
   rw [hd]; unfold has; rfl
 simp only [h1, h2]
 rfl
theorem slot_cases {t : SetTable} (hd : t.dummies = #[]) (j : Nat) : t.slot j = .empty ∨ ∃ i, t.slot j = .live i ∧ t.place[i]? = some j := by
 by_cases h : t.place[below t.place j]? = some j
 · refine .inr ⟨below t.place j, ?_, h⟩
   unfold slot
   have h1 : (t.place[below t.place j]? == some j) = true := by rw [h]; exact beq_self_eq_true _
   simp only [h1]
   rfl
 · refine .inl ?_
   unfold slot
   have h1 : (t.place[below t.place j]? == some j) = false := by rw [beq_eq_false_iff_ne]; exact h
   have h2 : has t.dummies j = false := by rw [hd]; unfold has; rfl
   simp only [h1, h2]
   rfl
def Hit (t : SetTable) (k : Nat) (p : Probe) : Prop := t.slot (advs t k p).j = .empty
theorem adv_dummy (t : SetTable) {p : Probe} (h : p.dummy = none) : (t.advance p).dummy = none := by
 unfold advance
 split
 · exact h
 · exact h
theorem go_hit {t : SetTable} (hd : t.dummies = #[]) {ha : Nat → Int} {h : Int} : ∀ (fuel k : Nat) (p : Probe), k < fuel → p.dummy = none → Hit t k p →
   (∃ j, probe.go t ha h fuel p = some (.empty j none)) ∨ ∃ j i next k', probe.go t ha h fuel p = some (.candidate j i next) ∧ t.slot j = .live i ∧ t.place[i]? = some j ∧ next.dummy = none ∧ Hit t k' next ∧ k' < k
 | fuel + 1, k, p, hk, hp, hh => by
   unfold probe.go
   rcases slot_cases hd p.j with z | ⟨i, z, zp⟩
   · rw [z]
     exact .inl ⟨p.j, by simp only [hp]⟩
   · rw [z]
     have hk0 : ∃ k', k = k' + 1 := by
       cases k with
       | zero => unfold Hit at hh; rw [show advs t 0 p = p from rfl, z] at hh; cases hh
       | succ k' => exact ⟨k', rfl⟩
     obtain ⟨k', rfl⟩ := hk0
     have hh' : Hit t k' (t.advance p) := hh
     by_cases hq : (ha i == h) = true
     · refine .inr ⟨p.j, i, t.advance p, k', ?_, z, zp, adv_dummy t hp, hh', by lia⟩
       simp only [hq]
       rfl
     · have hq' : (ha i == h) = false := by simpa using hq
       simp only [hq']
       rcases go_hit hd fuel k' (t.advance p) (by lia) (adv_dummy t hp) hh' with ⟨j, e⟩ | ⟨j, i', nx, k2, e, r1, r2, r3, r4, r5⟩
       · exact .inl ⟨j, e⟩
       · exact .inr ⟨j, i', nx, k2, e, r1, r2, r3, r4, by lia⟩
theorem nd_le : ∀ {l m : List Nat}, l.Nodup → (∀ x, x ∈ l → x ∈ m) → l.length ≤ m.length
 | [], m, _, _ => Nat.zero_le _
 | a :: l, m, hn, hs => by
   rw [List.nodup_cons] at hn
   have ha := hs a List.mem_cons_self
   have ih := nd_le (l := l) (m := m.erase a) hn.2 fun x hx => (List.mem_erase_of_ne (fun e : x = a => hn.1 (e ▸ hx))).mpr (hs x (List.mem_cons_of_mem _ hx))
   rw [List.length_erase_of_mem ha] at ih
   have := List.length_pos_of_mem ha
   rw [List.length_cons]; lia
theorem start_hit {t : SetTable} (hm : t.mask = 7 ∨ t.mask = 31) (hd : t.dummies = #[]) (hs : t.place.size ≤ t.mask) (h : Int) : ∃ k, k < 10 * turns t.mask ∧ Hit t k (t.probeStart h) := by
 have he : ∃ e, e < t.mask + 1 ∧ ∀ i : Nat, t.place[i]? ≠ some e := by
   refine Classical.byContradiction fun hn => ?_
   have hall : ∀ e, e < t.mask + 1 → e ∈ t.place.toList := fun e he => by
     refine Classical.byContradiction fun hne => hn ⟨e, he, fun i hi => hne ?_⟩
     exact List.mem_of_getElem? (by rw [Array.getElem?_toList]; exact hi)
   have hsub : (List.range (t.mask + 1)).Subset t.place.toList := fun e he => hall e (List.mem_range.mp he)
   have hlen := nd_le (List.nodup_range (n := t.mask + 1)) hsub
   rw [List.length_range, Array.length_toList] at hlen
   lia
 obtain ⟨e, he1, he2⟩ := he
 obtain ⟨n, hn, hb⟩ := bs_hits (b := bits h) hm (bits_lt h) he1
 obtain ⟨k, hk, hr⟩ := reach t h n
 refine ⟨k, ?_, ?_⟩
 · unfold turns; lia
 · unfold Hit
   rw [hr]
   show t.slot (bs t.mask (bits h) n).1 = _
   rw [hb]
   exact slot_empty hd he2
end St
end L2
namespace L2
open PySem PySem.Spec PyProof.Rows
namespace St
open SetTable
section
variable {prog : Program} {w : World} {K : Type} [DecidableEq K] (knd : KeyKind prog w K)
def IsN (h : Heap) (ks : List K) (a : Addr) : Prop := ∃ o items n, h.get? a = some o ∧ o.cls = .type "tuple" ∧ o.data = .seq items n ∧ ItemsAre knd ks items.toList ∧ ∀ v ∈ items.toList, ∃ k t, v = .int k t
variable {knd}
theorem IsN.key {h : Heap} {ks : List K} {a : Addr} (x : IsN knd h ks a) : IsTupleKey knd h ks a := let ⟨o, i, n, h1, h2, h3, h4, _⟩ := x; ⟨o, i, n, h1, h2, h3, h4⟩
theorem IsN.keep {h h' : Heap} {ks : List K} {a : Addr} (x : IsN knd h ks a) (k : ∀ o, h.get? a = some o → h'.get? a = some o) : IsN knd h' ks a := let ⟨o, i, n, h1, h2⟩ := x; ⟨o, i, n, k o h1, h2⟩
variable {A : Around} {E : Value → Shared → Prop} {s : Shared}
theorem wpAny_seqItemsQ {M : Model} {a : Addr} {o : Obj} {items n} {Q : Option (Array Value) → Shared → Prop} (ho : s.heap.get? a = some o) (hd : o.data = .seq items n) (h : Q (some items) s) : wpAny M A (seqItems? (.ref a)) Q E s := by
 unfold seqItems?
 refine wpAny_bind (wpAny_load ho ?_)
 rw [hd]
 exact wpAny_pure h
theorem hashByValue_n {ks : List K} {a : Addr} {Q : Bool → Shared → Prop} (hk : IsN knd s.heap ks a) (h : Q true s) : wpAny (model prog w) A (hashByValue 8 (.ref a)) Q E s := by
 have hT := hk.key.typeIs
 obtain ⟨o, items, n, ho, _, hd, hi, hall⟩ := hk
 unfold hashByValue
 refine wpAny_bind (wpAny_specialOf hT F.slot_tuple_hash.lookup ?_)
 show wpAny _ _ (seqItems? (.ref a) >>= _) _ _ s
 refine wpAny_bind (wpAny_seqItemsQ ho hd ?_)
 refine wpAny_bind ?_
 show wpAny _ _ (forIn items _ _) _ _ s
 rw [← Array.forIn_toList]
 refine wpAny_forIn_list _ (fun rest r s' => r.1 = none ∧ s' = s ∧ ∀ v ∈ rest, ∃ k t, v = Value.int k t) _ ?_ ?_ _ _ ⟨rfl, rfl, hall⟩
 · rintro v rest r s' ⟨hr, rfl, hall⟩
   obtain ⟨k, t, rfl⟩ := hall v List.mem_cons_self
   refine wpAny_bind (m := hashByValue 7 (.int k t)) (wpAny_pure ?_)
   simp only [Bool.not_true, Bool.false_eq_true, if_false]
   exact wpAny_pure ⟨rfl, rfl, fun u hu' => hall u (List.mem_cons_of_mem _ hu')⟩
 · rintro ⟨r1, r2⟩ s' ⟨hr, rfl, _⟩
   simp only at hr
   subst hr
   exact wpAny_pure h
theorem ofClass_n {ks : List K} {a : Addr} {Q : Bool → Shared → Prop} (hk : IsN knd s.heap ks a) (h : Q false s) : wpAny (model prog w) A (ofAClassStatement 8 (.ref a)) Q E s := by
 have hT := hk.key.typeIs
 obtain ⟨o, items, n, ho, _, hd, hi, hall⟩ := hk
 unfold ofAClassStatement
 refine wpAny_bind (wpAny_typeOf hT ?_)
 refine wpAny_bind (m := pure true) (wpAny_pure ?_)
 simp only [Bool.not_true, Bool.false_eq_true, if_false]
 refine wpAny_bind (wpAny_seqItemsQ ho hd ?_)
 refine wpAny_bind ?_
 show wpAny _ _ (forIn items _ _) _ _ s
 rw [← Array.forIn_toList]
 refine wpAny_forIn_list _ (fun rest r s' => r.1 = none ∧ s' = s ∧ ∀ v ∈ rest, ∃ k t, v = Value.int k t) _ ?_ ?_ _ _ ⟨rfl, rfl, hall⟩
 · rintro v rest r s' ⟨hr, rfl, hall⟩
   obtain ⟨k, t, rfl⟩ := hall v List.mem_cons_self
   refine wpAny_bind (m := ofAClassStatement 7 (.int k t)) (wpAny_pure ?_)
   simp only [Bool.false_eq_true, if_false]
   exact wpAny_pure ⟨rfl, rfl, fun u hu' => hall u (List.mem_cons_of_mem _ hu')⟩
 · rintro ⟨r1, r2⟩ s' ⟨hr, rfl, _⟩
   simp only at hr
   subst hr
   exact wpAny_pure h
def Ns (knd : KeyKind prog w K) (h : Heap) (l : List Value) (ks : List K) : Prop := ∀ v ∈ l, ∃ b k', v = .ref b ∧ IsN knd h k' b ∧ k' ≠ ks
theorem unseen {ks : List K} {x : Addr} {Q : Bool → Shared → Prop} (hx : IsN knd s.heap ks x) {l : List Value} (hl : Ns knd s.heap l ks) (h : Q false s) : wpAny (model prog w) A (searchCouldBeSeen (.ref x) l) Q E s := by
 unfold searchCouldBeSeen
 refine wpAny_bind ?_
 refine wpAny_forIn_list _ (fun rest r s' => r.1 = none ∧ s' = s ∧ Ns knd s.heap rest ks) _ ?_ ?_ _ _ ⟨rfl, rfl, hl⟩
 · rintro v rest r s' ⟨hr, rfl, hall⟩
   obtain ⟨b, k', rfl, hb, hne⟩ := hall v List.mem_cons_self
   have hrest : Ns knd s'.heap rest ks := fun u hu' => hall u (List.mem_cons_of_mem _ hu')
   have hxb : (x == b) = false := by
     rw [beq_eq_false_iff_ne]
     intro e
     subst e
     exact hne (hb.key.inj hx.key)
   have hc : ((match (Value.ref x), (Value.ref b) with | .ref a, .ref b => a == b | _, _ => false) || (carriedByValue (.ref x) && carriedByValue (.ref b))) = false := by
     show ((x == b) || (false && false)) = false
     rw [hxb]; rfl
   show wpAny _ _ (if ((match (Value.ref x), (Value.ref b) with | .ref a, .ref b => a == b | _, _ => false) || (carriedByValue (.ref x) && carriedByValue (.ref b))) = true then _ else _) _ _ _
   rw [if_neg (by rw [hc]; exact Bool.false_ne_true)]
   refine wpAny_bind (wpAny_eqIsQuiet_tuple hx.key ?_)
   simp only [Bool.not_true, Bool.false_eq_true, if_false]
   refine wpAny_bind (wpAny_eqIsQuiet_tuple hb.key ?_)
   simp only [Bool.not_true, Bool.false_eq_true, if_false]
   refine wpAny_bind (ofClass_n hx ?_)
   simp only [Bool.false_eq_true, if_false]
   refine wpAny_bind (ofClass_n hb ?_)
   simp only [Bool.false_eq_true, if_false]
   exact wpAny_pure ⟨rfl, rfl, hrest⟩
 · rintro ⟨r1, r2⟩ s' ⟨hr, rfl, _⟩
   simp only at hr
   subst hr
   exact wpAny_pure h
theorem search_free {S : Addr} {o : Obj} {es : Array (Int × Value)} {ep : Nat} {t : SetTable} (ho : s.heap.get? S = some o) (hd : o.data = .set es ep t) (hf : t.fits es.size = true) (hm : t.mask = 7 ∨ t.mask = 31) (hdm : t.dummies = #[])
   {x : Addr} {ks : List K} (hx : IsN knd s.heap ks x) (hes : ∀ e ∈ es.toList, ∃ b k', e.2 = Value.ref b ∧ IsN knd s.heap k' b ∧ k' ≠ ks) (hu : A.units < cLine) {h : Int} {Q : SetFound → Shared → Prop} (hQ : ∀ j, Q (.free j false) s) :
   ∀ (k F : Nat) (stand : Option Probe), k < F → k < 10 * turns t.mask → (stand.getD (t.probeStart h)).dummy = none → Hit t k (stand.getD (t.probeStart h)) → wpAny (model prog w) A (setSearchFrom S (.ref x) h true F stand) Q E s := by
 intro k
 induction k using Nat.strongRecOn with
 | ind k ih =>
   intro F stand hF hk hdn hh
   obtain ⟨F', rfl⟩ : ∃ F', F = F' + 1 := ⟨F - 1, by lia⟩
   unfold setSearchFrom
   refine wpAny_bind (wpAny_setState_of ho hd hf ?_)
   dsimp only
   have hgw : t.gaveWay = false := by
     unfold gaveWay
     rcases hm with z | z <;> rw [z] <;> rfl
   rw [hgw]
   simp only [Bool.false_eq_true, if_false]
   have bad : ∀ {ha : Nat → Int}, (∀ met, t.probe ha h (stand.getD (t.probeStart h)) = some met → False) → False := fun {ha} hn => by
     rcases go_hit (ha := ha) (h := h) hdm (10 * turns t.mask) k _ hk hdn hh with ⟨j, e⟩ | ⟨j, i, next, k', e, _⟩
     · exact hn _ e
     · exact hn _ e
   split
   · next met heq =>
     rcases go_hit hdm (10 * turns t.mask) k _ hk hdn hh with ⟨j, e⟩ | ⟨j, i, next, k', e, r1, r2, r3, r4, r5⟩
     · have e2 := Option.some.inj (e.symm.trans heq)
       subst e2
       exact wpAny_pure (hQ j)
     · have e2 := Option.some.inj (e.symm.trans heq)
       subst e2
       dsimp only
       have hps : t.place.size = es.size := by
         unfold fits at hf
         rw [Bool.and_eq_true] at hf
         exact eq_of_beq hf.1
       have hil : i < es.size := by
         have := (Array.getElem?_eq_some_iff.mp r2).1
         lia
       obtain ⟨h0, y, hei⟩ : ∃ h0 y, es[i]? = some (h0, y) := ⟨es[i].1, es[i].2, Array.getElem?_eq_getElem hil⟩
       obtain ⟨b, kb, eb, hb, hne⟩ := hes (h0, y) (List.mem_of_getElem? (by rw [Array.getElem?_toList]; exact hei))
       have eb : y = .ref b := eb
       subst eb
       have hNs : Ns knd s.heap (List.map (fun x => x.snd) (Array.filter (fun x => x.fst == h) es).toList) ks := fun v hv => by
         obtain ⟨e0, he0, rfl⟩ := List.mem_map.mp hv
         rw [Array.toList_filter] at he0
         obtain ⟨b', k2, q1, q2, q3⟩ := hes e0 (List.mem_filter.mp he0).1
         exact ⟨b', k2, q1, q2, q3⟩
       have hsm : t.sameMemory t.moves t.mask = some true := by unfold sameMemory; rw [if_pos (beq_self_eq_true _)]
       rcases Bool.eq_false_or_eq_true t.led with hl | hl
       · simp only [hl, Bool.not_true, Bool.false_eq_true, if_false]
         rw [hei]
         dsimp only
         refine wpAny_bind (wpAny_holding (wpAny_eqBool_tuple hu hb.key hx.key ?_))
         rw [decide_eq_false hne]
         refine wpAny_bind (wpAny_setState_of ho hd hf ?_)
         simp only [Bool.and_false, Bool.false_eq_true, if_false, hsm, if_true, r1, hei]
         refine wpAny_bind (wpAny_isSame_ref_self ?_)
         simp only [if_true]
         refine wpAny_bind (wpAny_pure ?_)
         simp only [Bool.false_eq_true, if_false]
         exact ih k' r5 F' (some next) (by lia) (by lia) r3 r4
       · simp only [hl, Bool.not_false, if_true]
         refine wpAny_bind (unseen hx hNs ?_)
         simp only [Bool.false_eq_true, if_false]
         rw [hei]
         dsimp only
         refine wpAny_bind (wpAny_holding (wpAny_eqBool_tuple hu hb.key hx.key ?_))
         rw [decide_eq_false hne]
         refine wpAny_bind (wpAny_setState_of ho hd hf ?_)
         simp only [Bool.and_false, Bool.false_eq_true, if_false, hsm, if_true, r1, hei]
         refine wpAny_bind (wpAny_isSame_ref_self ?_)
         simp only [if_true]
         refine wpAny_bind (wpAny_pure ?_)
         simp only [Bool.false_eq_true, if_false]
         exact ih k' r5 F' (some next) (by lia) (by lia) r3 r4
   · next heq => exact (bad heq).elim
end
end St
end L2
namespace L2
open PySem PySem.Spec PyProof.Rows
namespace St
open SetTable
theorem free_ok {owner : Array (Option Nat)} {b e : Nat} (he : owner.getD e (some 0) = none) : ∀ (fuel m n : Nat), m < fuel → (bs 31 b (n + m)).1 = e →
   ∃ j, layClean.free 31 owner fuel (bs 31 b n).1 (bs 31 b n).2 = some j ∧ owner.getD j (some 0) = none
 | fuel + 1, m, n, hm, hb => by
   unfold layClean.free
   split
   · next k hk =>
     have := List.find?_some hk
     exact ⟨_, rfl, Option.isNone_iff_eq_none.mp this⟩
   · next hk =>
     cases m with
     | zero =>
       exfalso
       rw [List.find?_eq_none] at hk
       have h0 : (0 : Nat) ∈ List.range (runEnd 31 (bs 31 b n).1 + 1 - (bs 31 b n).1) := List.mem_range.mpr (by unfold runEnd; split <;> lia)
       have h1 := hk 0 h0
       rw [Nat.add_zero] at hb h1
       rw [hb, he] at h1
       exact h1 rfl
     | succ m =>
       obtain ⟨j, h1, h2⟩ := free_ok he fuel m (n + 1) (by lia) (by rw [show n + 1 + m = n + (m + 1) by lia]; exact hb)
       exact ⟨j, h1, h2⟩
def lv (owner : Array (Option Nat)) (j : Nat) : Option (Nat × Nat) := (owner.getD j none).map (j, ·)
theorem lv_set {owner : Array (Option Nat)} {j k : Nat} (hj : owner.getD j (some 0) = none) (hs : owner.size = 32) : (((List.range 32).filterMap (lv (owner.setIfInBounds j (some k)))).map (·.2)).Perm (k :: ((List.range 32).filterMap (lv owner)).map (·.2)) ∧ j < 32 := by
 have hjl : j < 32 := by
   refine Nat.lt_of_not_le fun hle => ?_
   rw [Array.getD_eq_getD_getElem?, Array.getElem?_eq_none (by lia)] at hj
   cases hj
 refine ⟨?_, hjl⟩
 have hsplit : List.range 32 = List.range j ++ j :: (List.range 32).drop (j + 1) := by
   have h1 : (List.range 32)[j]? = some j := List.getElem?_range hjl
   obtain ⟨hlt, hg⟩ := List.getElem?_eq_some_iff.mp h1
   have h2 := (List.take_append_drop j (List.range 32)).symm
   rw [List.drop_eq_getElem_cons hlt, hg, List.take_range, Nat.min_eq_left (by lia)] at h2
   exact h2
 have hne1 : ∀ a ∈ List.range j, lv (owner.setIfInBounds j (some k)) a = lv owner a := fun a ha => by
   have : a ≠ j := by have := List.mem_range.mp ha; lia
   unfold lv
   rw [Array.getD_eq_getD_getElem?, Array.getD_eq_getD_getElem?, Array.getElem?_setIfInBounds_ne (Ne.symm this)]
 have hne2 : ∀ a ∈ (List.range 32).drop (j + 1), lv (owner.setIfInBounds j (some k)) a = lv owner a := fun a ha => by
   have : a ≠ j := by
     obtain ⟨i, hi⟩ := List.getElem?_of_mem ha
     rw [List.getElem?_drop] at hi
     have hi2 := (List.getElem?_eq_some_iff.mp hi)
     obtain ⟨hl, hi3⟩ := hi2
     rw [List.getElem_range] at hi3
     lia
   unfold lv
   rw [Array.getD_eq_getD_getElem?, Array.getD_eq_getD_getElem?, Array.getElem?_setIfInBounds_ne (Ne.symm this)]
 have hnew : lv (owner.setIfInBounds j (some k)) j = some (j, k) := by
   unfold lv
   rw [Array.getD_eq_getD_getElem?, Array.getElem?_setIfInBounds_self_of_lt (by lia)]; rfl
 have hold : lv owner j = none := by
   unfold lv
   rw [Array.getD_eq_getD_getElem?] at hj ⊢
   have hlt : j < owner.size := by lia
   rw [Array.getElem?_eq_getElem hlt] at hj ⊢
   show (owner[j]).map _ = none
   have hj' : owner[j] = none := hj
   rw [hj']; rfl
 have hcong : ∀ {l : List Nat}, (∀ a ∈ l, lv (owner.setIfInBounds j (some k)) a = lv owner a) → l.filterMap (lv (owner.setIfInBounds j (some k))) = l.filterMap (lv owner) := fun {l} h => by
   induction l with
   | nil => rfl
   | cons a l ih =>
     rw [List.filterMap_cons, List.filterMap_cons, h a List.mem_cons_self, ih fun b hb => h b (List.mem_cons_of_mem _ hb)]
 rw [hsplit, List.filterMap_append, List.filterMap_append, List.filterMap_cons_some hnew, List.filterMap_cons_none hold, hcong hne1, hcong hne2, List.map_append, List.map_append, List.map_cons]
 exact List.perm_middle
def Own (owner : Array (Option Nat)) (k : Nat) : Prop := owner.size = 32 ∧ (((List.range 32).filterMap (lv owner)).map (·.2)).Perm (List.range k)
theorem own_free {owner : Array (Option Nat)} {k : Nat} (ho : Own owner k) (hk : k < 32) : ∃ e, e < 32 ∧ owner.getD e (some 0) = none := by
 refine Classical.byContradiction fun hn => ?_
 have hall : ∀ e, e < 32 → owner.getD e (some 0) ≠ none := fun e he z => hn ⟨e, he, z⟩
 have hlen := ho.2.length_eq
 rw [List.length_map, List.length_range] at hlen
 have hall2 : ∀ a ∈ List.range 32, (lv owner a).isSome = true := fun a ha => by
   have ha' := List.mem_range.mp ha
   have h1 := hall a ha'
   unfold lv
   rw [Array.getD_eq_getD_getElem?] at h1 ⊢
   have hlt : a < owner.size := by rw [ho.1]; exact ha'
   rw [Array.getElem?_eq_getElem hlt] at h1 ⊢
   cases hc : owner[a] with
   | none => rw [hc] at h1; exact absurd rfl h1
   | some v => show ((some v).map (fun x => (a, x))).isSome = true; rfl
 have hfl : ∀ {l : List Nat}, (∀ a ∈ l, (lv owner a).isSome = true) → (l.filterMap (lv owner)).length = l.length := fun {l} h => by
   induction l with
   | nil => rfl
   | cons a l ih =>
     obtain ⟨v, hv⟩ := Option.isSome_iff_exists.mp (h a List.mem_cons_self)
     rw [List.filterMap_cons_some hv, List.length_cons, List.length_cons, ih fun b hb => h b (List.mem_cons_of_mem _ hb)]
 rw [hfl hall2, List.length_range] at hlen
 lia
def stp (acc : Option (Array (Option Nat) × Nat)) (h : Int) : Option (Array (Option Nat) × Nat) := do
 let (owner, k) ← acc
 let j ← layClean.free 31 owner (turns 31) (bits h % (31 + 1)) (bits h)
 pure (owner.setIfInBounds j (some k), k + 1)
theorem stp_ok {owner : Array (Option Nat)} {k : Nat} (ho : Own owner k) (hk : k < 32) (h : Int) : ∃ owner', stp (some (owner, k)) h = some (owner', k + 1) ∧ Own owner' (k + 1) := by
 obtain ⟨e, he, hn⟩ := own_free ho hk
 obtain ⟨n, hn1, hn2⟩ := bs_hits (mask := 31) (b := bits h) (.inr rfl) (bits_lt h) (show e < 31 + 1 by lia)
 obtain ⟨j, hj1, hj2⟩ := free_ok (owner := owner) (b := bits h) hn (turns 31) n 0 (by unfold turns; lia) (by rw [Nat.zero_add]; exact hn2)
 have hp := lv_set (k := k) hj2 ho.1
 refine ⟨owner.setIfInBounds j (some k), ?_, ?_, ?_⟩
 · have hj1' : layClean.free 31 owner (turns 31) (bits h % (31 + 1)) (bits h) = some j := hj1
   show (do let j ← layClean.free 31 owner (turns 31) (bits h % (31 + 1)) (bits h); pure (owner.setIfInBounds j (some k), k + 1)) = _
   rw [hj1']; rfl
 · rw [Array.size_setIfInBounds]; exact ho.1
 · refine hp.1.trans ?_
   rw [show List.range (k + 1) = List.range k ++ [k] from List.range_succ]
   exact (List.Perm.cons k ho.2).trans (List.perm_append_comm (l₁ := [k]))
theorem fold_ok : ∀ (hs : List Int) {owner : Array (Option Nat)} {k : Nat}, Own owner k → k + hs.length ≤ 32 → ∃ owner', hs.foldl stp (some (owner, k)) = some (owner', k + hs.length) ∧ Own owner' (k + hs.length)
 | [], owner, k, ho, _ => ⟨owner, rfl, ho⟩
 | h :: hs, owner, k, ho, hl => by
   rw [List.length_cons] at hl
   obtain ⟨o1, e1, ho1⟩ := stp_ok ho (by lia) h
   obtain ⟨o2, e2, ho2⟩ := fold_ok hs ho1 (by lia)
   refine ⟨o2, ?_, ?_⟩
   · rw [List.foldl_cons, e1, e2, List.length_cons, show k + 1 + hs.length = k + (hs.length + 1) by lia]
   · rw [List.length_cons, show k + (hs.length + 1) = k + 1 + hs.length by lia]; exact ho2
theorem own_none : Own (Array.replicate 32 none) 0 := by
 refine ⟨Array.size_replicate, ?_⟩
 have : (List.range 32).filterMap (lv (Array.replicate 32 none)) = [] := by decide +kernel
 rw [this]; exact List.Perm.refl _
theorem laid_ok (hashes : Array Int) (hn : hashes.size ≤ 32) (finger moves : Nat) (led plain : Bool) : ∃ t order, laid 31 finger moves led plain hashes = some (t, order) ∧ t.mask = 31 ∧ t.dummies = #[] ∧ t.place.size = hashes.size ∧ order.toList.Perm (List.range hashes.size) := by
 obtain ⟨owner, e, ho⟩ := fold_ok hashes.toList own_none (by rw [Array.length_toList]; lia)
 have hc : layClean 31 hashes = some owner := by
   unfold layClean
   have e' : hashes.foldl stp (some (Array.replicate 32 none, 0)) = some (owner, 0 + hashes.toList.length) := by rw [← Array.foldl_toList]; exact e
   have e2 : hashes.foldl (init := some (Array.replicate (31 + 1) none, 0)) (fun acc h => do
       let (owner, k) ← acc
       let j ← layClean.free 31 owner (turns 31) (bits h % (31 + 1)) (bits h)
       pure (owner.setIfInBounds j (some k), k + 1)) = some (owner, 0 + hashes.toList.length) := e'
   rw [e2]; rfl
 have hp := ho.2
 rw [Nat.zero_add, Array.length_toList] at hp
 refine ⟨{ mask := 31, place := (((List.range 32).filterMap (lv owner)).map (·.1)).toArray, dummies := #[], finger, led, moves, plain }, (((List.range 32).filterMap (lv owner)).map (·.2)).toArray, ?_, rfl, rfl, ?_, ?_⟩
 · unfold laid
   rw [hc]
   rfl
 · have := hp.length_eq
   rw [List.length_map, List.length_range] at this
   show (((List.range 32).filterMap (lv owner)).map (·.1)).toArray.size = _
   rw [List.size_toArray, List.length_map]; exact this
 · exact hp
end St
end L2
namespace L2
open PySem PySem.Spec PyProof.Rows
namespace St
open SetTable
section
variable {prog : Program} {w : World} {K : Type} [DecidableEq K] (knd : KeyKind prog w K) (G : Addr → Prop)
def SetN (h : Heap) (S : Addr) (keys : List (List K)) : Prop := ∃ o es ep t, h.get? S = some o ∧ o.ExactSet ∧ o.data = .set es ep t ∧ (t.mask = 7 ∧ es.size ≤ 4 ∨ t.mask = 31) ∧ t.dummies = #[] ∧ t.place.size = es.size ∧ es.size = keys.length ∧
 ∀ e ∈ es.toList, ∃ b k, e.2 = Value.ref b ∧ IsN knd h k b ∧ k ∈ keys ∧ G b
variable {knd} {G}
theorem SetN.keep {h h' : Heap} {S : Addr} {keys : List (List K)} (x : SetN knd G h S keys) (k : ∀ b o, b = S ∨ G b → h.get? b = some o → h'.get? b = some o) : SetN knd G h' S keys := by
 obtain ⟨o, es, ep, t, h1, h2, h3, h4, h5, h6, h7, h8⟩ := x
 refine ⟨o, es, ep, t, k _ _ (.inl rfl) h1, h2, h3, h4, h5, h6, h7, fun e he => ?_⟩
 obtain ⟨b, k', q1, q2, q3, q4⟩ := h8 e he
 exact ⟨b, k', q1, q2.keep fun o e => k _ o (.inr q4) e, q3, q4⟩
variable {A : Around} {E : Value → Shared → Prop} {s : Shared}
theorem insert_size {α : Type} (xs : Array α) (p : Nat) (x : α) : (insertAt xs p x).size = xs.size + 1 := by
 have h := (SetTable.insertAt_perm xs p x).length_eq
 rw [Array.length_toList, Array.length_toList, Array.size_push] at h
 exact h
theorem keep_but {h h' : Heap} {S : Addr} (sb : Heap.SameBut S h h') {ks : List K} {b : Addr} {o : Obj} {es ep t} (hS : h.get? S = some o) (hd : o.data = .set es ep t) (x : IsN knd h ks b) : IsN knd h' ks b := by
 obtain ⟨o', items, n, h1, h2, h3, h4⟩ := id x
 have hne : b ≠ S := by
   rintro rfl
   rw [hS] at h1
   cases h1
   rw [hd] at h3
   cases h3
 exact x.keep fun o'' e => (sb.2 b hne).trans e
theorem add_tail {S : Addr} {o : Obj} {es : Array (Int × Value)} {ep : Nat} {t : SetTable} (ho : s.heap.get? S = some o) (hcl : o.ExactSet) (hd : o.data = .set es ep t) {es1 : Array (Int × Value)} {t1 : SetTable} {keys : List (List K)}
   (hmk : t1.mask = 7 ∧ es1.size ≤ 5 ∨ t1.mask = 31) (hdm : t1.dummies = #[]) (hps : t1.place.size = es1.size) (hn : es1.size = keys.length) (h17 : es1.size ≤ 17) (hel : ∀ e ∈ es1.toList, ∃ b k, e.2 = Value.ref b ∧ IsN knd s.heap k b ∧ k ∈ keys ∧ G b) {m : Nat} (hm : m = es1.size) {Q : Bool → Shared → Prop}
   (h : ∀ h', Heap.SameBut S s.heap h' → SetN knd G h' S keys → Q true { s with heap := h' }) :
   wpAny (model prog w) A (do storeSet S es1 t1; if (!false && t1.tooFull) = true then do { setRelay S (grown m); pure true } else pure true) Q E s := by
 refine wpAny_bind (wpAny_storeSet_of ho hd ?_ (Nat.le_trans h17 (by decide)))
 have hg1 : (s.heap.update S (Obj.putSet es1 t1)).get? S = some { o with data := .set es1 (ep + 1) t1 } := by
   have := Heap.get?_update_self (Obj.putSet es1 t1) ho (by rw [putSet_of _ _ hd]; rfl)
   rw [putSet_of _ _ hd] at this; exact this
 have sb1 : Heap.SameBut S s.heap (s.heap.update S (Obj.putSet es1 t1)) := Heap.SameBut.update ..
 generalize s.heap.update S (Obj.putSet es1 t1) = h1 at hg1 sb1 ⊢
 have hel1 : ∀ e ∈ es1.toList, ∃ b k, e.2 = Value.ref b ∧ IsN knd h1 k b ∧ k ∈ keys ∧ G b := fun e he => by
   obtain ⟨b, k, q1, q2, q3, q4⟩ := hel e he
   exact ⟨b, k, q1, keep_but sb1 ho hd q2, q3, q4⟩
 have hfl : SetTable.fill t1 = es1.size := by unfold SetTable.fill; rw [hdm, hps]; rfl
 by_cases hfull : t1.tooFull = true
 · have hf5 : es1.size * 5 ≥ t1.mask * 3 := by
     unfold tooFull at hfull
     rw [hfl] at hfull
     exact of_decide_eq_true hfull
   have hm7 : t1.mask = 7 ∧ es1.size = 5 := by
     rcases hmk with z | z
     · rw [z.1] at hf5; exact ⟨z.1, by lia⟩
     · rw [z] at hf5; lia
   simp only [hfull, Bool.not_false, Bool.and_self, if_true]
   refine wpAny_bind ?_
   unfold setRelay
   have hfit1 : t1.fits es1.size = true := by
     unfold fits
     rw [hfl, hps, hm7.1, hm7.2]; rfl
   refine wpAny_bind (wpAny_setState_of (s := { s with heap := h1 }) (o := { o with data := .set es1 (ep + 1) t1 }) hg1 rfl hfit1 ?_)
   dsimp only
   have hgr : grown m = 20 := by rw [hm, hm7.2]; rfl
   have hsa : sizeAbove 20 = 32 := by decide
   rw [hgr, hsa, if_neg (by decide)]
   have hrl : t1.relaid (es1.map (·.1)) 20 = laid 31 t1.finger (t1.movedTo 31) t1.led t1.plain (es1.map (·.1)) := by
     unfold relaid
     rw [hsa]
   obtain ⟨t2, order, el, et1, et2, et3, eo⟩ := laid_ok (es1.map (·.1)) (by rw [Array.size_map]; lia) t1.finger (t1.movedTo 31) t1.led t1.plain
   rw [Array.size_map] at et3 eo
   have hperm : (order.filterMap (es1[·]?)).toList.Perm es1.toList := by
     rw [Array.toList_filterMap]
     have := eo.filterMap (fun i => es1[i]?)
     rw [filterMap_getElem?_range] at this
     exact this
   have hsz2 : (order.filterMap (es1[·]?)).size = es1.size := by
     have := hperm.length_eq
     rw [Array.length_toList, Array.length_toList] at this
     exact this
   rw [hrl, el]
   refine wpAny_bind ?_
   show wpAny _ _ (if ((order.filterMap (es1[·]?)).size != es1.size) = true then _ else pure (order.filterMap (es1[·]?), t2)) _ _ _
   rw [if_neg (by rw [hsz2]; simp)]
   refine wpAny_pure ?_
   generalize order.filterMap (es1[·]?) = es2 at hperm hsz2 ⊢
   refine wpAny_storeSet_of (s := { s with heap := h1 }) (o := { o with data := .set es1 (ep + 1) t1 }) hg1 rfl ?_ (by rw [hsz2]; exact Nat.le_trans h17 (by decide))
   have hg2 : (h1.update S (Obj.putSet es2 t2)).get? S = some { o with data := .set es2 (ep + 1 + 1) t2 } := by
     have := Heap.get?_update_self (Obj.putSet es2 t2) hg1 (by rw [putSet_of (es := es1) (ep := ep + 1) (t := t1) _ _ rfl]; rfl)
     rw [putSet_of (es := es1) (ep := ep + 1) (t := t1) _ _ rfl] at this; exact this
   have sb2 : Heap.SameBut S h1 (h1.update S (Obj.putSet es2 t2)) := Heap.SameBut.update ..
   have hel2 : ∀ e ∈ es2.toList, ∃ b k, e.2 = Value.ref b ∧ IsN knd (h1.update S (Obj.putSet es2 t2)) k b ∧ k ∈ keys ∧ G b := fun e he => by
     obtain ⟨b, k, q1, q2, q3, q4⟩ := hel1 e (hperm.mem_iff.mp he)
     exact ⟨b, k, q1, keep_but (es := es1) (ep := ep + 1) (t := t1) sb2 hg1 rfl q2, q3, q4⟩
   refine wpAny_pure (h (h1.update S (Obj.putSet es2 t2)) ⟨sb2.1.trans sb1.1, fun b hb => (sb2.2 b hb).trans (sb1.2 b hb)⟩ ⟨_, _, _, _, hg2, hcl, rfl, .inr et1, et2, by rw [et3, hsz2], by rw [hsz2]; exact hn, hel2⟩)
 · have hfull' : t1.tooFull = false := by simpa using hfull
   simp only [hfull', Bool.and_false, Bool.false_eq_true, if_false]
   refine wpAny_pure (h h1 sb1 ⟨_, _, _, _, hg1, hcl, rfl, ?_, hdm, hps, hn, hel1⟩)
   rcases hmk with z | z
   · refine .inl ⟨z.1, ?_⟩
     unfold tooFull at hfull'
     rw [hfl, z.1] at hfull'
     have hf' := of_decide_eq_false hfull'
     lia
   · exact .inr z
theorem add_n {S x : Addr} {ks : List K} {keys : List (List K)} {hsh : Int} {Q : Bool → Shared → Prop} (hS : SetN knd G s.heap S keys) (hx : IsN knd s.heap ks x) (hGx : G x) (hne : ks ∉ keys) (hl : keys.length ≤ 16) (hu : A.units < cLine)
   (h : ∀ h', Heap.SameBut S s.heap h' → SetN knd G h' S (ks :: keys) → Q true { s with heap := h' }) : wpAny (model prog w) A (setAddHashed S (.ref x) hsh) Q E s := by
 obtain ⟨o, es, ep, t, ho, hcl, hd, hmk, hdm, hps, hn, hel⟩ := hS
 have hm : t.mask = 7 ∨ t.mask = 31 := hmk.elim (fun z => .inl z.1) .inr
 have hsz : es.size ≤ t.mask := by rcases hmk with z | z <;> lia
 have hfl : SetTable.fill t = es.size := by unfold SetTable.fill; rw [hdm, hps]; rfl
 have hfit : t.fits es.size = true := by
   unfold fits
   rw [hfl, hps]
   simp
   exact hsz
 have hes : ∀ e ∈ es.toList, ∃ b k', e.2 = Value.ref b ∧ IsN knd s.heap k' b ∧ k' ≠ ks := fun e he => by
   obtain ⟨b, k, q1, q2, q3, _⟩ := hel e he
   exact ⟨b, k, q1, q2, fun z => hne (z ▸ q3)⟩
 unfold setAddHashed setAddHashedIn
 refine wpAny_holding (wpAny_bind (wpAny_setState_of ho hd hfit ?_))
 dsimp only
 have hbs : byScan (.ref x) es = false := rfl
 rw [hbs]
 simp only [Bool.false_eq_true, if_false]
 obtain ⟨k, hk1, hk2⟩ := start_hit hm hdm (by rw [hps]; exact hsz) hsh
 have hkF : k < 100000 := by
   unfold turns at hk1
   rcases hm with z | z <;> rw [z] at hk1 <;> lia
 refine wpAny_bind (m := setSearch S (.ref x) hsh true) (search_free ho hd hfit hm hdm hx hes hu (fun j => ?_) k 100000 none hkF hk1 rfl hk2)
 dsimp only
 refine wpAny_bind (wpAny_setState_of ho hd hfit ?_)
 dsimp only
 have hput : (t.put j).1 = { t with place := insertAt t.place (t.put j).2 j } := by
   unfold put
   have hz : has t.dummies j = false := by rw [hdm]; unfold has; rfl
   simp only [hz, Bool.false_eq_true, if_false]
 have hpl1 : (t.put j).1.place.size = es.size + 1 := by rw [hput]; show (insertAt _ _ _).size = _; rw [insert_size, hps]
 have hdm1 : (t.put j).1.dummies = #[] := by rw [hput]; exact hdm
 have hmk1 : (t.put j).1.mask = t.mask := by rw [hput]
 generalize (t.put j).1 = t1 at hpl1 hdm1 hmk1 ⊢
 generalize (t.put j).2 = p
 have hsz1 : (insertAt es p (hsh, Value.ref x)).size = es.size + 1 := insert_size _ _ _
 have hel1 : ∀ e ∈ (insertAt es p (hsh, Value.ref x)).toList, ∃ b k, e.2 = Value.ref b ∧ IsN knd s.heap k b ∧ k ∈ ks :: keys ∧ G b := fun e he => by
   have he' := (SetTable.insertAt_perm es p (hsh, Value.ref x)).mem_iff.mp he
   rw [Array.toList_push] at he'
   rcases List.mem_append.mp he' with z | z
   · obtain ⟨b, k, q1, q2, q3, q4⟩ := hel e z
     exact ⟨b, k, q1, q2, List.mem_cons_of_mem _ q3, q4⟩
   · rw [List.mem_singleton.mp z]
     exact ⟨x, ks, rfl, hx, List.mem_cons_self, hGx⟩
 have tail := add_tail (knd := knd) (G := G) (A := A) (E := E) (Q := Q) ho hcl hd (es1 := insertAt es p (hsh, Value.ref x)) (t1 := t1) (keys := ks :: keys) (by rw [hmk1, hsz1]; rcases hmk with z | z; exact .inl ⟨z.1, by lia⟩; exact .inr z) hdm1 (by rw [hpl1, hsz1]) (by rw [hsz1, hn]; rfl) (by rw [hsz1]; lia) hel1 (m := es.size + 1) (by rw [hsz1]) h
 split
 · refine wpAny_bind (hashByValue_n hx ?_)
   simp only [if_true]
   exact tail
 · refine wpAny_bind (wpAny_pure ?_)
   simp only [if_true]
   exact tail
end
end St
end L2
namespace L2
open PySem PySem.Spec PyProof.Rows
namespace St
section
variable {prog : Program} {w : World} {K : Type} [DecidableEq K] {knd : KeyKind prog w K} {G : Addr → Prop} {A : Around} {R : Result → Shared → Prop} {I : Addr} {fp wr : List Addr} {GG : Array GenState → Array GenState → Prop} {n : Nat} {P : Nat → Value → Prop} {St : Nat → Shared → Prop}
def ksAt (key : Nat → List K) : Nat → List (List K)
 | 0 => []
 | i + 1 => key i :: ksAt key i
theorem ksAt_length (key : Nat → List K) : ∀ i, (ksAt key i).length = i
 | 0 => rfl
 | i + 1 => by show (ksAt key i).length + 1 = i + 1; rw [ksAt_length key i]
theorem ksAt_mem {key : Nat → List K} {k : List K} : ∀ {i}, k ∈ ksAt key i → ∃ j, j < i ∧ key j = k
 | i + 1, h => by
   rcases List.mem_cons.mp h with z | z
   · exact ⟨i, Nat.lt_succ_self _, z.symm⟩
   · obtain ⟨j, h1, h2⟩ := ksAt_mem z
     exact ⟨j, Nat.lt_succ_of_lt h1, h2⟩
theorem turn_of {S : Addr} {s : Shared} (hz : wpAny (model prog w) A.in1 (Builtin.«set.update.loop» ⟨[.ref S, .ref I], []⟩)
     (fun fin s' => match fin with | .done f => R (.ok f) s' | .again c' => c'.quiet = true ∧ codeAny (model prog w) A c' R s') (fun e s' => R (.error e) s') s) :
   codeAny (model prog w) A (.builtin "set.update.loop" ⟨[.ref S, .ref I], []⟩) R s :=
 codeAny_builtin F.entry_set_update_loop ((Around.under_plainId F.plain_set_update_loop (A := A) ⟨[.ref S, .ref I], []⟩).symm ▸ hz)
theorem loop_n (W : WalksS prog w A.in1 I fp wr GG n P St) (S : Addr) (hSf : S ∉ fp) (key : Nat → List K) (adr : Nat → Addr) (hval : ∀ i v, P i v → v = Value.ref (adr i)) (hG : ∀ i, i < n → G (adr i)) (hGw : ∀ b, G b → b ∉ wr ∧ b ≠ S)
   (hinj : ∀ i j, i < n → j < n → key i = key j → i = j) (hn : n ≤ 17) (hu : A.units + 1 < cLine) (left i : Nat) (s : Shared) (hk : i + left = n) (hst : St i s) (hN : ∀ j, j < n → IsN knd s.heap (key j) (adr j)) (hS : SetN knd G s.heap S (ksAt key i))
   (hR : ∀ s', Moved (S :: wr) GG s s' → SetN knd G s'.heap S (ksAt key n) → R (.ok (.ret .none)) s') : codeAny (model prog w) A (.builtin "set.update.loop" ⟨[.ref S, .ref I], []⟩) R s := by
 have grow : ∀ {a b : Shared}, Moved wr GG a b → Moved (S :: wr) GG a b := fun m => m.mono fun _ => List.mem_cons_of_mem _
 have stay : ∀ {a b : Shared}, Moved wr GG a b → ∀ c o, c = S ∨ G c → a.heap.get? c = some o → b.heap.get? c = some o := fun m c o hc => m.heap c o (hc.elim (fun z => z ▸ mt (W.sub _) hSf) fun z => (hGw c z).1)
 induction left generalizing i s with
 | zero =>
   obtain rfl : i = n := by lia
   refine turn_of (show wpAny (model prog w) A.in1 (pyNext (Value.ref I) >>= _) _ _ s from wpAny_bind (W.done s _ _ hst fun s' m => ?_))
   exact wpAny_pure (hR s' (grow m) (hS.keep (stay m)))
 | succ left ih =>
   have hlt : i < n := by lia
   refine turn_of (show wpAny (model prog w) A.in1 (pyNext (Value.ref I) >>= _) _ _ s from wpAny_bind (W.item i s _ _ hlt hst fun v s' hP hst' m => ?_))
   obtain rfl := hval i v hP
   have hN' : ∀ j, j < n → IsN knd s'.heap (key j) (adr j) := fun j hj => (hN j hj).keep fun o e => stay m _ o (.inr (hG j hj)) e
   have hS' : SetN knd G s'.heap S (ksAt key i) := hS.keep (stay m)
   refine wpAny_bind (m := holding [Value.ref (adr i)] (setAdd S (Value.ref (adr i)))) (wpAny_holding ?_)
   unfold setAdd
   refine wpAny_holding (wpAny_bind (wpAny_pyHash_tuple hu (hN' i hlt).key ?_))
   refine add_n (knd := knd) (G := G) (s := { s' with toks := s'.toks + ((key i).length + 1) }) hS' (hN' i hlt) (hG i hlt) (fun z => ?_) (by rw [ksAt_length]; lia) hu fun h' sb hS2 => ?_
   · obtain ⟨j, j1, j2⟩ := ksAt_mem z
     have := hinj j i (by lia) hlt j2
     lia
   have other : ∀ c o, c ≠ S → s'.heap.get? c = some o → h'.get? c = some o := fun c o hc e => (sb.2 c hc).trans e
   refine wpAny_pure ⟨plainId_quiet F.plain_set_update_loop _, ih (i + 1) _ (by lia) (W.frame _ s' _ _ hst' (Nat.le_add_right _ _) fun b hb o e => other b o (fun z => hSf (z ▸ hb)) e) (fun j hj => (hN' j hj).keep fun o e => other _ o (hGw _ (hG j hj)).2 e) hS2 fun s'' m2 hS3 => ?_⟩
   exact hR s'' (((grow m).then_heap (Nat.le_add_right _ _) fun b o hb e => other b o (fun z => hb (z ▸ List.mem_cons_self)) e).trans W.gtrans m2) hS3
end
section
variable {prog : Program} {w : World} {K : Type} [DecidableEq K] {knd : KeyKind prog w K} {A : Around} {E : Value → Shared → Prop} {s : Shared}
abbrev nS (led : Bool) : Obj := { cls := .type "set", dict := none, data := .set #[] 0 (.fresh 0 0 led) }
abbrev nI (l : Addr) : Obj := { cls := .type "list_iterator", data := .fields #[.ref l, .int 0 0] }
theorem init_n {l : Addr} {items : Array Value} (led : Bool) (key : Nat → List K) (adr : Nat → Addr) (hh : A.handled = none) (hl : s.heap.IsList l items) (hv : ∀ (i : Nat) (v : Value), items[i]? = some v → v = Value.ref (adr i)) (hN : ∀ j, j < items.size → IsN knd s.heap (key j) (adr j))
   (hinj : ∀ i j, i < items.size → j < items.size → key i = key j → i = j) (hb : items.size ≤ 17) (hu : A.units + 20 < cLine) {Q : Fin → Shared → Prop} {E' : Value → Shared → Prop}
   (h : ∀ (h' : Heap) (tk : Nat), SetN knd (fun b => b < s.heap.objs.size) h' s.heap.objs.size (ksAt key items.size) → (∀ b o, s.heap.get? b = some o → h'.get? b = some o) → Q (.done (.ret .none)) { s with heap := h', toks := tk }) :
   wpAny (model prog w) A (Builtin.«set.__init__» ⟨[.ref s.heap.objs.size, .ref l], []⟩) Q E' { s with heap := s.heap.push (nS led) } := by
 have lS : l < s.heap.objs.size := by obtain ⟨_, e, _⟩ := hl; exact Heap.lt_size e
 obtain ⟨⟨_, od, _, osl⟩, el, hc, nl, hd⟩ := id hl
 simp only at hc hd; subst hc hd
 have el1 : (s.heap.push (nS led)).get? l = some { cls := .type "list", dict := od, data := .seq items nl, slots := osl } := Heap.get?_push_of_some _ el
 have eS : (s.heap.push (nS led)).get? s.heap.objs.size = some (nS led) := Heap.get?_push_size _ rfl
 have hl1 : (s.heap.push (nS led)).IsList l items := ⟨_, el1, rfl, nl, rfl⟩
 have t1 := F.sub_list_set; have t2 := F.sub_list_frozenset; have t3 : (Value.type "list" == Value.type "dict") = false := by decide
 unfold Builtin.«set.__init__» noKeywords Builtin.Frozenset.updateFrom
 generalize hPI : pyIter = PI; wp_walk; subst hPI
 have zS : (s.heap.push (nS led)).objs.size = s.heap.objs.size + 1 := Heap.size_push ..
 refine wpAny_pyIter_list hl1 (wpAny_bind (wpAny_runValue ?_))
 have up : ∀ b o, s.heap.get? b = some o → ((s.heap.push (nS led)).push (nI l)).get? b = some o := fun b o e => Heap.get?_push_of_some _ (Heap.get?_push_of_some _ e)
 have lI : l ≠ (s.heap.push (nS led)).objs.size := by rw [zS]; exact Nat.ne_of_lt (Nat.lt_succ_of_lt lS)
 refine loop_n (knd := knd) (G := fun b => b < s.heap.objs.size) ((Walks.list (A := A.in1) hh _ l lI items).toS) s.heap.objs.size ?_ key adr (fun i v hP => hv i v hP) (fun i hi => ?_) (fun b hb => ⟨?_, Nat.ne_of_lt hb⟩) hinj hb (by lia) items.size 0 _ (Nat.zero_add _)
   ⟨⟨_, Heap.get?_push_size _ rfl, rfl, rfl⟩, hl1.push _⟩ (fun j hj => (hN j hj).keep fun o e => up _ _ e) ⟨_, _, _, _, Heap.get?_push_of_some _ eS, ⟨rfl, rfl, rfl⟩, rfl, .inl ⟨rfl, Nat.zero_le _⟩, rfl, rfl, rfl, (fun e he => by simp at he)⟩ ?_
 · rw [zS]; intro hm
   rcases List.mem_cons.mp hm with z | z
   · exact absurd z (Nat.ne_of_lt (Nat.lt_succ_self _))
   · exact absurd (List.mem_singleton.mp z) (Nat.ne_of_gt lS)
 · obtain ⟨_, _, _, e, _⟩ := hN i hi; exact Heap.lt_size e
 · rw [zS]; intro hm
   exact absurd (List.mem_singleton.mp hm) (Nat.ne_of_lt (Nat.lt_succ_of_lt hb))
 rintro ⟨h', g', d', tk', os'⟩ m hS'
 obtain rfl : g' = s.gens := m.gens
 obtain rfl : d' = s.drawn := m.drawn
 obtain rfl : os' = s.os := m.os
 refine wpAny_pure (wpAny_pure (h h' tk' hS' fun b o e => ?_))
 have lb := Heap.lt_size e
 refine m.heap b o (fun hm => ?_) (up b o e)
 rw [zS] at hm
 rcases List.mem_cons.mp hm with z | z
 · exact absurd z (Nat.ne_of_lt lb)
 · exact absurd (List.mem_singleton.mp z) (Nat.ne_of_lt (Nat.lt_succ_of_lt lb))
theorem call_setN {l : Addr} {items : Array Value} {Q : Value → Shared → Prop} (key : Nat → List K) (adr : Nat → Addr) (hh : A.handled = none) (hl : s.heap.IsList l items) (hv : ∀ (i : Nat) (v : Value), items[i]? = some v → v = Value.ref (adr i)) (hN : ∀ j, j < items.size → IsN knd s.heap (key j) (adr j))
   (hinj : ∀ i j, i < items.size → j < items.size → key i = key j → i = j) (hb : items.size ≤ 17) (hu : A.units + 40 < cLine)
   (h : ∀ (h' : Heap) (tk : Nat), SetN knd (fun b => b < s.heap.objs.size) h' s.heap.objs.size (ksAt key items.size) → (∀ b o, s.heap.get? b = some o → h'.get? b = some o) → Q (.ref s.heap.objs.size) { s with heap := h', toks := tk }) :
   wpAny (model prog w) A (call (.type "set") [.ref l]) Q E s := by
 obtain ⟨_, _, hmro⟩ := F.called_set.mro
 have m1 := F.called_set.made; have m2 := F.called_set.sub; have m3 := F.called_set.notType; have m4 := F.called_set.canCreate; have m5 := F.typeCall_set_1 (.ref l)
 refine wpAny_call (codeAny_of_tree (show wpAny _ _ (callAny (.type "set") _) _ _ _ from wpAny_pure ⟨Code.quiet_builtin _ (by decide +kernel), codeAny_builtin F.entry_type_call ?_⟩))
 rw [Around.under_plain (weight_type_call_type "set" [.ref l] []) rfl]
 repeat any_goals first | assumption | wp_step
 refine codeAny_mono (code_set_new_1 (.ref l) (E := E) (Q₁ := fun v s₁ => v = .ref s.heap.objs.size ∧ ∃ led, s₁ = { s with heap := s.heap.push (nS led) }) fun led => ⟨rfl, led, rfl⟩) fun r s₁ hr => ?_
 rcases r with e | fl
 · exact hr
 cases fl with
 | ret v =>
   obtain ⟨e1, led, e2⟩ := hr
   subst e1 e2
   have hT : Shared.TypeIs { s with heap := s.heap.push (nS led) } (.ref s.heap.objs.size) "set" := ⟨_, Heap.get?_push_size _ rfl, rfl⟩
   have m6 := F.called_set.init.lookup; have m7 := F.called_set.init.bind (.ref s.heap.objs.size)
   repeat any_goals first | assumption | wp_step
   refine codeAny_mono (codeAny_call_builtin (R := wants (fun r s₂ => r = .none ∧ Q (.ref s.heap.objs.size) s₂) E) F.called_set.init.plain F.entry_set_init (check_set_init_1 hT ?_)) fun r₂ s₂ hr₂ => ?_
   · refine init_n (knd := knd) led key adr ?_ hl hv hN hinj hb ?_ fun h' tk hS hk => ?_
     · simp [hh]
     · simp only [Around.in1]; lia
     · exact ⟨rfl, h h' tk hS hk⟩
   · rcases r₂ with e | fl₂
     · exact hr₂
     cases fl₂ with
     | ret _ =>
       obtain ⟨e3, q⟩ := hr₂
       subst e3
       repeat any_goals first | assumption | wp_step
     | _ => exact hr₂.elim
 | _ => exact hr.elim
end
end St
end L2
namespace L2
open PySem PySem.Spec PyProof.Rows
theorem bt_set : bootBuiltins "set" = some (.type "set") := by decide +kernel
def SetO (p : Addr) (n : Nat) : HO := .ext fun h => ∃ o es ep t, h.get? p = some o ∧ o.ExactSet ∧ o.data = .set es ep t ∧ SetTable.fits t es.size = true ∧ es.size = n
theorem isN_of {P : Program} {w : World} {H : Hp} {h : Heap} {a : Addr} {q : Rat} (ok : HOk P w H h) (e : H a = some (nT q)) : St.IsN (mixKind P w) h (kQ q) a := by
 obtain ⟨_, its, rv, o, ho, hc, n, hd⟩ := ok a _ e
 refine ⟨o, its.toArray, n, ho, hc, hd, items_are (ks := kQ q) rv, fun v hv => ?_⟩
 have hv' : v ∈ its := by simpa using hv
 cases rv with
 | cons r1 rr =>
   cases rr with
   | cons r2 rr =>
     cases rr
     obtain ⟨t1, rfl⟩ := r1
     obtain ⟨t2, rfl⟩ := r2
     rcases List.mem_cons.mp hv' with z | z
     · exact ⟨_, _, z⟩
     · exact ⟨_, _, List.mem_singleton.mp z⟩
section
variable {X : Cx}
inductive rSetN (K : PySem.W.Frag) (xs : List V) (H : Hp) (Q : VK) : Prop
 | mk (l : Addr) (ys : List V) (qs : List Rat) (h1 : xs = [.ref l]) (h2 : SqL K H l ys) (h3 : NumsT H ys qs) (h4 : qs.Nodup) (h5 : qs.length ≤ 17) (h6 : ∀ p, H p = none → Q (.ref p) (upd H p (SetO p qs.length))) : rSetN K xs H Q
theorem call_setR (hc : X.calm = true) (hu : X.A.units + 64 < cLine) : CallR X (.type "set") (rSetN X.K) := by
 intro pins s σ H xs us Q I r h
 obtain ⟨l, ys, qs, rfl, hq, hn, hnd, h17, q⟩ := h
 obtain ⟨u, rfl, rfl⟩ := vals1 r
 obtain ⟨its, rv, p, hz⟩ := I.list hq
 have hl := rv.length
 have hyl := hn.length
 have hsz : its.toArray.size = qs.length := by rw [List.size_toArray]; lia
 let adr : Nat → Addr := fun j => match ys[j]? with | some (.ref r) => r | _ => 0
 have had : ∀ j, j < qs.length → ∃ r, ys[j]? = some (.ref r) ∧ adr j = r ∧ H r = some (nT (qs.getD j 0)) := fun j hj => by
   have g : qs[j]? = some (qs.getD j 0) := by rw [List.getD_eq_getElem?_getD, List.getElem?_eq_getElem hj]; rfl
   obtain ⟨y, hy, r, rfl, hr⟩ := Paired.get' hn g
   exact ⟨r, hy, by show (match ys[j]? with | some (.ref r) => r | _ => 0) = r; rw [hy], hr⟩
 refine St.call_setN (knd := mixKind X.prog X.w) (fun j => kQ (qs.getD j 0)) adr (I.ok.hd hc) p.isList (fun i v hv => ?_) (fun j hj => ?_) (fun i j hi hj e => ?_) (by lia) (by lia) fun h' tk hS hk => ?_
 · have hv' : its[i]? = some v := by simpa using hv
   have hi : i < its.length := (List.getElem?_eq_some_iff.mp hv').1
   obtain ⟨r, hy, hr, _⟩ := had i (by lia)
   obtain ⟨u, hu1, ru⟩ := rv.get hy
   rw [hv'] at hu1
   cases hu1
   rw [hr]; exact ru
 · rw [hsz] at hj
   obtain ⟨r, _, hr, hH⟩ := had j hj
   rw [hr]
   exact isN_of I.hok hH
 · rw [hsz] at hi hj
   have e' := kQ_inj e
   have g1 : qs[i]? = some (qs.getD i 0) := by rw [List.getD_eq_getElem?_getD, List.getElem?_eq_getElem hi]; rfl
   have g2 : qs[j]? = some (qs.getD j 0) := by rw [List.getD_eq_getElem?_getD, List.getElem?_eq_getElem hj]; rfl
   exact (List.getElem?_inj hi hnd).mp (by rw [g1, g2, e'])
 · obtain ⟨o, es, ep, t, h1, h2, h3, h4, h5, h6, h7, _⟩ := hS
   rw [St.ksAt_length, hsz] at h7
   have hfit : SetTable.fits t es.size = true := by
     unfold SetTable.fits SetTable.fill
     rw [h5, h6]
     rcases h4 with z | z <;> simp <;> lia
   have new : ObjOk X.prog X.w (upd H s.heap.objs.size (SetO s.heap.objs.size qs.length)) h' s.heap.objs.size (SetO s.heap.objs.size qs.length) := by
     refine ⟨⟨o, es, ep, t, h1, h2, h3, hfit, h7⟩, ⟨o, h1⟩, fun g1 g2 hg hk => ?_⟩
     obtain ⟨o, es, ep, t, k1, k2, k3, k4, k5⟩ := hg
     exact ⟨o, es, ep, t, hk o k1, k2, k3, k4, k5⟩
   exact ⟨.ref s.heap.objs.size, _, I.laid (t' := tk) hk (Nat.le_refl _) new, rfl, q _ (I.hok.fresh (Nat.le_refl _))⟩
theorem setR (K : PySem.W.Frag) (hc : X.calm = true) (hu : X.A.units + 64 < cLine) (e : X.K = K := by rfl) : CallR X (.type "set") (rSetN K) := by subst e; exact call_setR hc hu
theorem call_lenS : CallR X (.builtin "len") (fun xs H Q => ∃ (p : Addr) (n : Nat), xs = [.ref p] ∧ H p = some (SetO p n) ∧ n ≤ 1000 ∧ Q (.int (n : Int)) H) := by
 intro pins s σ H xs us Q I r h
 obtain ⟨p, n, rfl, hp, hn, q⟩ := h
 obtain ⟨u, rfl, rfl⟩ := vals1 r
 obtain ⟨⟨o, es, ep, t, h1, h2, h3, h4, h5⟩, _⟩ := I.hok p _ hp
 subst h5
 exact call_len_set h1 h2 h3 h4 (by lia) ⟨.int _, H, I.tok _, ⟨_, rfl⟩, q⟩
end
end L2
namespace L2
open PySem PySem.Spec PyProof.Rows
section
open PySem.W
variable {X : Cx} (K : PySem.W.Frag)
end
end L2
namespace L2
open PySem PySem.Spec PyProof.Rows
structure CompOkC (X : Cx) (N : List Str) (nt : Nat) (js : List Nat) (scope : Scope) (x : Str) : Prop where
 kind : scope.kind = .function
 split : ∃ pre post, scope.names = pre ++ (x, .cell) :: post ∧ (∀ y ∈ pre, y.2 ≠ .cell) ∧ ∀ y ∈ post, y.2 ≠ .cell
 only : ∀ y ∈ scope.names, y.2 = .cell → y.1 = x
 lx : scope.names.lookup x = some .cell
 names : ∀ y ∈ scope.names, y.2 = .local → scope.names.lookup y.1 = some .local
 free : ∀ y ∈ scope.names, y.2 = .free → X.env.kindOf y.1 = some .cell ∨ X.env.kindOf y.1 = some .free
 len : N.length = nt + js.length
 outer : ∀ j i, js[j]? = some i → ∃ x, N[nt + j]? = some x ∧ X.N[i]? = some x ∧ scope.names.lookup x = some .free
section
variable {X : Cx} {N : List Str} {nt : Nat} {js : List Nat} {scope : Scope} {cl : List (Str × Addr)} {x : Str} {c : Addr}
end
section
variable {X : Cx} {N : List Str} {nt : Nat} {js : List Nat} {scope : Scope} {elt iter tg : Expr} {ifs : List Expr} {pos : Pos} {g : TG} {tc : TT} {te : TE} {wi : TI} {xn : Str}
end
end L2
namespace L2
open PySem PySem.Spec PyProof.Rows
@[reducible] def Cl (u : PySem.W.Frag → TS) (K : PySem.W.Frag) : TS := u K
theorem pss_consC {X : Cx} {st : Stmt} {rest : List Stmt} {t v : TS} {K : PySem.W.Frag} {u : PySem.W.Frag → TS} (h1 : PS X st t) (h2 : PSs X rest v) (e : v = u K) : PSs X (st :: rest) (tSeq t (Cl u K)) := by
 subst e; exact pss_cons h1 h2
section
variable {X : Cx} {o e : Expr} {es : List Expr} {to : TE} {t : TA} {name : Str} {apos cpos : Pos} {T id : String} {r : V → List V → Hp → VK → Prop}
theorem pe_bmK (K : PySem.W.Frag) (pa : PlainAttrs T) (slot : Slot T name id) (hty : typeOf (.builtin id) = pure (.type "method_descriptor")) (hm : MtR X id r) (ho : PE X o to) (ha : PA X (e :: es) t)
   (hbase : attributeBase o name X.env (eval o X.env) = eval o X.env := by rfl)
   (hfew : ((backTo cpos (starEach (e :: es) X.env)).all (fun x => !x.1) && (backToKw cpos (keywordEach [] X.env)).all (fun x => x.1.isSome)
     && decide ((e :: es).length + ([] : List Keyword).length + (if ([] : List Keyword).isEmpty then 0 else 1) < 30)) = true := by rfl)
   (hline : (apos.endLine == cpos.line) = true := by rfl) (hs : starEach (e :: es) X.env = (false, eval e X.env) :: starEach es X.env := by rfl) (hplain : (backTo cpos (starEach es X.env)).any (·.1) = false := by rfl) (eK : X.K = K := by rfl) :
   PE X (.Call (.Attribute o name apos) (e :: es) [] cpos) (tBM K T r to t) := pe_bm pa slot hty hm ho ha hbase hfew hline hs hplain eK
end
theorem iteTc {c : Bool} {A B : Prop} (e : c = true) (h : A) : if c = true then A else B := by
 rw [if_pos e]; exact h
theorem iteFc {c : Bool} {A B : Prop} (e : c = false) (h : B) : if c = true then A else B := by
 rw [if_neg (by rw [e]; decide)]; exact h
theorem len_succ {α : Type} {l : List α} {n : Nat} (h : l.length = n + 1) : ∃ a r, l = a :: r ∧ r.length = n := by
 cases l with
 | nil => cases h
 | cons a r => exact ⟨a, r, rfl, Nat.succ.inj h⟩
theorem Fun.binds1 {K : PySem.W.Frag} {x qual : Str} {st : Stmt} {f : Addr} {fd : FuncData} (p1 : Str) (F : Fun K x qual st f fd)
   (h : ∀ (kV doc pm : Value) (an : Option Addr) (cdv ct a1 : Value), bindArgs (PySem.W.fnOf x qual (defArgs st) (defBody st) (defScope st) .none kV doc pm an cdv ct) ⟨[a1], []⟩ = pure [(p1, a1)]) : Binds K fd [p1] [] :=
 F.binds fun kV doc pm an cdv ct us l0 => by
   obtain ⟨a1, r1, rfl, l1⟩ := len_succ l0
   cases List.length_eq_zero_iff.mp l1
   exact h kV doc pm an cdv ct a1
theorem Fun.binds2 {K : PySem.W.Frag} {x qual : Str} {st : Stmt} {f : Addr} {fd : FuncData} (p1 p2 : Str) (F : Fun K x qual st f fd)
   (h : ∀ (kV doc pm : Value) (an : Option Addr) (cdv ct a1 a2 : Value), bindArgs (PySem.W.fnOf x qual (defArgs st) (defBody st) (defScope st) .none kV doc pm an cdv ct) ⟨[a1, a2], []⟩ = pure [(p1, a1), (p2, a2)]) : Binds K fd [p1, p2] [] :=
 F.binds fun kV doc pm an cdv ct us l0 => by
   obtain ⟨a1, r1, rfl, l1⟩ := len_succ l0
   obtain ⟨a2, r2, rfl, l2⟩ := len_succ l1
   cases List.length_eq_zero_iff.mp l2
   exact h kV doc pm an cdv ct a1 a2
theorem Fun.binds3 {K : PySem.W.Frag} {x qual : Str} {st : Stmt} {f : Addr} {fd : FuncData} (p1 p2 p3 : Str) (F : Fun K x qual st f fd)
   (h : ∀ (kV doc pm : Value) (an : Option Addr) (cdv ct a1 a2 a3 : Value), bindArgs (PySem.W.fnOf x qual (defArgs st) (defBody st) (defScope st) .none kV doc pm an cdv ct) ⟨[a1, a2, a3], []⟩ = pure [(p1, a1), (p2, a2), (p3, a3)]) : Binds K fd [p1, p2, p3] [] :=
 F.binds fun kV doc pm an cdv ct us l0 => by
   obtain ⟨a1, r1, rfl, l1⟩ := len_succ l0
   obtain ⟨a2, r2, rfl, l2⟩ := len_succ l1
   obtain ⟨a3, r3, rfl, l3⟩ := len_succ l2
   cases List.length_eq_zero_iff.mp l3
   exact h kV doc pm an cdv ct a1 a2 a3
@[reducible] def L1 {α1 : Type} {δ : Type} (x1 : α1) (u : α1 → δ) : δ := u x1
@[reducible] def L2 {α1 α2 : Type} {δ : Type} (x1 : α1) (x2 : α2) (u : α1 → α2 → δ) : δ := u x1 x2
@[reducible] def L3 {α1 α2 α3 : Type} {δ : Type} (x1 : α1) (x2 : α2) (x3 : α3) (u : α1 → α2 → α3 → δ) : δ := u x1 x2 x3
@[reducible] def L4 {α1 α2 α3 α4 : Type} {δ : Type} (x1 : α1) (x2 : α2) (x3 : α3) (x4 : α4) (u : α1 → α2 → α3 → α4 → δ) : δ := u x1 x2 x3 x4
@[reducible] def L5 {α1 α2 α3 α4 α5 : Type} {δ : Type} (x1 : α1) (x2 : α2) (x3 : α3) (x4 : α4) (x5 : α5) (u : α1 → α2 → α3 → α4 → α5 → δ) : δ := u x1 x2 x3 x4 x5
@[reducible] def L6 {α1 α2 α3 α4 α5 α6 : Type} {δ : Type} (x1 : α1) (x2 : α2) (x3 : α3) (x4 : α4) (x5 : α5) (x6 : α6) (u : α1 → α2 → α3 → α4 → α5 → α6 → δ) : δ := u x1 x2 x3 x4 x5 x6
@[reducible] def L7 {α1 α2 α3 α4 α5 α6 α7 : Type} {δ : Type} (x1 : α1) (x2 : α2) (x3 : α3) (x4 : α4) (x5 : α5) (x6 : α6) (x7 : α7) (u : α1 → α2 → α3 → α4 → α5 → α6 → α7 → δ) : δ := u x1 x2 x3 x4 x5 x6 x7
@[reducible] def L8 {α1 α2 α3 α4 α5 α6 α7 α8 : Type} {δ : Type} (x1 : α1) (x2 : α2) (x3 : α3) (x4 : α4) (x5 : α5) (x6 : α6) (x7 : α7) (x8 : α8) (u : α1 → α2 → α3 → α4 → α5 → α6 → α7 → α8 → δ) : δ := u x1 x2 x3 x4 x5 x6 x7 x8
@[reducible] def L9 {α1 α2 α3 α4 α5 α6 α7 α8 α9 : Type} {δ : Type} (x1 : α1) (x2 : α2) (x3 : α3) (x4 : α4) (x5 : α5) (x6 : α6) (x7 : α7) (x8 : α8) (x9 : α9) (u : α1 → α2 → α3 → α4 → α5 → α6 → α7 → α8 → α9 → δ) : δ := u x1 x2 x3 x4 x5 x6 x7 x8 x9
@[reducible] def L10 {α1 α2 α3 α4 α5 α6 α7 α8 α9 α10 : Type} {δ : Type} (x1 : α1) (x2 : α2) (x3 : α3) (x4 : α4) (x5 : α5) (x6 : α6) (x7 : α7) (x8 : α8) (x9 : α9) (x10 : α10) (u : α1 → α2 → α3 → α4 → α5 → α6 → α7 → α8 → α9 → α10 → δ) : δ := u x1 x2 x3 x4 x5 x6 x7 x8 x9 x10
@[reducible] def L11 {α1 α2 α3 α4 α5 α6 α7 α8 α9 α10 α11 : Type} {δ : Type} (x1 : α1) (x2 : α2) (x3 : α3) (x4 : α4) (x5 : α5) (x6 : α6) (x7 : α7) (x8 : α8) (x9 : α9) (x10 : α10) (x11 : α11) (u : α1 → α2 → α3 → α4 → α5 → α6 → α7 → α8 → α9 → α10 → α11 → δ) : δ := u x1 x2 x3 x4 x5 x6 x7 x8 x9 x10 x11
@[reducible] def L12 {α1 α2 α3 α4 α5 α6 α7 α8 α9 α10 α11 α12 : Type} {δ : Type} (x1 : α1) (x2 : α2) (x3 : α3) (x4 : α4) (x5 : α5) (x6 : α6) (x7 : α7) (x8 : α8) (x9 : α9) (x10 : α10) (x11 : α11) (x12 : α12) (u : α1 → α2 → α3 → α4 → α5 → α6 → α7 → α8 → α9 → α10 → α11 → α12 → δ) : δ := u x1 x2 x3 x4 x5 x6 x7 x8 x9 x10 x11 x12
@[reducible] def L13 {α1 α2 α3 α4 α5 α6 α7 α8 α9 α10 α11 α12 α13 : Type} {δ : Type} (x1 : α1) (x2 : α2) (x3 : α3) (x4 : α4) (x5 : α5) (x6 : α6) (x7 : α7) (x8 : α8) (x9 : α9) (x10 : α10) (x11 : α11) (x12 : α12) (x13 : α13) (u : α1 → α2 → α3 → α4 → α5 → α6 → α7 → α8 → α9 → α10 → α11 → α12 → α13 → δ) : δ := u x1 x2 x3 x4 x5 x6 x7 x8 x9 x10 x11 x12 x13
@[reducible] def L14 {α1 α2 α3 α4 α5 α6 α7 α8 α9 α10 α11 α12 α13 α14 : Type} {δ : Type} (x1 : α1) (x2 : α2) (x3 : α3) (x4 : α4) (x5 : α5) (x6 : α6) (x7 : α7) (x8 : α8) (x9 : α9) (x10 : α10) (x11 : α11) (x12 : α12) (x13 : α13) (x14 : α14) (u : α1 → α2 → α3 → α4 → α5 → α6 → α7 → α8 → α9 → α10 → α11 → α12 → α13 → α14 → δ) : δ := u x1 x2 x3 x4 x5 x6 x7 x8 x9 x10 x11 x12 x13 x14
@[reducible] def L15 {α1 α2 α3 α4 α5 α6 α7 α8 α9 α10 α11 α12 α13 α14 α15 : Type} {δ : Type} (x1 : α1) (x2 : α2) (x3 : α3) (x4 : α4) (x5 : α5) (x6 : α6) (x7 : α7) (x8 : α8) (x9 : α9) (x10 : α10) (x11 : α11) (x12 : α12) (x13 : α13) (x14 : α14) (x15 : α15) (u : α1 → α2 → α3 → α4 → α5 → α6 → α7 → α8 → α9 → α10 → α11 → α12 → α13 → α14 → α15 → δ) : δ := u x1 x2 x3 x4 x5 x6 x7 x8 x9 x10 x11 x12 x13 x14 x15
@[reducible] def L16 {α1 α2 α3 α4 α5 α6 α7 α8 α9 α10 α11 α12 α13 α14 α15 α16 : Type} {δ : Type} (x1 : α1) (x2 : α2) (x3 : α3) (x4 : α4) (x5 : α5) (x6 : α6) (x7 : α7) (x8 : α8) (x9 : α9) (x10 : α10) (x11 : α11) (x12 : α12) (x13 : α13) (x14 : α14) (x15 : α15) (x16 : α16) (u : α1 → α2 → α3 → α4 → α5 → α6 → α7 → α8 → α9 → α10 → α11 → α12 → α13 → α14 → α15 → α16 → δ) : δ := u x1 x2 x3 x4 x5 x6 x7 x8 x9 x10 x11 x12 x13 x14 x15 x16
@[reducible] def L17 {α1 α2 α3 α4 α5 α6 α7 α8 α9 α10 α11 α12 α13 α14 α15 α16 α17 : Type} {δ : Type} (x1 : α1) (x2 : α2) (x3 : α3) (x4 : α4) (x5 : α5) (x6 : α6) (x7 : α7) (x8 : α8) (x9 : α9) (x10 : α10) (x11 : α11) (x12 : α12) (x13 : α13) (x14 : α14) (x15 : α15) (x16 : α16) (x17 : α17) (u : α1 → α2 → α3 → α4 → α5 → α6 → α7 → α8 → α9 → α10 → α11 → α12 → α13 → α14 → α15 → α16 → α17 → δ) : δ := u x1 x2 x3 x4 x5 x6 x7 x8 x9 x10 x11 x12 x13 x14 x15 x16 x17
@[reducible] def L18 {α1 α2 α3 α4 α5 α6 α7 α8 α9 α10 α11 α12 α13 α14 α15 α16 α17 α18 : Type} {δ : Type} (x1 : α1) (x2 : α2) (x3 : α3) (x4 : α4) (x5 : α5) (x6 : α6) (x7 : α7) (x8 : α8) (x9 : α9) (x10 : α10) (x11 : α11) (x12 : α12) (x13 : α13) (x14 : α14) (x15 : α15) (x16 : α16) (x17 : α17) (x18 : α18) (u : α1 → α2 → α3 → α4 → α5 → α6 → α7 → α8 → α9 → α10 → α11 → α12 → α13 → α14 → α15 → α16 → α17 → α18 → δ) : δ := u x1 x2 x3 x4 x5 x6 x7 x8 x9 x10 x11 x12 x13 x14 x15 x16 x17 x18
@[reducible] def L19 {α1 α2 α3 α4 α5 α6 α7 α8 α9 α10 α11 α12 α13 α14 α15 α16 α17 α18 α19 : Type} {δ : Type} (x1 : α1) (x2 : α2) (x3 : α3) (x4 : α4) (x5 : α5) (x6 : α6) (x7 : α7) (x8 : α8) (x9 : α9) (x10 : α10) (x11 : α11) (x12 : α12) (x13 : α13) (x14 : α14) (x15 : α15) (x16 : α16) (x17 : α17) (x18 : α18) (x19 : α19) (u : α1 → α2 → α3 → α4 → α5 → α6 → α7 → α8 → α9 → α10 → α11 → α12 → α13 → α14 → α15 → α16 → α17 → α18 → α19 → δ) : δ := u x1 x2 x3 x4 x5 x6 x7 x8 x9 x10 x11 x12 x13 x14 x15 x16 x17 x18 x19
@[reducible] def L20 {α1 α2 α3 α4 α5 α6 α7 α8 α9 α10 α11 α12 α13 α14 α15 α16 α17 α18 α19 α20 : Type} {δ : Type} (x1 : α1) (x2 : α2) (x3 : α3) (x4 : α4) (x5 : α5) (x6 : α6) (x7 : α7) (x8 : α8) (x9 : α9) (x10 : α10) (x11 : α11) (x12 : α12) (x13 : α13) (x14 : α14) (x15 : α15) (x16 : α16) (x17 : α17) (x18 : α18) (x19 : α19) (x20 : α20) (u : α1 → α2 → α3 → α4 → α5 → α6 → α7 → α8 → α9 → α10 → α11 → α12 → α13 → α14 → α15 → α16 → α17 → α18 → α19 → α20 → δ) : δ := u x1 x2 x3 x4 x5 x6 x7 x8 x9 x10 x11 x12 x13 x14 x15 x16 x17 x18 x19 x20
@[reducible] def L21 {α1 α2 α3 α4 α5 α6 α7 α8 α9 α10 α11 α12 α13 α14 α15 α16 α17 α18 α19 α20 α21 : Type} {δ : Type} (x1 : α1) (x2 : α2) (x3 : α3) (x4 : α4) (x5 : α5) (x6 : α6) (x7 : α7) (x8 : α8) (x9 : α9) (x10 : α10) (x11 : α11) (x12 : α12) (x13 : α13) (x14 : α14) (x15 : α15) (x16 : α16) (x17 : α17) (x18 : α18) (x19 : α19) (x20 : α20) (x21 : α21) (u : α1 → α2 → α3 → α4 → α5 → α6 → α7 → α8 → α9 → α10 → α11 → α12 → α13 → α14 → α15 → α16 → α17 → α18 → α19 → α20 → α21 → δ) : δ := u x1 x2 x3 x4 x5 x6 x7 x8 x9 x10 x11 x12 x13 x14 x15 x16 x17 x18 x19 x20 x21
@[reducible] def L22 {α1 α2 α3 α4 α5 α6 α7 α8 α9 α10 α11 α12 α13 α14 α15 α16 α17 α18 α19 α20 α21 α22 : Type} {δ : Type} (x1 : α1) (x2 : α2) (x3 : α3) (x4 : α4) (x5 : α5) (x6 : α6) (x7 : α7) (x8 : α8) (x9 : α9) (x10 : α10) (x11 : α11) (x12 : α12) (x13 : α13) (x14 : α14) (x15 : α15) (x16 : α16) (x17 : α17) (x18 : α18) (x19 : α19) (x20 : α20) (x21 : α21) (x22 : α22) (u : α1 → α2 → α3 → α4 → α5 → α6 → α7 → α8 → α9 → α10 → α11 → α12 → α13 → α14 → α15 → α16 → α17 → α18 → α19 → α20 → α21 → α22 → δ) : δ := u x1 x2 x3 x4 x5 x6 x7 x8 x9 x10 x11 x12 x13 x14 x15 x16 x17 x18 x19 x20 x21 x22
@[reducible] def L23 {α1 α2 α3 α4 α5 α6 α7 α8 α9 α10 α11 α12 α13 α14 α15 α16 α17 α18 α19 α20 α21 α22 α23 : Type} {δ : Type} (x1 : α1) (x2 : α2) (x3 : α3) (x4 : α4) (x5 : α5) (x6 : α6) (x7 : α7) (x8 : α8) (x9 : α9) (x10 : α10) (x11 : α11) (x12 : α12) (x13 : α13) (x14 : α14) (x15 : α15) (x16 : α16) (x17 : α17) (x18 : α18) (x19 : α19) (x20 : α20) (x21 : α21) (x22 : α22) (x23 : α23) (u : α1 → α2 → α3 → α4 → α5 → α6 → α7 → α8 → α9 → α10 → α11 → α12 → α13 → α14 → α15 → α16 → α17 → α18 → α19 → α20 → α21 → α22 → α23 → δ) : δ := u x1 x2 x3 x4 x5 x6 x7 x8 x9 x10 x11 x12 x13 x14 x15 x16 x17 x18 x19 x20 x21 x22 x23
@[reducible] def L24 {α1 α2 α3 α4 α5 α6 α7 α8 α9 α10 α11 α12 α13 α14 α15 α16 α17 α18 α19 α20 α21 α22 α23 α24 : Type} {δ : Type} (x1 : α1) (x2 : α2) (x3 : α3) (x4 : α4) (x5 : α5) (x6 : α6) (x7 : α7) (x8 : α8) (x9 : α9) (x10 : α10) (x11 : α11) (x12 : α12) (x13 : α13) (x14 : α14) (x15 : α15) (x16 : α16) (x17 : α17) (x18 : α18) (x19 : α19) (x20 : α20) (x21 : α21) (x22 : α22) (x23 : α23) (x24 : α24) (u : α1 → α2 → α3 → α4 → α5 → α6 → α7 → α8 → α9 → α10 → α11 → α12 → α13 → α14 → α15 → α16 → α17 → α18 → α19 → α20 → α21 → α22 → α23 → α24 → δ) : δ := u x1 x2 x3 x4 x5 x6 x7 x8 x9 x10 x11 x12 x13 x14 x15 x16 x17 x18 x19 x20 x21 x22 x23 x24
theorem ps_ifC {X : Cx} {c : Expr} {a b : List Stmt} {pos : Pos} {tc : TT} {v1 v2 : TS} {K : PySem.W.Frag} {u1 u2 : PySem.W.Frag → TS} (hc : PT X c tc) (ha : PSs X a v1) (hb : PSs X b v2) (e1 : v1 = u1 K) (e2 : v2 = u2 K) : PS X (.If c a b pos) (tIfS tc (Cl u1 K) (Cl u2 K)) := by
 subst e1; subst e2; exact ps_if hc ha hb
theorem ps_forC {X : Cx} {tg iter : Expr} {body : List Stmt} {wi : TI} {g : TG} {v : TS} {pos : Pos} {K : PySem.W.Frag} {u : PySem.W.Frag → TS} (hp : PassesOwn (model X.prog X.w) X.A X.env X.xe) (hc : X.calm = true) (hi : PI X tg iter wi) (hg : PG X tg g) (hb : PSs X body v) (e : v = u K)
   (hs : ∀ x, foldedSetIterable iter X.env x = pure x := by intro _; rfl) : PS X (.For tg iter body [] pos) (tFor wi g (Cl u K)) := by
 subst e; exact ps_for hp hc hi hg hb hs
theorem nat_diff {a b c d : Nat} (h1 : a = c) (h2 : b = d) : ((a : Int) - (b : Int)).toNat = c - d := by rw [h1, h2]; exact Int.toNat_sub c d
theorem nat_pred {a b : Nat} (h : a = b) : ((a : Int) - 1).toNat = b - 1 := nat_diff (b := 1) h rfl
theorem nat_sum1' {a b c d : Nat} (h1 : a = c) (h2 : b = d) (_h : 1 ≤ d) : ((a : Int) + (b : Int) - 1).toNat = c + d - 1 := by
 rw [h1, h2, ← Int.natCast_add]
 exact nat_pred rfl
theorem nat_sum1 {a b : Nat} (h : 1 ≤ b) : ((a : Int) + (b : Int) - 1).toNat = a + b - 1 := nat_sum1' rfl rfl h
theorem nat_sumle {a b m : Nat} (h1 : a ≤ m) (h2 : b ≤ m) : ((a : Int) + (b : Int) - 1).toNat ≤ 2 * m := by
 rw [← Int.natCast_add, nat_pred rfl, Nat.two_mul]
 exact Nat.le_trans (Nat.sub_le _ _) (Nat.add_le_add h1 h2)
theorem nat_back {a b i : Nat} (h : a = b) (hi : i < b) : (a : Int) - 1 - (i : Int) = ((b - 1 - i : Nat) : Int) := by
 rw [h, Int.ofNat_sub (show i ≤ b - 1 from Nat.le_pred_of_lt hi), Int.ofNat_sub (show 1 ≤ b from Nat.lt_of_le_of_lt (Nat.zero_le i) hi)]
 rfl
theorem nat_lt {b i : Nat} (hi : i < b) : b - 1 - i < b := Nat.lt_of_le_of_lt (Nat.sub_le _ _) (Nat.sub_lt (Nat.lt_of_le_of_lt (Nat.zero_le i) hi) Nat.one_pos)
theorem nat_all {a b : Nat} (h : a = b) : ((a : Int) - 1 - -1).toNat = b := by
 rw [h, Int.sub_neg, Int.sub_add_cancel]
 exact Int.toNat_natCast b
theorem nat_ij {i j a b n : Nat} (hi : i < a) (hj : j < b) (h : n = a + b - 1) : i + j < n := by
 rw [h]
 refine Nat.lt_sub_of_add_lt ?_
 rw [Nat.add_right_comm]
 exact Nat.add_lt_add_of_le_of_lt hi hj
end L2
namespace L2
open PySem PySem.Spec PyProof.Rows
def LamO (f : Addr) (fd : FuncData) : HO := .ext fun h => h.get? f = some { cls := .type "function", data := .func fd }
def CelO (c : Addr) (o : Obj) : HO := .ext fun h => h.get? c = some o
def CodO (c : Addr) (q : Str) : HO := .ext fun h => h.CodeRec (.ref c) q
def offC (cs : List Addr) (H : Hp) : Hp := fun b => if b ∈ cs then none else H b
def onC (cs : List Addr) (H0 H : Hp) : Hp := fun b => if b ∈ cs then H0 b else H b
theorem off_in {cs : List Addr} {H : Hp} {b : Addr} (h : b ∈ cs) : offC cs H b = none := if_pos h
theorem off_out {cs : List Addr} {H : Hp} {b : Addr} (h : b ∉ cs) : offC cs H b = H b := if_neg h
theorem on_in {cs : List Addr} {H0 H : Hp} {b : Addr} (h : b ∈ cs) : onC cs H0 H b = H0 b := if_pos h
theorem on_out {cs : List Addr} {H0 H : Hp} {b : Addr} (h : b ∉ cs) : onC cs H0 H b = H b := if_neg h
theorem off_none {cs : List Addr} {H : Hp} {b : Addr} (h : H b = none) : offC cs H b = none := by
 unfold offC; split
 · rfl
 · exact h
section
variable {P : Program} {w : World} {fs cs : List Addr} {H H' : Hp} {h h' : Heap}
theorem Un.onC (u : Un fs [] (offC cs H) H' h h') (hc : ∀ c ∈ cs, ∃ o, H c = some (CelO c o)) : Un fs [] H (onC cs H H') h h' := by
 have no : ∀ {b : Addr} {o : HO}, H b = some o → (∀ c ob, o ≠ CelO c ob) → b ∉ cs := fun {b o} e hne hb => by
   obtain ⟨ob, q⟩ := hc b hb
   rw [e] at q
   exact hne b ob (Option.some.inj q)
 refine ⟨fun b o e n hb hx => u.keep b o e (off_none n) hb hx, fun b o e n hb hx => u.slot b o e (off_none n) hb hx, fun b o e n hx => ?_, u.there, fun b xs e => ?_, fun b o v e => ?_, fun b ps e => ?_⟩
 · have hb : b ∉ cs := fun z => by obtain ⟨ob, q⟩ := hc b z; rw [n] at q; cases q
   rw [on_out hb]
   exact u.free b o e (off_none n) hx
 · have hb := no e fun c ob z => by cases z
   rw [on_out hb]
   exact u.tups b xs (by rw [off_out hb]; exact e)
 · have hb := no e fun c ob z => by cases z
   rw [on_out hb]
   exact u.frzs b o v (by rw [off_out hb]; exact e)
 · have hb := no e fun c ob z => by cases z
   rw [on_out hb]
   exact u.tbls b ps (by rw [off_out hb]; exact e)
theorem HOk.onC (ok : HOk P w H h) (u : Un fs [] (offC cs H) H' h h') (ok' : HOk P w H' h') (hc : ∀ c ∈ cs, ∃ o, H c = some (CelO c o)) (hn : ∀ c ∈ cs, H' c = none) (hf : ∀ c ∈ cs, c ∉ fs) : HOk P w (onC cs H H') h' := fun b o e => by
 by_cases hb : b ∈ cs
 · rw [on_in hb] at e
   obtain ⟨ob, q⟩ := hc b hb
   rw [q] at e
   cases e
   obtain ⟨p, _, st⟩ := ok b _ q
   have p' : h.get? b = some ob := p
   have k := u.keep b ob p' (off_in hb) (hf b hb) (by simp)
   exact ⟨k, ⟨ob, k⟩, st⟩
 · rw [on_out hb] at e
   have nc : ∀ {c : Addr} {v : HO}, H' c = some v → c ∉ cs := fun {c v} q z => by rw [hn c z] at q; cases q
   exact (ok' b o e).stay (fun _ _ _ q => q) (fun c q => by rw [on_out (nc q)]; exact q) fun c xs q => by rw [on_out (nc q)]; exact q
theorem HOk.offC (ok : HOk P w H h) (hc : ∀ c ∈ cs, ∃ o, H c = some (CelO c o)) : HOk P w (offC cs H) h := fun b o e => by
 by_cases hb : b ∈ cs
 · rw [off_in hb] at e; cases e
 · rw [off_out hb] at e
   have no : ∀ {c : Addr} {v : HO}, H c = some v → (∀ d ob, v ≠ CelO d ob) → c ∉ cs := fun {c v} q hne z => by
     obtain ⟨ob, q'⟩ := hc c z
     rw [q] at q'
     exact hne c ob (Option.some.inj q')
   exact (ok b o e).stay (fun _ _ _ q => q) (fun c q => by rw [off_out (no q fun d ob z => by cases z)]; exact q) fun c xs q => by rw [off_out (no q fun d ob z => by cases z)]; exact q
end
def cxLam (CX : CXT) (P : Program) (w : World) (K : PySem.W.Frag) (mg : Str → Option Value) (base : Heap) (N : List Str) (qual : Str) (scope : Scope) (f : Addr) (cd : Value) (cl : List (Str × Addr)) (A : Around) (outer : List Env) (s : Shared) (H : Hp) (E : XK) : Cx where
 prog := P
 w := w
 K := K
 mg := mg
 base := base
 A := A.deeper (PySem.W.envX qual scope s.heap.objs.size f cd cl)
 N := N
 s₀ := s
 H₀ := H
 env := PySem.W.envX qual scope s.heap.objs.size f cd cl
 outer := outer
 stack := PySem.W.envX qual scope s.heap.objs.size f cd cl :: outer
 ex := []
 calm := true
 fn := fun _ => false
 pn := []
 xe := fun e s' => wpAny (model P w) (A.deeper (PySem.W.envX qual scope s.heap.objs.size f cd cl)) (leaving (PySem.W.envX qual scope s.heap.objs.size f cd cl) e) (fun _ s'' => CX outer H s E e s'') (fun e' s'' => CX outer H s E e' s'') s'
structure LamOk (H : Hp) (scope : Scope) (N ps : List Str) (cl : List (Str × Addr)) (σ : St) (vs : List V) : Prop where
 kind : scope.kind = .function
 co : scope.isCoroutine = false
 gen : scope.isGenerator = false
 nocell : ∀ x ∈ scope.names, x.2 ≠ .cell
 par : ∀ p ∈ ps, scope.names.lookup p = some .local
 inj : ∀ x y c, cl.lookup x = some c → cl.lookup y = some c → x = y
 has : ∀ x, scope.names.lookup x = some .free → ∃ c, cl.lookup x = some c
 len : σ.length = N.length
 cel : ∀ p ∈ cl, ∃ (o : Obj) (v : Option Value), H p.2 = some (CelO p.2 o) ∧ o.data = .cell v
 val : ∀ (i : Nat) (x : Str) (v : V), N[i]? = some x → σ[i]? = some (some v) →
   (scope.names.lookup x = some .local ∧ ∃ j : Nat, ps[j]? = some x ∧ vs[j]? = some v) ∨ (scope.names.lookup x = some .free ∧ ∃ c o u, cl.lookup x = some c ∧ H c = some (CelO c o) ∧ o.data = .cell (some u) ∧ RelV v u)
theorem LamOk.cells {H : Hp} {scope : Scope} {N ps : List Str} {cl : List (Str × Addr)} {σ : St} {vs : List V} (S : LamOk H scope N ps cl σ vs) : ∀ c ∈ cl.map (·.2), ∃ o, H c = some (CelO c o) := fun c hc => by
 obtain ⟨p, hp, rfl⟩ := List.mem_map.mp hc
 obtain ⟨o, v, e, _⟩ := S.cel p hp
 exact ⟨o, e⟩
theorem inv_lam {CX : CXT} {P : Program} {w : World} {K : PySem.W.Frag} {mg : Str → Option Value} {base : Heap} {N ps : List Str} {qual : Str} {scope : Scope} {f : Addr} {cd : Value} {cl : List (Str × Addr)} {A : Around} {outer : List Env} {s : Shared} {H : Hp} {E : XK} {us : List Value} {vs : List V} {σ : St} {h1 : Heap}
   (S : LamOk H scope N ps cl σ vs) (hd : A.handled = none) (e0 : Env0 P w K mg base A outer s H) (r : Vals vs us) (hlk : ∀ (j : Nat) (x : Str) (u : Value), ps[j]? = some x → us[j]? = some u → (ps.zip us).reverse.lookup x = some u)
   (hns : h1.Ns s.heap.objs.size fun x => (ps.zip us).reverse.lookup x) (hk : ∀ b o, s.heap.get? b = some o → h1.get? b = some o) (tk : Nat) :
   Inv (cxLam CX P w K mg base N qual scope f cd cl A outer s (offC (cl.map (·.2)) H) E) [] σ (offC (cl.map (·.2)) H) { s with heap := h1, toks := tk } := by
 have hcs := S.cells
 have ok' := e0.hok.offC hcs
 have noA : ∀ b : Addr, b ∉ (cxLam CX P w K mg base N qual scope f cd cl A outer s (offC (cl.map (·.2)) H) E).ex := fun b z => absurd (show b ∈ ([] : List Addr) from z) (by simp)
 have mem : ∀ {x : Str} {c : Addr}, cl.lookup x = some c → c ∈ cl.map (·.2) := fun h => List.mem_map_of_mem (f := (·.2)) (PySem.mem_of_lookup h)
 have cellOf : ∀ {x : Str} {c : Addr}, cl.lookup x = some c → ∀ o, H c = some (CelO c o) → h1.get? c = some o := fun {x c} h o q => by
   obtain ⟨p, _, _⟩ := e0.hok c _ q
   exact hk c o p
 refine ⟨⟨e0.mod, S.kind, rfl, rfl, Nat.le_refl _, S.inj, fun y hy => ?_, fun y c h => ?_, fun _ => hd, Around.frames_deeper e0.frames, .inr ⟨rfl, rfl⟩, fun b z => absurd z (noA b), fun b o e => ⟨(e0.bs b o e).1, off_none (e0.bs b o e).2⟩, e0.bsz, fun b _ _ => noA b, fun b z => absurd z (noA b), e0.funs, fun b hb => off_none (e0.frf b hb)⟩,
   rfl, e0.bare, Un.kept hk, ⟨_, hns, fun i y v h1 h2 h3 => ?_⟩, fun y c h => ?_, ok'.fresh (Nat.le_refl _), fun y c h => off_in (mem h), fun p hp => absurd (show p ∈ ([] : List (Addr × Obj)) from hp) (by simp), ok'.kept hk, S.len⟩
 · rcases hy with hy | hy
   · exact absurd rfl (S.nocell _ (PySem.mem_of_lookup hy))
   · exact S.has y hy
 · cases h
 · rcases S.val i y v h1 h2 with ⟨hl, j, hp, hv⟩ | ⟨hl, c, o, u, hc, ho, hd, rv⟩
   · obtain ⟨u, hu, rv⟩ := r.get hv
     exact ⟨u, rv, .inl ⟨hl, hlk j y u hp hu⟩⟩
   · exact ⟨u, rv, .inr ⟨.inr hl, c, hc, o, cellOf hc o ho, hd⟩⟩
 · obtain ⟨o, v, ho, hd⟩ := S.cel (y, c) (PySem.mem_of_lookup h)
   exact ⟨v, o, cellOf h o ho, hd⟩
theorem lam_of {CX : CXT} {P : Program} {w : World} {K : PySem.W.Frag} {mg : Str → Option Value} {base : Heap} {k : Nat} {f c' : Addr} {name qual : Str} {params : Arguments} {body : Expr} {scope : Scope} {cl : List (Str × Addr)} {pm ctv : Value} {N ps : List Str} {sp : Sp}
   (len : ∀ vs H Q E, sp vs H Q E → vs.length = ps.length)
   (hlk : ∀ us : List Value, us.length = ps.length → ∀ (j : Nat) (x : Str) (u : Value), ps[j]? = some x → us[j]? = some u → (ps.zip us).reverse.lookup x = some u)
   (hbody : ∀ (A : Around) (outer : List Env) (s : Shared) (H : Hp) (vs : List V) (Q : VK) (E : XK), Room k (A.deeper (PySem.W.envX qual scope s.heap.objs.size f (.ref c') cl)) → sp vs H Q E →
     H f = some (LamO f (PySem.W.kla_fn name qual params body scope cl pm (.ref c') ctv)) ∧ H c' = some (CodO c' qual) ∧ ∃ σ, LamOk H scope N ps cl σ vs ∧
     ∃ t, PE (cxLam CX P w K mg base N qual scope f (.ref c') cl A outer s (offC (cl.map (·.2)) H) E) body t ∧ t σ (offC (cl.map (·.2)) H) (fun v H' => (∀ c ∈ cl.map (·.2), H' c = none) → Q v (onC (cl.map (·.2)) H H')) ∧
     ∀ e s', CX outer (offC (cl.map (·.2)) H) s E e s' → CX outer H s E e s') :
   FnOk P w K mg base CX (k + 1) f (PySem.W.kla_fn name qual params body scope cl pm (.ref c') ctv) ps sp := by
 refine ⟨len, fun A outer s H args us vs Q E hr e0 hb r hsp => ?_⟩
 have hl := len _ _ _ _ hsp
 obtain ⟨hf, hcode, σ, S, t, ht, hq, hCX⟩ := hbody A outer s H vs Q E (hr.deeper _) hsp
 have lim : s.heap.NoLimit := e0.mod.nolimit.keeps fun b o e => (e0.bs b o e).1
 obtain ⟨hfo, _, _⟩ := e0.hok f _ hf
 obtain ⟨hco, _, _⟩ := e0.hok c' _ hcode
 have hlu : us.length = ps.length := by rw [← r.length]; exact hl
 refine PySem.W.kla_callFunE hr.depth hfo rfl S.co S.gen rfl hco (hb _ _ _ _ ?_)
 refine wpAny_newFunctionEnv S.nocell (fun y hy => S.par _ (List.of_mem_zip hy).1) (fun h1 hns hsb => ?_) S.kind
 have hk : ∀ b o, s.heap.get? b = some o → h1.get? b = some o := fun b o e => hsb.extBut b o (Nat.ne_of_lt (Heap.lt_size e)) (Heap.get?_push_of_some _ e)
 refine ⟨lim.keeps hk, ?_⟩
 show codeAny _ _ (.expr body (PySem.W.envX qual scope s.heap.objs.size f (.ref c') cl)) _ _
 have I := inv_lam (CX := CX) (qual := qual) (f := f) (cd := .ref c') (E := E) S hr.hd e0 r (hlk us hlu) hns hk (s.toks + (ps.zip us).length)
 refine PySem.W.kla_codeExpr (wpAny_mono (ht [] _ _ _ _ I hq) (fun u s' hs => ?_) fun e s' hs => ?_)
 · obtain ⟨v, H', J, rv, q⟩ := hs
   have hn : ∀ c ∈ cl.map (·.2), H' c = none := fun c hc => by
     obtain ⟨p, hp, rfl⟩ := List.mem_map.mp hc
     obtain ⟨o, v, e, _⟩ := S.cel p hp
     obtain ⟨p', _, _⟩ := e0.hok _ _ e
     exact J.base.free _ o p' (off_in hc) (by intro z; cases z)
   have ub : Un (frs outer) [] (offC (cl.map (·.2)) H) H' s.heap s'.heap := J.base
   refine ⟨v, onC (cl.map (·.2)) H H', J.os, J.bare, Un.onC ub S.cells, HOk.onC e0.hok ub J.hok S.cells hn fun c hc hz => ?_, rv, q hn⟩
   obtain ⟨o, e⟩ := S.cells c hc
   have z : H c = none := e0.frf c hz
   rw [z] at e; cases e
 · exact wpAny_mono hs (fun _ s'' h => hCX _ _ h) fun _ s'' h => hCX _ _ h
section
variable {X : Cx} {CX : CXT} {k i : Nat} {E : XK} {x : Str} {p pos : Pos} {e : Expr} {es : List Expr} {t : TA}
end
def trkC (cs : List Addr) (os : Addr → Obj) (H : Hp) : Hp := fun b => if b ∈ cs then some (CelO b (os b)) else H b
theorem trk_in {cs : List Addr} {os : Addr → Obj} {H : Hp} {b : Addr} (h : b ∈ cs) : trkC cs os H b = some (CelO b (os b)) := if_pos h
theorem trk_out {cs : List Addr} {os : Addr → Obj} {H : Hp} {b : Addr} (h : b ∉ cs) : trkC cs os H b = H b := if_neg h
structure ClOk (env : Env) (cl : List (Str × Addr)) : Prop where
 sub : ∀ x c, (x, c) ∈ cl → env.cells.lookup x = some c
 inj : ∀ x y c, (x, c) ∈ cl → (y, c) ∈ cl → x = y
def ClIs (N : List Str) (σ : St) (sc : Scope) (cl : List (Str × Addr)) (os : Addr → Obj) : Prop := ∀ x c, (x, c) ∈ cl → (∃ v, (os c).data = .cell v) ∧
 ∀ (i : Nat) (v : V), N[i]? = some x → σ[i]? = some (some v) → sc.names.lookup x = some .cell → ∃ u, (os c).data = .cell (some u) ∧ RelV v u
theorem ClOk.look {env : Env} {cl : List (Str × Addr)} (C : ClOk env cl) {x : Str} {c : Addr} (h : (x, c) ∈ cl) : cl.lookup x = some c := by
 cases e : cl.lookup x with
 | none =>
   have := List.lookup_eq_none_iff.mp e (x, c) h
   simp at this
 | some d =>
   have h2 := C.sub x d (PySem.mem_of_lookup e)
   rw [C.sub x c h] at h2
   exact congrArg some (Option.some.inj h2).symm
section
variable {X : Cx} {CX : CXT} {k : Nat} {f : Addr} {fd : FuncData} {ps : List Str} {sp : Sp} {E : XK} {x : Str} {p pos : Pos} {e : Expr} {es : List Expr} {t : TA}
theorem run_fnT {pins : List (Addr × Obj)} {σ : St} {H : Hp} {s : Shared} {Q : VK} {us : List Value} {vs : List V} {cl : List (Str × Addr)} (F : FnOk X.prog X.w X.K X.mg X.base CX k f fd ps sp) (hr : Room k X.A) (hb : Binds X.K fd ps [])
   (hfn : ∀ y, X.fn y = true) (hx : ∀ (e : Value) (H' : Hp) (s' : Shared), Inv X pins σ H s → CX X.stack H' s E e s' → X.xe e s') (I : Inv X pins σ H s) (r : Vals vs us) (C : ClOk X.env cl)
   (h : ∀ os, (∀ c ∈ cl.map (·.2), H c = none) → ClIs X.N σ X.env.scope cl os → sp vs (trkC (cl.map (·.2)) os H) (fun v H2 => (∀ c ∈ cl.map (·.2), H2 c = some (CelO c (os c))) ∧ Q v (offC (cl.map (·.2)) H2)) E) :
   wpAny (model X.prog X.w) X.A (call (.ref f) us) (EP X pins σ Q) X.xe s := by
 obtain ⟨os, hos⟩ : ∃ os : Addr → Obj, ∀ c ∈ cl.map (·.2), s.heap.get? c = some (os c) ∧ ∃ v, (os c).data = .cell v := by
   refine ⟨fun c => (s.heap.get? c).getD { cls := .none, data := .plain }, fun c hc => ?_⟩
   obtain ⟨⟨y, c⟩, hp, rfl⟩ := List.mem_map.mp hc
   obtain ⟨v, o, ho, hd⟩ := I.cell y c (C.sub y c hp)
   have e : ((s.heap.get? c).getD { cls := .none, data := .plain }) = o := by rw [ho]; rfl
   exact ⟨by show s.heap.get? c = some ((s.heap.get? c).getD { cls := .none, data := .plain }); rw [e]; exact ho, v, by show ((s.heap.get? c).getD { cls := .none, data := .plain }).data = _; rw [e]; exact hd⟩
 have hcn : ∀ c ∈ cl.map (·.2), H c = none := fun c hc => by
   obtain ⟨⟨y, c⟩, hp, rfl⟩ := List.mem_map.mp hc
   exact I.freeC y c (C.sub y c hp)
 have hab : ∀ c ∈ cl.map (·.2), X.s₀.heap.objs.size ≤ c := fun c hc => by
   obtain ⟨⟨y, c⟩, hp, rfl⟩ := List.mem_map.mp hc
   exact I.ok.cab y c (hfn y) (C.sub y c hp)
 have hfr : ∀ b ∈ frs X.stack, b ∉ cl.map (·.2) := fun b hb hc => by
   rcases List.mem_cons.mp (I.stkSub b hb) with z | z
   · obtain ⟨⟨y, c⟩, hp, e⟩ := List.mem_map.mp hc
     exact I.cne y c (C.sub y c hp) (by rw [← z]; exact e)
   · obtain ⟨_, o, ho, _⟩ := I.ok.funs.mem z
     exact absurd (Nat.lt_of_lt_of_le (Heap.lt_size ho) (hab b hc)) (Nat.lt_irrefl _)
 have hci : ClIs X.N σ X.env.scope cl os := fun y c hp => by
   obtain ⟨h1, v0, h2⟩ := hos c (List.mem_map_of_mem (f := (·.2)) hp)
   refine ⟨⟨v0, h2⟩, fun i v hN hσ hk => ?_⟩
   obtain ⟨m, hn, hl⟩ := I.loc
   obtain ⟨u, ru, lk⟩ := hl i y v hN hσ (.inr (.inl hk))
   rcases lk with ⟨hk', _⟩ | ⟨_, c2, hc2, o, ho, hd⟩
   · rw [show X.env.kindOf y = some .cell from hk] at hk'; cases hk'
   · rw [C.sub y c hp] at hc2
     cases hc2
     rw [h1] at ho
     cases ho
     exact ⟨u, hd, ru⟩
 have q := h os hcn hci
 have e0 := I.env0
 have hokT : HOk X.prog X.w (trkC (cl.map (·.2)) os H) s.heap := fun b o e => by
   by_cases hb : b ∈ cl.map (·.2)
   · rw [trk_in hb] at e
     cases e
     have g := (hos b hb).1
     exact ⟨g, ⟨_, g⟩, fun h1 h2 z st => st _ z⟩
   · rw [trk_out hb] at e
     have no : ∀ {c : Addr} {v : HO}, H c = some v → c ∉ cl.map (·.2) := fun {c v} q z => by rw [hcn c z] at q; cases q
     exact (I.hok b o e).stay (fun _ _ _ q => q) (fun c q => by rw [trk_out (no q)]; exact q) fun c xs q => by rw [trk_out (no q)]; exact q
 have eT : Env0 X.prog X.w X.K X.mg X.base X.A X.stack s (trkC (cl.map (·.2)) os H) := ⟨e0.frames, e0.mod, fun b o e => ⟨(e0.bs b o e).1, by
     have hb : b ∉ cl.map (·.2) := fun hc => absurd (Nat.lt_of_lt_of_le (Heap.lt_size e) (Nat.le_trans I.ok.bsz (hab b hc))) (Nat.lt_irrefl _)
     rw [trk_out hb]; exact (e0.bs b o e).2⟩, e0.bsz, e0.funs, fun b hb => by rw [trk_out (hfr b hb)]; exact e0.frf b hb, hokT, e0.bare⟩
 have hl : us.length = ps.length := by rw [← r.length]; exact F.len _ _ _ _ q
 have hb' := hb s us I.kIn (by rw [List.append_nil]; exact hl)
 rw [List.append_nil] at hb'
 refine wpAny_call (codeAny_mono (F.run X.A X.stack s _ ⟨us, []⟩ us vs _ E hr eT hb' r q) fun rr s' hq => ?_)
 cases rr with
 | error e => exact hx e _ s' I hq
 | ok fl =>
   cases fl with
   | next => exact False.elim hq
   | brk => exact False.elim hq
   | cont => exact False.elim hq
   | ret u =>
     obtain ⟨v, H2, hos', bare, un, hok2, rv, hc2, qv⟩ := hq
     refine I.after ⟨v, offC (cl.map (·.2)) H2, hos', bare, ⟨fun b o e n hb hx' => ?_, fun b o e n hb hx' => ?_, fun b o e n hx' => ?_, un.there, fun b xs e => ?_, fun b o w' e => ?_, fun b pp e => ?_⟩, HOk.offC hok2 (fun c hc => ⟨_, hc2 c hc⟩), rv, qv⟩
     · by_cases hbc : b ∈ cl.map (·.2)
       · obtain ⟨g, _, _⟩ := hok2 b _ (hc2 b hbc)
         have g' : s'.heap.get? b = some (os b) := g
         rw [(hos b hbc).1] at e
         cases e
         exact g'
       · exact un.keep b o e (by rw [trk_out hbc]; exact n) hb hx'
     · exact un.slot b o e (by rw [trk_out (hfr b hb)]; exact n) hb hx'
     · by_cases hbc : b ∈ cl.map (·.2)
       · exact off_in hbc
       · rw [off_out hbc]; exact un.free b o e (by rw [trk_out hbc]; exact n) hx'
     · have hbc : b ∉ cl.map (·.2) := fun z => by rw [hcn b z] at e; cases e
       rw [off_out hbc]; exact un.tups b xs (by rw [trk_out hbc]; exact e)
     · have hbc : b ∉ cl.map (·.2) := fun z => by rw [hcn b z] at e; cases e
       rw [off_out hbc]; exact un.frzs b o w' (by rw [trk_out hbc]; exact e)
     · have hbc : b ∉ cl.map (·.2) := fun z => by rw [hcn b z] at e; cases e
       rw [off_out hbc]; exact un.tbls b pp (by rw [trk_out hbc]; exact e)
end
section
variable {K : PySem.W.Frag} {cs : List Addr} {H H' : Hp}
theorem Same.trk {os : Addr → Obj} (hn : ∀ c ∈ cs, H c = none) : Same H (trkC cs os H) := fun b o e => by
 have hb : b ∉ cs := fun z => by rw [hn b z] at e; cases e
 rw [trk_out hb]; exact e
theorem Same.untrk {os : Addr → Obj} (s : Same (trkC cs os H) H') (hn : ∀ c ∈ cs, H c = none) : Same H (offC cs H') := fun b o e => by
 have hb : b ∉ cs := fun z => by rw [hn b z] at e; cases e
 rw [off_out hb]; exact s b o (by rw [trk_out hb]; exact e)
end
end L2
namespace L2
open PySem PySem.Spec PyProof.Rows
def Bm (mg : Str → Option Value) (base : Heap) : Prop := ∃ bm ob, mg "__builtins__" = some (.ref bm) ∧ bm ≠ builtinsNs ∧ base.get? bm = some ob ∧ ob.cls = .type "module" ∧ ob.dict = some builtinsNs ∧ ob.data = .plain
def CtOk (Pt : Addr) (q : Str) (H : Hp) : Prop := ∃ ps : Array Value, H Pt = some (.tbl ps) ∧ TriplesOk ps.toList ∧ ∀ pos cv, codeAmong pos ps.toList = some cv → ∃ c', cv = .ref c' ∧ H c' = some (CodO c' q)
theorem codeAmong_app {pos : Pos} {a b : Int} {c cv : Value} (l : List Value) (h : TriplesOk l) (e : codeAmong pos (l ++ [rawInt a, rawInt b, c]) = some cv) : codeAmong pos l = some cv ∨ cv = c := by
 fun_induction TriplesOk l with
 | case1 =>
   simp only [List.nil_append, rawInt, codeAmong] at e
   split at e
   · exact .inr (Option.some.inj e).symm
   · cases e
 | case2 a' t b' u x rest ih =>
   simp only [List.cons_append, codeAmong] at e ⊢
   split at e
   · rename_i hc; rw [if_pos hc]; exact .inl e
   · rename_i hc; rw [if_neg hc]; exact ih h e
 | case3 l h1 h2 => exact h.elim
structure LamNew (H H' : Hp) (Pt : Addr) (q : Str) (f c' : Addr) (fd : FuncData) : Prop where
 new : H f = none
 lam : H' f = some (LamO f fd)
 cod : H' c' = some (CodO c' q)
 tab : CtOk Pt q H'
 old : ∀ b o, b ≠ Pt → H b = some o → H' b = some o
def tLam (env : Env) (mg : Str → Option Value) (Pt : Addr) (q : Str) (params : Arguments) (body : Expr) (scope : Scope) : TE := fun _ H Q => CtOk Pt q H ∧ ∀ f c' cl ctv H', ClOk env cl → (∀ x ∈ scope.names, x.2 = .free → ∃ c, (x.1, c) ∈ cl) →
 LamNew H H' Pt q f c' (PySem.W.kla_fn "<lambda>" q params body scope cl ((mg "__name__").getD .none) (.ref c') ctv) → Q (.ref f) H'
theorem pe_lam {X : Cx} {params : Arguments} {body : Expr} {scope : Scope} {pos : Pos} {c Pt : Addr} (hc : X.env.code = .ref c) (hcd : PySem.W.codeHdIn X.K c Pt = true) (hbm : Bm X.mg X.base)
   (hdef : defaultsOf params X.env = ([], []) := by rfl) (hfree : ∀ x ∈ scope.names, x.2 = .free → X.env.kindOf x.1 = some .cell ∨ X.env.kindOf x.1 = some .free) :
   PE X (.Lambda params body scope pos) (tLam X.env X.mg Pt (X.env.qual ++ "<lambda>") params body scope) := by
 intro pins s σ H Q I h
 obtain ⟨⟨ps, hP, ht, hcodes⟩, h⟩ := h
 have hPo : s.heap.get? Pt = some (PySem.W.tabObj ps) := I.hok Pt _ hP
 have hcells : ∀ x ∈ scope.names, x.2 = .free → ∃ c, X.env.cells.lookup x.1 = some c := fun x hx hf => I.ok.has _ (hfree x hx hf)
 obtain ⟨cl, e1, h1, _, h3⟩ := closure_ok scope.names [] hcells
 have hcl : closureFor scope X.env = pure cl := by
   unfold closureFor
   simp only [bind_pure]
   exact e1
 have C : ClOk X.env cl := ⟨fun x c hp => by
   rcases h1 _ hp with z | z
   · exact nomatch z
   · exact z, fun x y c hx hy => I.ok.inj x y c (by
     rcases h1 _ hx with z | z
     · exact nomatch z
     · exact z) (by
     rcases h1 _ hy with z | z
     · exact nomatch z
     · exact z)⟩
 have hgs : s.heap.Ns mainGlobals X.mg := I.mod.glob.keeps I.bk
 obtain ⟨bm, ob, b1, b2, b3, b4, b5, b6⟩ := hbm
 have b3' : s.heap.get? bm = some ob := I.bk _ _ b3
 have hgP : mainGlobals ≠ Pt := fun q => by
   obtain ⟨o, es, ep, e, hd, _⟩ := hgs
   rw [q, hPo] at e; cases e; cases hd
 have hbP : bm ≠ Pt := fun q => by rw [q, hPo] at b3'; cases b3'; cases b4
 have hbG : bm ≠ mainGlobals := fun q => by
   obtain ⟨o, es, ep, e, hd, _⟩ := hgs
   rw [q, e] at b3'; cases b3'; rw [hd] at b6; cases b6
 refine PySem.W.kla_eval hdef ?_
 have hB : s.heap.BuiltinsAt X.mg Pt := ⟨bm, ob, b1, b2, hbG, hbP, b3', b4, b5, b6⟩
 cases hf : codeAmong pos ps.toList with
 | none =>
   refine PySem.W.kla_makeFunction (mg := X.mg) hcl I.ok.glob hgs hc (PySem.W.codeHd_of_K I.kIn hcd) hPo ht hf hgP hB fun c' ctv h' tk hx hge hlt hrec htb => ?_
   have hcn : H c' = none := I.hok.fresh hge
   have hsz : s.heap.objs.size ≤ h'.objs.size := Nat.le_trans hge (Nat.le_of_lt hlt)
   have hfn : H h'.objs.size = none := I.hok.fresh hsz
   have hcf : c' ≠ h'.objs.size := Nat.ne_of_lt hlt
   have hPc : Pt ≠ c' := ne_of_none hP hcn
   have hPf : Pt ≠ h'.objs.size := ne_of_none hP hfn
   have at_ : ∀ b, b ≠ Pt → b ≠ c' → b ≠ h'.objs.size → upd (upd (upd H Pt (.tbl (ps ++ #[rawInt pos.line, rawInt pos.col, .ref c']))) c' (CodO c' (X.env.qual ++ "<lambda>"))) h'.objs.size (LamO h'.objs.size (PySem.W.kla_fn "<lambda>" (X.env.qual ++ "<lambda>") params body scope cl ((X.mg "__name__").getD .none) (.ref c') ctv)) b = H b := fun b n1 n2 n3 => by rw [upd_ne n3, upd_ne n2, upd_ne n1]
   have aP : upd (upd (upd H Pt (.tbl (ps ++ #[rawInt pos.line, rawInt pos.col, .ref c']))) c' (CodO c' (X.env.qual ++ "<lambda>"))) h'.objs.size (LamO h'.objs.size (PySem.W.kla_fn "<lambda>" (X.env.qual ++ "<lambda>") params body scope cl ((X.mg "__name__").getD .none) (.ref c') ctv)) Pt = some (.tbl (ps ++ #[rawInt pos.line, rawInt pos.col, .ref c'])) := by rw [upd_ne hPf, upd_ne hPc]; exact upd_same
   have aC : upd (upd (upd H Pt (.tbl (ps ++ #[rawInt pos.line, rawInt pos.col, .ref c']))) c' (CodO c' (X.env.qual ++ "<lambda>"))) h'.objs.size (LamO h'.objs.size (PySem.W.kla_fn "<lambda>" (X.env.qual ++ "<lambda>") params body scope cl ((X.mg "__name__").getD .none) (.ref c') ctv)) c' = some (CodO c' (X.env.qual ++ "<lambda>")) := by rw [upd_ne hcf]; exact upd_same
   have aF : upd (upd (upd H Pt (.tbl (ps ++ #[rawInt pos.line, rawInt pos.col, .ref c']))) c' (CodO c' (X.env.qual ++ "<lambda>"))) h'.objs.size (LamO h'.objs.size (PySem.W.kla_fn "<lambda>" (X.env.qual ++ "<lambda>") params body scope cl ((X.mg "__name__").getD .none) (.ref c') ctv)) h'.objs.size = some (LamO h'.objs.size (PySem.W.kla_fn "<lambda>" (X.env.qual ++ "<lambda>") params body scope cl ((X.mg "__name__").getD .none) (.ref c') ctv)) := upd_same
   generalize upd (upd (upd H Pt (.tbl (ps ++ #[rawInt pos.line, rawInt pos.col, .ref c']))) c' (CodO c' (X.env.qual ++ "<lambda>"))) h'.objs.size (LamO h'.objs.size (PySem.W.kla_fn "<lambda>" (X.env.qual ++ "<lambda>") params body scope cl ((X.mg "__name__").getD .none) (.ref c') ctv)) = H' at at_ aP aC aF
   have old : ∀ b o, b ≠ Pt → H b = some o → H' b = some o := fun b o n e => by rw [at_ b n (ne_of_none e hcn) (ne_of_none e hfn)]; exact e
   have lts : ∀ {b : Addr} {o : Obj}, s.heap.get? b = some o → b ≠ c' ∧ b ≠ h'.objs.size := fun e => ⟨Nat.ne_of_lt (Nat.lt_of_lt_of_le (Heap.lt_size e) hge), Nat.ne_of_lt (Nat.lt_of_lt_of_le (Heap.lt_size e) hsz)⟩
   have kp : ∀ b o, b ≠ Pt → s.heap.get? b = some o → (h'.push (PySem.W.kla_obj "<lambda>" (X.env.qual ++ "<lambda>") params body scope cl ((X.mg "__name__").getD .none) c' ctv)).get? b = some o := fun b o n e => Heap.get?_push_of_some _ (hx b o n e)
   have nP : ∀ {b : Addr}, H b = none → b ≠ Pt := fun n z => by rw [z, hP] at n; cases n
   refine I.after ⟨.ref h'.objs.size, H', rfl, I.bare, ⟨fun b o e n _ _ => kp b o (nP n) e, fun b o e n _ _ => ⟨o.slots, kp b o (nP n) e⟩, fun b o e n _ => by rw [at_ b (nP n) (lts e).1 (lts e).2]; exact n, fun b o e _ => ?_, fun b xs e => old b _ (fun z => by rw [z, hP] at e; cases e) e, fun b o u e => old b _ (fun z => by rw [z, hP] at e; cases e) e, fun b pp e => ?_⟩, fun b o e => ?_, rfl, ?_⟩
   · by_cases n : b = Pt
     · subst n; exact ⟨_, Heap.get?_push_of_some _ htb⟩
     · exact ⟨o, kp b o n e⟩
   · by_cases n : b = Pt
     · subst n; rw [hP] at e; cases e; exact ⟨_, aP⟩
     · exact ⟨#[], by rw [old b _ n e]; simp⟩
   · by_cases n3 : b = h'.objs.size
     · subst n3; rw [aF] at e; cases e
       have g : (h'.push (PySem.W.kla_obj "<lambda>" (X.env.qual ++ "<lambda>") params body scope cl ((X.mg "__name__").getD .none) c' ctv)).get? h'.objs.size = some (PySem.W.kla_obj "<lambda>" (X.env.qual ++ "<lambda>") params body scope cl ((X.mg "__name__").getD .none) c' ctv) := Heap.get?_push_size _ rfl
       exact ⟨g, ⟨_, g⟩, fun h1 h2 z st => st _ z⟩
     · by_cases n2 : b = c'
       · subst n2; rw [aC] at e; cases e
         obtain ⟨c2, oc, vs, t, e2, hoc, hd, hv⟩ := hrec
         cases e2
         have g := Heap.get?_push_of_some (PySem.W.kla_obj "<lambda>" (X.env.qual ++ "<lambda>") params body scope cl ((X.mg "__name__").getD .none) b ctv) hoc
         exact ⟨⟨_, oc, vs, t, rfl, g, hd, hv⟩, ⟨_, g⟩, fun h1 h2 ⟨c3, oc3, vs3, t3, e3, hoc3, hd3, hv3⟩ st => by cases e3; exact ⟨_, oc3, vs3, t3, rfl, st _ hoc3, hd3, hv3⟩⟩
       · by_cases n1 : b = Pt
         · subst n1; rw [aP] at e; cases e
           show (h'.push _).get? b = some _
           exact Heap.get?_push_of_some _ htb
         · rw [at_ b n1 n2 n3] at e
           exact (I.hok b o e).stay (fun d u hd q => kp d u (fun z => by
             rcases hd with hd | hd
             · exact n1 (by rw [← hd]; exact z)
             · rw [z, hP] at hd; cases hd) q) (fun d q => old d _ (fun z => by rw [z, hP] at q; cases q) q) fun d xs q => old d _ (fun z => by rw [z, hP] at q; cases q) q
   · refine h h'.objs.size c' cl ctv H' C h3 ⟨hfn, aF, aC, ⟨_, aP, ?_, fun pos' cv q => ?_⟩, old⟩
     · rw [Array.toList_append]; exact TriplesOk_snoc _ _ _ _ ht
     · rw [Array.toList_append] at q
       rcases codeAmong_app _ ht q with z | z
       · obtain ⟨c2, e2, k2⟩ := hcodes pos' cv z
         exact ⟨c2, e2, old c2 _ (fun z => by rw [z, hP] at k2; cases k2) k2⟩
       · exact ⟨c', z, aC⟩
 | some cv =>
   obtain ⟨c', rfl, hco⟩ := hcodes pos cv hf
   refine PySem.W.kla_makeFunctionHit (mg := X.mg) hcl I.ok.glob hgs hc (PySem.W.codeHd_of_K I.kIn hcd) hPo ht hf hB fun ctv h' tk hk hsz => ?_
   have hfn : H h'.objs.size = none := I.hok.fresh hsz
   have J := I.laid (t' := tk) (h' := h'.push { cls := .type "function", data := .func (PySem.W.kla_fn "<lambda>" (X.env.qual ++ "<lambda>") params body scope cl ((X.mg "__name__").getD .none) (.ref c') ctv) }) (a := h'.objs.size) (o := LamO h'.objs.size (PySem.W.kla_fn "<lambda>" (X.env.qual ++ "<lambda>") params body scope cl ((X.mg "__name__").getD .none) (.ref c') ctv)) (fun b ob q => Heap.get?_push_of_some _ (hk b ob q)) hsz (by
     have g : (h'.push { cls := .type "function", data := .func (PySem.W.kla_fn "<lambda>" (X.env.qual ++ "<lambda>") params body scope cl ((X.mg "__name__").getD .none) (.ref c') ctv) }).get? h'.objs.size = some { cls := .type "function", data := .func (PySem.W.kla_fn "<lambda>" (X.env.qual ++ "<lambda>") params body scope cl ((X.mg "__name__").getD .none) (.ref c') ctv) } := Heap.get?_push_size _ rfl
     exact ⟨g, ⟨_, g⟩, fun h1 h2 z st => st _ z⟩)
   have old : ∀ b o, H b = some o → upd H h'.objs.size (LamO h'.objs.size (PySem.W.kla_fn "<lambda>" (X.env.qual ++ "<lambda>") params body scope cl ((X.mg "__name__").getD .none) (.ref c') ctv)) b = some o := fun b o e => by rw [upd_ne (ne_of_none e hfn)]; exact e
   exact ⟨.ref h'.objs.size, _, J, rfl, h _ c' cl ctv _ C h3 ⟨hfn, upd_same, old _ _ hco, ⟨ps, old _ _ hP, ht, fun pos' cv q => by
     obtain ⟨c2, e2, k2⟩ := hcodes pos' cv q
     exact ⟨c2, e2, old _ _ k2⟩⟩, fun b o _ e => old b o e⟩⟩
end L2
namespace L2
open PySem PySem.Spec PyProof.Rows
def OnlyT (Pt : Addr) (H : Hp) : Prop := ∀ b, b ≠ Pt → H b = none ∨ ∃ o xs, H b = some (.frz o (.lst xs))
theorem law_callT {P : Program} {w : World} {K : PySem.W.Frag} {mg mb : Str → Option Value} {CX : CXT} {k : Nat} {fa a Pt c : Addr} {fd : FuncData} {x : Str} {sp : Sp} {s₁ : Shared} {vs : List Value} {ns : List Int}
   (KX : K.In s₁.heap) (hns : s₁.heap.Ns mainGlobals mg) (hb : s₁.heap.Ns builtinsNs mb) (hbb : ∀ x : Str, x ≠ "__name__" → mb x = bootBuiltins x) (hlim : s₁.heap.NoLimit) (hsee : s₁.heap.NoSeer) (hbm : Bm mg s₁.heap) (hg : s₁.gens = #[])
   (hPt : s₁.heap.get? Pt = some (PySem.W.tabObj #[])) (hPK : K.lookup Pt = none) (hcd : PySem.W.codeHdIn K c Pt = true)
   (ha : s₁.heap.get? a = some { cls := .type "list", data := .seq vs.toArray }) (hi : IntsAre vs ns) (hl : ns.length ≤ sizeLine) (hr : Room k callerA)
   (F : ∀ base : Heap, K.In base → base.Ns mainGlobals mg → Bm mg base → FnOk P w K mg base CX k fa fd [x] sp) (hbind : ∀ (s : Shared) (u : Value), BindsTo s fd ⟨[u], []⟩ [(x, u)])
   (hsp : ∀ H : Hp, OnlyT Pt H → SqL K H a (ns.map V.int) → H Pt = some (.tbl #[]) → sp [.ref a] H (fun v _ => v = .bl true) fun _ _ _ => False)
   (hCX : ∀ H e s', CX [] H s₁ (fun _ _ _ => False) e s' → False) :
   codeAny (model P w) callerA (.call (.ref fa) ⟨[.ref a], []⟩) (fun r s' => r = .ok (.ret (.bool true)) ∧ OldK s₁.heap s'.heap ∧ s'.os = s₁.os ∧ AllBare s'.gens) s₁ := by
 have rv := vals_ints hi
 have lenV := hi.length
 have aP : a ≠ Pt := fun z => by rw [z, hPt] at ha; cases ha
 have core : ∀ H : Hp, OnlyT Pt H → H Pt = some (.tbl #[]) → SqL K H a (ns.map V.int) → HOk P w H s₁.heap → (∀ b, H b ≠ none → b = a ∨ b = Pt) → (H a ≠ none → K.lookup a = none) →
     codeAny (model P w) callerA (.call (.ref fa) ⟨[.ref a], []⟩) (fun r s' => r = .ok (.ret (.bool true)) ∧ OldK s₁.heap s'.heap ∧ s'.os = s₁.os ∧ AllBare s'.gens) s₁ := by
   intro H hO hHP hS hok hA hK
   have base_of : ∀ {b : Addr} {o : Obj}, s₁.heap.get? b = some o → H b = none → (hidT s₁.heap H).get? b = some o := fun e n => hidT_get e n
   have noA : ∀ {b : Addr} {o : Obj} {es : Array DictEntry} {ep : Nat}, s₁.heap.get? b = some o → o.data = .dict es ep → H b = none := fun {b o es ep} e d => by
     cases q : H b with
     | none => rfl
     | some u =>
       rcases hA b (by rw [q]; simp) with e' | e'
       · subst e'
         rw [ha] at e; cases e
         have d' : Data.seq vs.toArray _ = Data.dict es ep := d
         cases d'
       · subst e'
         rw [hPt] at e; cases e
         have d' : Data.fields #[] = Data.dict es ep := d
         cases d'
   have nsK : ∀ {b : Addr} {m : Str → Option Value}, s₁.heap.Ns b m → (hidT s₁.heap H).Ns b m := fun {b m} ⟨o, es, ep, e, d, r⟩ => ⟨o, es, ep, base_of e (noA e d), d, r⟩
   have hKb : K.In (hidT s₁.heap H) := fun b o e => base_of (KX b o e) (by
     cases q : H b with
     | none => rfl
     | some u =>
       rcases hA b (by rw [q]; simp) with e' | e'
       · subst e'
         rw [hK (by rw [q]; simp)] at e; cases e
       · subst e'
         rw [hPK] at e; cases e)
   have modN : ∀ {bm : Addr} {ob : Obj}, s₁.heap.get? bm = some ob → ob.cls = .type "module" → H bm = none := fun {bm ob} z u => by
     cases q : H bm with
     | none => rfl
     | some o =>
       rcases hA bm (by rw [q]; simp) with e' | e'
       · subst e'
         rw [ha] at z; cases z
         have u' : Value.type "list" = Value.type "module" := u
         exact absurd u' (by decide)
       · subst e'
         rw [hPt] at z; cases z; cases u
   have seerK : (hidT s₁.heap H).NoSeer := ⟨let ⟨mc, x, y⟩ := hsee.statics; ⟨mc, nsK x, y⟩, let ⟨mm, x, y⟩ := hsee.mods; ⟨mm, nsK x, y⟩, let ⟨mi, x, y⟩ := hsee.imp; ⟨mi, nsK x, y⟩, by
     obtain ⟨mg', bm, ob, x, y, z, u, v⟩ := hsee.main
     exact ⟨mg', bm, ob, nsK x, y, base_of z (modN z u), u, v⟩⟩
   have bmK : Bm mg (hidT s₁.heap H) := by
     obtain ⟨bm, ob, x, y, z, u, v, t⟩ := hbm
     exact ⟨bm, ob, x, y, base_of z (modN z u), u, v, t⟩
   have hM : Mod K mg (hidT s₁.heap H) := ⟨hKb, nsK hns, ⟨mb, nsK hb, hbb⟩, let ⟨mc, h1, h2⟩ := hlim; ⟨mc, nsK h1, h2⟩, seerK⟩
   have e0 : Env0 P w K mg (hidT s₁.heap H) callerA [] s₁ H := ⟨rfl, hM, fun b o e => of_hidT e, Nat.le_of_eq (hidT_size _ _), trivial, fun b hb => absurd (show b ∈ ([] : List Addr) from hb) (by simp), hok, .of_eq hg⟩
   refine codeAny_mono ((F _ hKb (nsK hns) bmK).run callerA [] s₁ H ⟨[.ref a], []⟩ [.ref a] [.ref a] _ _ hr e0 (hbind s₁ (.ref a)) (.cons rfl .nil) (hsp H hO hS hHP)) fun r s' h => ?_
   cases r with
   | error e => exact (hCX H e s' h).elim
   | ok fl =>
     cases fl with
     | next => exact False.elim h
     | brk => exact False.elim h
     | cont => exact False.elim h
     | ret u =>
       obtain ⟨v, H', os, bare, un, hok', r', q⟩ := h
       have q' : v = .bl true := q
       subst q'
       obtain rfl : u = Value.bool true := r'
       obtain ⟨more, hP'⟩ := un.tbls Pt _ hHP
       have gP : s'.heap.get? Pt = some (PySem.W.tabObj (#[] ++ more)) := hok' Pt _ hP'
       have kp : ∀ b o, b ≠ Pt → s₁.heap.get? b = some o → s'.heap.get? b = some o := fun b o n e => by
         cases q : H b with
         | none => exact un.keep b o e q (by intro z; exact absurd (show b ∈ ([] : List Addr) from z) (by simp)) (by simp)
         | some u =>
           rcases hO b n with z | ⟨ob, xs, z⟩
           · rw [q] at z; cases z
           · have z2 := un.frzs b ob _ z
             obtain ⟨e1, _⟩ := hok b _ z
             obtain ⟨e2, _⟩ := hok' b _ z2
             rw [e] at e1; cases e1
             exact e2
       obtain ⟨oc, cvs, _, _, _, _, _, _, _, g1, g2, g3, g4, _⟩ := PySem.W.codeHd_of_K KX hcd
       refine ⟨rfl, ⟨fun b o e => ?_, fun b o e => ?_⟩, os, bare⟩
       · by_cases n : b = Pt
         · subst n
           rw [hPt] at e; cases e
           exact .inr (.inl ⟨⟨c, oc, cvs, g1, g2, g3, g4⟩, rfl, #[], more, rfl, gP⟩)
         · exact .inl (kp b o n e)
       · by_cases n : b = Pt
         · subst n; exact ⟨_, gP⟩
         · exact ⟨o, kp b o n e⟩
 cases hk : K.lookup a with
 | some o =>
   have e := KX a o hk
   rw [ha] at e
   cases e
   refine core (fun b => if b = Pt then some (.tbl #[]) else none) (fun b n => .inl (if_neg n)) (if_pos rfl) (.inr ⟨_, vs.toArray, _, hk, rfl, rfl, rfl, by rw [List.size_toArray, lenV]; exact hl, by simpa using rv⟩) (fun b u z => ?_) (fun b z => ?_) fun z => absurd (if_neg aP) z
   · by_cases n : b = Pt
     · subst n
       have z' := (if_pos rfl).symm.trans z
       cases z'
       exact hPt
     · have z' := (if_neg n).symm.trans z
       cases z'
   · by_cases n : b = Pt
     · exact .inr n
     · exact absurd (if_neg n) z
 | none =>
   refine core (fun b => if b = a then some (.frz { cls := .type "list", data := .seq vs.toArray } (.lst (ns.map V.int))) else if b = Pt then some (.tbl #[]) else none) (fun b n => ?_) (by show (if Pt = a then _ else if Pt = Pt then some (HO.tbl #[]) else none) = _; rw [if_neg (Ne.symm aP), if_pos rfl]) (.inl (.inr ⟨{ cls := .type "list", data := .seq vs.toArray }, if_pos rfl⟩)) (fun b u z => ?_) (fun b z => ?_) fun _ => hk
   · by_cases hb : b = a
     · exact .inr ⟨_, _, if_pos hb⟩
     · exact .inl (by show (if b = a then _ else if b = Pt then _ else none) = none; rw [if_neg hb, if_neg n])
   · by_cases hb : b = a
     · have z' := (if_pos hb).symm.trans z
       cases z'
       subst hb
       exact ⟨ha, by rw [List.length_map]; exact hl, vs, _, rv, ha⟩
     · by_cases n : b = Pt
       · subst n
         have z' : some (HO.tbl #[]) = some u := by rw [← z]; show _ = (if b = a then _ else if b = b then some (HO.tbl #[]) else none); rw [if_neg hb, if_pos rfl]
         cases z'
         exact hPt
       · have z' : (none : Option HO) = some u := by rw [← z]; show _ = (if b = a then _ else if b = Pt then some (HO.tbl #[]) else none); rw [if_neg hb, if_neg n]
         cases z'
   · by_cases hb : b = a
     · exact .inl hb
     · by_cases n : b = Pt
       · exact .inr n
       · exact absurd (by show (if b = a then _ else if b = Pt then _ else none) = none; rw [if_neg hb, if_neg n]) z
theorem walk_ofT {l : PySem.W.OpenLaw} {n k : Nat} {q : Program} {loose : List Str} {XP : (Str → Option Value) → Heap → Prop} {YP : World → Heap → Prop} {d : DefRec} {K : Params → PySem.W.Frag} {CX : World → CXT} {sp : World → Sp} {x : Str} {Pt : Addr}
   (hI : importsNone q = true) (hn : l.most = some n) (hn2 : n ≤ sizeLine) (hdf : d.params.defaults = []) (hr : Room k callerA)
   (hY : ∀ (w : World) (h : Heap), YP w h → (K w.params).In h ∧ h.get? Pt = some (PySem.W.tabObj #[]) ∧ (K w.params).lookup Pt = none)
   (F : ∀ (w : World) (mg : Str → Option Value) (fa : Addr) (h : Heap), (K w.params).In h → h.Ns mainGlobals mg → mg d.name = some (.ref fa) →
     ∃ (fd : FuncData) (c : Addr), PySem.W.codeHdIn (K w.params) c Pt = true ∧ (∀ (s : Shared) (u : Value), BindsTo s fd ⟨[u], []⟩ [(x, u)]) ∧
       ∀ base : Heap, (K w.params).In base → base.Ns mainGlobals mg → Bm mg base → FnOk l.prog w (K w.params) mg base (CX w) k fa fd [x] (sp w))
   (hsp : ∀ (w : World) (H : Hp) (a : Addr) (ns : List Int), ns.length ≤ n → OnlyT Pt H → SqL (K w.params) H a (ns.map V.int) → H Pt = some (.tbl #[]) → sp w [.ref a] H (fun v _ => v = .bl true) fun _ _ _ => False)
   (hCX : ∀ (w : World) (H : Hp) (s : Shared) (e : Value) (s' : Shared), CX w [] H s (fun _ _ _ => False) e s' → False) :
   PySem.W.WalkO q loose XP YP l.row.toRowW d [] (fun f vs => PySem.call f vs) := by
 refine Att.attach_call hn hdf fun w s₀ s₁ mg mb fa o pm cd doc a vs ns G Y ho hd hcd hmg hobj hints hlen hg => ?_
 obtain ⟨KX, hPt, hPK⟩ := hY w _ Y
 obtain ⟨fd, c, hc, hb, hF⟩ := F w mg fa _ KX G.T.g hmg
 exact law_callT KX G.T.g G.T.b G.T.builtins G.T.nolimit (G.T.seer hI) G.T.bmain hg hPt hPK hc hobj hints (Nat.le_trans hlen hn2) hr hF hb (fun H hO hS hP => hsp w H a ns hlen hO hS hP) fun H e s' => hCX w H s₁ e s'
def codeOf (K : PySem.W.Frag) (f Pt : Addr) : Bool := match K.lookup f with
 | some ⟨_, _, .func fd, _⟩ => (match fd.code with | .ref c => PySem.W.codeHdIn K c Pt | _ => false)
 | _ => false
theorem Fun.okL {P : Program} {w : World} {K : PySem.W.Frag} {mg : Str → Option Value} {base : Heap} {x qual : Str} {st : Stmt} {f Pt : Addr} {fd : FuncData} {N ps : List Str} {k : Nat} {sp : Sp} (F : Fun K x qual st f fd) (hl : codeOf K f Pt = true) (S : FnScope N ps (defScope st)) (len : ∀ vs H Q E, sp vs H Q E → vs.length = ps.length)
   (hbody : ∀ (c : Addr) (A : Around) (outer : List Env) (s : Shared) (H : Hp) (vs : List V) (Q : VK) (E : XK), PySem.W.codeHdIn K c Pt = true → Room k (A.deeper (envOfC qual (defScope st) s.heap.objs.size f (.ref c))) → sp vs H Q E →
     ∃ t, PSs (cxOf CX0 P w K mg base N qual (defScope st) f (.ref c) A outer s H E).nox (defBody st) t ∧ t { nx := fun _ H' => Q .non H', rt := Q } (start N vs) H) : FnOk P w K mg base CX0 (k + 1) f fd ps sp := by
 obtain ⟨oc, od, kV, doc, pm, an, cdv, ct, osl, rfl, lk, hcd⟩ := F.ex
 refine fn_of lk hcd S len fun A outer s H vs Q E hr hsp => ?_
 unfold codeOf at hl
 rw [lk] at hl
 cases cdv with
 | ref c =>
   obtain ⟨t, h, q⟩ := hbody c A outer s H vs Q E hl hr hsp
   exact ⟨t, h.nox, q⟩
 | _ => cases hl
def lamFree (sc scope : Scope) : Bool := scope.names.all fun x => decide (x.2 ≠ .free) || decide (sc.names.lookup x.1 = some .cell)
theorem pe_lamD {X : Cx} {params : Arguments} {body : Expr} {scope sc : Scope} {pos : Pos} {c Pt : Addr} (hcd : PySem.W.codeHdIn X.K c Pt = true) (hbm : Bm X.mg X.base) (hc : X.env.code = .ref c := by rfl) (hs : X.env.scope = sc := by rfl) (hf : lamFree sc scope = true := by decide +kernel)
   (hdef : defaultsOf params X.env = ([], []) := by rfl) : PE X (.Lambda params body scope pos) (tLam X.env X.mg Pt (X.env.qual ++ "<lambda>") params body scope) :=
 pe_lam hc hcd hbm hdef fun x hx hfr => .inl (by
   unfold lamFree at hf
   have h := List.all_eq_true.mp hf x hx
   rw [Bool.or_eq_true, decide_eq_true_eq, decide_eq_true_eq] at h
   rcases h with h | h
   · exact absurd hfr h
   · show X.env.scope.names.lookup x.1 = _
     rw [hs]; exact h)
end L2
namespace L2
open PySem PySem.Spec PyProof.Rows
def spT (ps : List Str) (Pre : List V → Prop) (Ans : List V → V → Hp → Prop) (H0 : Hp) : Sp := fun vs H Q _ => vs.length = ps.length ∧ Pre vs ∧ Same H0 H ∧ ∀ r H', Same H H' → Ans vs r H' → Q r H'
structure Tells (P : Program) (w : World) (K : PySem.W.Frag) (mg : Str → Option Value) (base : Heap) (k : Nat) (H : Hp) (f : Addr) (ps : List Str) (Pre : List V → Prop) (Ans : List V → V → Hp → Prop) : Prop where
 ex : ∃ fd, FnOk P w K mg base CX0 k f fd ps (spT ps Pre Ans H) ∧ Binds K fd ps [] ∧ H f = some (LamO f fd)
inductive Cap (sc scope : Scope) (N : List Str) (σ : St) : List Str → List V → Prop
 | nil : Cap sc scope N σ [] []
 | cons {y : Str} {v : V} {fr : List Str} {ws : List V} (i : Nat) (h1 : scope.names.lookup y = some .free) (h2 : sc.names.lookup y = some .cell) (hN : N[i]? = some y) (hσ : σ[i]? = some (some v)) (t : Cap sc scope N σ fr ws) : Cap sc scope N σ (y :: fr) (v :: ws)
theorem Cap.length {sc scope : Scope} {N : List Str} {σ : St} {fr : List Str} {ws : List V} (h : Cap sc scope N σ fr ws) : fr.length = ws.length := by
 induction h with
 | nil => rfl
 | cons i h1 h2 hN hσ t ih => exact congrArg (· + 1) ih
theorem Cap.get {sc scope : Scope} {N : List Str} {σ : St} {fr : List Str} {ws : List V} (h : Cap sc scope N σ fr ws) : ∀ {j : Nat} {y : Str} {v : V}, fr[j]? = some y → (ws.map some)[j]? = some (some v) → scope.names.lookup y = some .free ∧ sc.names.lookup y = some .cell ∧ ∃ i : Nat, N[i]? = some y ∧ σ[i]? = some (some v) := by
 induction h with
 | nil => intro j y v e; cases e
 | cons i h1 h2 hN hσ t ih =>
   intro j y v e1 e2
   cases j with
   | zero => cases e1; cases e2; exact ⟨h1, h2, i, hN, hσ⟩
   | succ j => exact ih e1 e2
structure LamSc (scope : Scope) (ps : List Str) : Prop where
 kind : scope.kind = .function
 co : scope.isCoroutine = false
 gen : scope.isGenerator = false
 nocell : (scope.names.all fun x => decide (x.2 ≠ .cell)) = true
 par : (ps.all fun p => decide (scope.names.lookup p = some .local)) = true
theorem lamOk_of {env : Env} {N : List Str} {σ : St} {scope : Scope} {cl : List (Str × Addr)} {os : Addr → Obj} {H2 H' : Hp} {ps fr : List Str} {vs ws : List V} (S : LamSc scope ps) (C : ClOk env cl) (hfree : ∀ x ∈ scope.names, x.2 = .free → ∃ c, (x.1, c) ∈ cl)
   (hci : ClIs N σ env.scope cl os) (cap : Cap env.scope scope N σ fr ws) (hl : vs.length = ps.length) (hm : Same (trkC (cl.map (·.2)) os H2) H') : LamOk H' scope (ps ++ fr) ps cl (vs.map some ++ ws.map some) vs := by
 have mem : ∀ {x : Str} {c : Addr}, (x, c) ∈ cl → c ∈ cl.map (·.2) := fun h => List.mem_map_of_mem (f := (·.2)) h
 have cel : ∀ {x : Str} {c : Addr}, (x, c) ∈ cl → H' c = some (CelO c (os c)) := fun h => hm _ _ (trk_in (mem h))
 refine ⟨S.kind, S.co, S.gen, fun x hx => ?_, fun p hp => ?_, fun x y c h1 h2 => C.inj x y c (PySem.mem_of_lookup h1) (PySem.mem_of_lookup h2), fun x hx => ?_, ?_, fun p hp => ?_, fun i x v hN hσ => ?_⟩
 · exact of_decide_eq_true (List.all_eq_true.mp S.nocell x hx)
 · exact of_decide_eq_true (List.all_eq_true.mp S.par p hp)
 · obtain ⟨c, hc⟩ := hfree _ (PySem.mem_of_lookup hx) rfl
   exact ⟨c, C.look hc⟩
 · rw [List.length_append, List.length_append, List.length_map, List.length_map, hl, cap.length]
 · obtain ⟨⟨v, hv⟩, _⟩ := hci p.1 p.2 hp
   exact ⟨os p.2, v, cel (x := p.1) hp, hv⟩
 · by_cases hi : i < ps.length
   · rw [List.getElem?_append_left hi] at hN
     rw [List.getElem?_append_left (by rw [List.length_map, hl]; exact hi), List.getElem?_map] at hσ
     refine .inl ⟨of_decide_eq_true (List.all_eq_true.mp S.par x (List.mem_of_getElem? hN)), i, hN, ?_⟩
     cases e : vs[i]? with
     | none => rw [e] at hσ; cases hσ
     | some u => rw [e] at hσ; cases hσ; rfl
   · have hi' : ps.length ≤ i := Nat.le_of_not_lt hi
     rw [List.getElem?_append_right hi'] at hN
     rw [List.getElem?_append_right (by rw [List.length_map, hl]; exact hi'), List.length_map, hl] at hσ
     obtain ⟨h1, h2, j, hj, hs⟩ := cap.get hN hσ
     obtain ⟨c, hc⟩ := hfree _ (PySem.mem_of_lookup h1) rfl
     obtain ⟨_, hv⟩ := hci x c hc
     obtain ⟨u, hu, r⟩ := hv j v hj hs h2
     exact .inr ⟨h1, c, os c, u, C.look hc, cel hc, hu, r⟩
theorem lk1 (p : Str) (us : List Value) (h : us.length = [p].length) (j : Nat) (x : Str) (u : Value) (h1 : [p][j]? = some x) (h2 : us[j]? = some u) : ([p].zip us).reverse.lookup x = some u := by
 obtain ⟨a, r, rfl, l1⟩ := len_succ h
 cases List.length_eq_zero_iff.mp l1
 cases j with
 | zero => cases h1; cases h2; show (match p == p with | true => some u | false => none) = some u; rw [beq_self_eq_true]
 | succ j => cases h1
theorem la_binds1 {K : PySem.W.Frag} {fd : FuncData} {p : Str} (h : ∀ a : Value, bindArgs fd ⟨[a], []⟩ = pure [(p, a)]) : Binds K fd [p] [] := .all fun us l0 => by
 obtain ⟨a1, r1, rfl, l1⟩ := len_succ l0
 cases List.length_eq_zero_iff.mp l1
 exact h a1
def SameB (Pt : Addr) (H H' : Hp) : Prop := ∀ b o, b ≠ Pt → H b = some o → H' b = some o
theorem SameB.trans {Pt : Addr} {H H' H'' : Hp} (a : SameB Pt H H') (b : SameB Pt H' H'') : SameB Pt H H'' := fun c o n e => b c o n (a c o n e)
theorem Same.b {Pt : Addr} {H H' : Hp} (a : Same H H') : SameB Pt H H' := fun b o _ e => a b o e
theorem CtOk.same {Pt : Addr} {q : Str} {H H' : Hp} (h : CtOk Pt q H) (m : Same H H') : CtOk Pt q H' := by
 obtain ⟨ps, e, t, c⟩ := h
 refine ⟨ps, m _ _ e, t, fun pos cv z => ?_⟩
 obtain ⟨c', e', z'⟩ := c pos cv z
 exact ⟨c', e', m _ _ z'⟩
section
variable {K : PySem.W.Frag} {Pt : Addr} {q : Str} {H H' : Hp}
theorem SqT.but {r : Addr} {xs : List V} (h : SqT K H r xs) (c : CtOk Pt q H) (m : SameB Pt H H') : SqT K H' r xs := by
 obtain ⟨ps, e, _⟩ := c
 have ne : ∀ {b : Addr} {o : HO}, H b = some o → (∀ p, o ≠ .tbl p) → b ≠ Pt := fun z n y => by rw [y, e] at z; exact n _ (Option.some.inj z).symm
 rcases h with (h | ⟨o, h⟩) | h
 · exact .inl (.inl (m _ _ (ne h fun p z => by cases z) h))
 · exact .inl (.inr ⟨o, m _ _ (ne h fun p z => by cases z) h⟩)
 · exact .inr h
theorem NumV.but {x : V} {y : Rat} (h : NumV K H x y) (c : CtOk Pt q H) (m : SameB Pt H H') : NumV K H' x y := let ⟨r, e, h⟩ := h; ⟨r, e, h.but c m⟩
theorem Crv.but {r : Addr} {qs : List Rat} (h : Crv K H r qs) (c : CtOk Pt q H) (m : SameB Pt H H') : Crv K H' r qs := let ⟨xs, a, b⟩ := h; ⟨xs, a.but c m, Paired.mapP b fun _ _ z => z.but c m⟩
end
end L2
namespace L2
open PySem PySem.Spec PyProof.Rows
theorem lk_none {K : PySem.W.Frag} {as : List Addr} {b : Addr} (h : as = K.map (·.1)) (n : as.contains b = false) : K.lookup b = none := by
 subst h
 refine List.lookup_eq_none_iff.mpr fun p hp => ?_
 have z : b ∉ K.map (·.1) := fun hm => by rw [List.contains_iff_mem.mpr hm] at n; cases n
 rw [bne_iff_ne]
 exact fun e => z (by rw [e]; exact List.mem_map_of_mem (f := (·.1)) hp)
theorem codeOf_hd {K : PySem.W.Frag} {f Pt : Addr} (h : codeOf K f Pt = true) : ∃ c, PySem.W.codeHdIn K c Pt = true := by
 unfold codeOf at h
 split at h
 · split at h
   · exact ⟨_, h⟩
   · cases h
 · cases h
end L2
namespace L2
open PySem PySem.Spec PyProof.Rows
section
variable {P : Program} {w : World} {K : PySem.W.Frag} {mg : Str → Option Value} {base : Heap} {N : List Str} {qual : Str} {scope : Scope} {f : Addr} {cd : Value} {cl : List (Str × Addr)} {A : Around} {outer : List Env} {s : Shared} {H : Hp} {E : XK}
end
end L2
namespace L2
open PySem PySem.Spec PyProof.Rows
section
variable {X : Cx}
end
end L2
namespace L2
open PySem PySem.Spec PyProof.Rows
structure Raises (P : Program) (w : World) (K : PySem.W.Frag) (mg : Str → Option Value) (base : Heap) (k : Nat) (H : Hp) (f C : Addr) : Prop where
 ex : ∃ fd sp, FnOk P w K mg base (CX1 P w) k f fd [] sp ∧ Binds K fd [] [] ∧ H f = some (LamO f fd) ∧ ∀ (Q : VK) (E : XK), (∀ H', Same H H' → E (.ref C) none H') → sp [] H Q E
end L2
namespace Dt
def skip (i a : Nat) : Nat := if a < i then a else a + 1
def sg (i : Nat) : Int := if i % 2 = 0 then 1 else -1
def sumN (f : Nat → Int) : Nat → Int
 | 0 => 0
 | n + 1 => sumN f n + f n
def det : Nat → (Nat → Nat → Int) → Nat → Int
 | 0, M, j => M 0 j
 | n + 1, M, j => sumN (fun i => sg i * (M i 0 * det n (fun a b => M (skip i a) (b + 1)) j)) (n + 2)
def put (M : Nat → Nat → Int) (p : Nat) (u : Nat → Int) : Nat → Nat → Int := fun a b => if a = p then u b else M a b
def low (i p : Nat) : Nat := if p < i then p else p - 1
def sh (i : Nat) (v : Nat → Int) : Nat → Int := fun b => if b < i then 0 else v (b - i)
def syl (p : Nat) (g f : Nat → Int) : Nat → Nat → Int := fun a => if a < p then sh a g else sh (a - p) f
def sub (m n k : Nat) (f g : Nat → Int) (j : Nat) : Int := det (m - k + (n - k) - 1) (syl (m - k) g f) j
end Dt
namespace Dt
structure Srs (S : Nat → Nat → Int) (m n : Nat) (f g : Nat → Int) (lead held : Int) : Prop where
 le : n ≤ m
 g0 : g 0 ≠ 0
 l0 : lead ≠ 0
 h0 : held ≠ 0
 one : n < m ∨ (lead = 1 ∧ held = 1)
 is : ∀ k, k ≤ n → ∃ s : Int, (s = 1 ∨ s = -1) ∧ ∀ j, lead ^ (n - k) * held ^ (m - k - 1) * S k j = s * sub m n k f g j
section
variable {S : Nat → Nat → Int} {m n : Nat} {f g r : Nat → Int} {e : Nat → Int} {lead held : Int}
end
end Dt
namespace L2
open Dt
def tf (l : List Int) : Nat → Int := fun b => if b < l.length then l.getD (l.length - 1 - b) 0 else 0
structure LR (S : Nat → Nat → Int) (fs gs : List Int) (lead held : Int) : Prop where
 fp : 1 ≤ fs.length
 srs : 1 ≤ gs.length → Srs S (fs.length - 1) (gs.length - 1) (tf fs) (tf gs) lead held
end L2
namespace L2
def Into (d p : List Rat) : Prop := ∃ q : List Rat, ∀ x, Cv.ev p x = Cv.ev q x * Cv.ev d x
def Com (A B F G : List Rat) : Prop := ∀ d, (Into d A ∧ Into d B) ↔ (Into d F ∧ Into d G)
abbrev cst (l : List Int) : List Rat := l.map fun t : Int => (t : Rat)
structure Part (A B p : List Rat) : Prop where
 good : Good p
 mono : p[p.length - 1]? = some 1
 is : ∀ d, (Into d A ∧ Into d B) ↔ Into d p
end L2
namespace L2
open Dt
def Top0 (l : List Int) : Prop := ∀ t, l[l.length - 1]? = some t → t ≠ 0
def PD (l : List Int) : Prop := ∃ D : Nat → Int, D 0 ≠ 0 ∧ (∀ j, Bd 45100 (D j)) ∧ ∀ j, tf l j * D 0 = D j * tf l 0
structure LRI (S : Nat → Nat → Int) (fs gs fs' gs' : List Int) (lead held : Int) (B d0 : Nat) : Prop where
 lr : LR S fs' gs' lead held
 le : gs'.length ≤ fs'.length
 l8 : fs'.length ≤ 8
 t1 : Top0 fs'
 t2 : Top0 gs'
 com : Com (cst fs) (cst gs) (cst fs') (cst gs')
 bf : ∀ t ∈ fs', Bd B t
 bg : ∀ t ∈ gs', Bd B t
 bl : Bd (B + 1) lead
 bh : Bd (B * d0 + 1) held
 d8 : d0 + fs'.length ≤ 8
 bb : B + 1 ≤ 3 ^ (9 - fs'.length) * 3001
 b3 : fs'.length = gs'.length → B ≤ 3000
 pd : PD fs'
section
variable {S : Nat → Nat → Int} {fs gs fs' gs' : List Int} {lead held : Int} {B d0 : Nat}
end
end L2
namespace L2
open Dt
structure LRJ (S : Nat → Nat → Int) (fs gs fs' gs' : List Int) (lead held : Int) (X : Nat) : Prop where
 lr : LR S fs' gs' lead held
 le : gs'.length ≤ fs'.length
 l10 : fs'.length ≤ 10
 t1 : Top0 fs'
 t2 : Top0 gs'
 com : Com (cst fs) (cst gs) (cst fs') (cst gs')
 bf : ∀ t ∈ fs', Bd X t
 bg : ∀ t ∈ gs', Bd X t
 bl : Bd X lead
 bh : Bd X held
section
variable {S : Nat → Nat → Int} {fs gs fs' gs' : List Int} {lead held : Int} {X : Nat}
end
end L2
namespace L2
theorem prL_lead : ∀ os : List Rat, (prL os).getD os.length 0 = 1
 | [] => rfl
 | o :: os => by
   have ih := prL_lead os
   show (addL ((prL os).map (· * -o)) (0 :: addL ((prL os).map (· * 1)) (0 :: []))).getD (os.length + 1) 0 = 1
   rw [getD_addL, getD_scale]
   have e1 : (prL os).getD (os.length + 1) 0 = 0 := by
     rw [List.getD_eq_getElem?_getD, List.getElem?_eq_none (by rw [prL_length]; lia)]; rfl
   show _ + (addL ((prL os).map (· * 1)) (0 :: [])).getD os.length 0 = 1
   rw [getD_addL, getD_scale, e1, ih]
   have e : ([0] : List Rat).getD os.length 0 = 0 := by match os.length with | 0 => rfl | k + 1 => rfl
   rw [e]; grind
theorem line_cancel {A B : List Rat} {p : Rat} (h : ∀ x, (x - p) * Cv.ev A x = (x - p) * Cv.ev B x) (x : Rat) : Cv.ev A x = Cv.ev B x := by
 have key : Cv.strip (addL A (B.map (· * (-1)))) = [] := by
   by_cases hD : Cv.strip (addL A (B.map (· * (-1)))) = []
   · exact hD
   exfalso
   have gM : Good (mulL [-p, 1] (Cv.strip (addL A (B.map (· * (-1)))))) := good_mul (.inr ⟨1, rfl, by decide⟩) (good_strip _) (by simp) hD
   have e := good_one gM (.inl rfl : Good []) fun x => by
     rw [ev_mulL, Cv.ev_strip, ev_addL, Cv.ev_scale]
     have := h x
     show (-p + x * (1 + x * 0)) * _ = 0
     grind
   have l := mulL_length (Cv.strip (addL A (B.map (· * (-1))))) (List.length_pos_iff.mpr hD) [-p, 1] (by simp)
   rw [e] at l
   have := List.length_pos_iff.mpr hD
   simp only [List.length_nil, List.length_cons] at l
   lia
 have z : Cv.ev (Cv.strip (addL A (B.map (· * (-1))))) x = 0 := by rw [key]; rfl
 rw [Cv.ev_strip, ev_addL, Cv.ev_scale] at z
 grind
end L2
namespace L2
def Cop (A B : List Rat) : Prop := ∃ u v, ∀ x, Cv.ev u x * Cv.ev A x + Cv.ev v x * Cv.ev B x = 1
theorem cancelP {D A B : List Rat} (hD : Cv.strip D ≠ []) (h : ∀ x, Cv.ev D x * Cv.ev A x = Cv.ev D x * Cv.ev B x) (x : Rat) : Cv.ev A x = Cv.ev B x := by
 have key : Cv.strip (addL A (B.map (· * (-1)))) = [] := by
   by_cases hE : Cv.strip (addL A (B.map (· * (-1)))) = []
   · exact hE
   exfalso
   have gM := good_mul (good_strip D) (good_strip (addL A (B.map (· * (-1))))) hD hE
   have e := good_one gM (.inl rfl : Good []) fun x => by
     rw [ev_mulL, Cv.ev_strip, Cv.ev_strip, ev_addL, Cv.ev_scale]
     have := h x
     show _ = (0 : Rat)
     grind
   have l := mulL_length (Cv.strip (addL A (B.map (· * (-1))))) (List.length_pos_iff.mpr hE) (Cv.strip D) (List.length_pos_iff.mpr hD)
   rw [e] at l
   have := List.length_pos_iff.mpr hE
   have := List.length_pos_iff.mpr hD
   simp only [List.length_nil] at l
   lia
 have z : Cv.ev (Cv.strip (addL A (B.map (· * (-1))))) x = 0 := by rw [key]; rfl
 rw [Cv.ev_strip, ev_addL, Cv.ev_scale] at z
 grind
def pw (d : List Rat) : Nat → List Rat
 | 0 => [1]
 | n + 1 => mulL (pw d n) d
end L2
namespace L2
structure Kn (f l g : List Rat) : Prop where
 gg : Good g
 mono : g[g.length - 1]? = some 1
 fe : ∀ x, Cv.ev f x = Cv.ev l x * Cv.ev g x
 un : ∃ u, (∀ x, Cv.ev (dL f) x = Cv.ev g x * Cv.ev u x) ∧ Cop l u
end L2
namespace L2
open PySem PySem.Spec PyProof.Rows
section
variable {X : Cx} {e : Expr} {es : List Expr} {te : TE} {t : TA} {pos : Pos}
@[irreducible] def PEk (X : Cx) (e : Expr) (te : TE) : Prop := PE X e te
@[irreducible] def PAk (X : Cx) (es : List Expr) (t : TA) : Prop := PA X es t
theorem pek (h : PE X e te) : PEk X e te := by unfold PEk; exact h
end
end L2
namespace L2
theorem vanish_all : ∀ (qs : List Rat) {l : List Rat}, qs.Nodup → l.length ≤ qs.length → (∀ q ∈ qs, Cv.ev l q = 0) → ∀ x, Cv.ev l x = 0
 | [], l, _, hl, _, x => by
   have : l = [] := List.eq_nil_of_length_eq_zero (Nat.le_zero.mp hl)
   rw [this]; rfl
 | c :: r, l, hn, hl, h, x => by
   rw [List.nodup_cons] at hn
   have h0 := h c (List.mem_cons_self ..)
   have e : ∀ x, Cv.ev l x = (x - c) * Cv.ev (quo c l) x := fun x => by rw [quo_ev c x l, h0, Rat.zero_add]
   have hl' : l.length ≤ r.length + 1 := hl
   have ih := vanish_all r (l := quo c l) hn.2 (by rw [quo_length]; lia) fun q hq => by
     have hq0 := h q (List.mem_cons_of_mem _ hq)
     rw [e q] at hq0
     rcases Rat.mul_eq_zero.mp hq0 with z | z
     · exact absurd (show q = c by grind) fun z => hn.1 (z ▸ hq)
     · exact z
   rw [e x, ih x, Rat.mul_zero]
theorem ev_cut : ∀ (l : List Rat) (a : Nat), (∀ j, a ≤ j → l.getD j 0 = 0) → ∀ x, Cv.ev (l.take a) x = Cv.ev l x
 | [], a, _, x => by rw [List.take_nil]
 | q :: r, 0, h, x => by
   show (0 : Rat) = q + x * Cv.ev r x
   have h0 : q = 0 := h 0 (Nat.le_refl _)
   have ih := ev_cut r 0 (fun j _ => h (j + 1) (Nat.zero_le _)) x
   rw [List.take_zero] at ih
   have ih : (0 : Rat) = Cv.ev r x := ih
   rw [h0, ← ih, Rat.mul_zero, Rat.add_zero]
 | q :: r, a + 1, h, x => by
   show q + x * Cv.ev (r.take a) x = q + x * Cv.ev r x
   rw [ev_cut r a (fun j hj => h (j + 1) (Nat.succ_le_succ hj)) x]
theorem prod_short {N D : List Rat} {a b k : Nat} (hN : ∀ j, a ≤ j → N.getD j 0 = 0) (hD : ∀ j, b ≤ j → D.getD j 0 = 0) (h : a = 0 ∨ b = 0 ∨ a + b ≤ k + 1) : ∃ l : List Rat, l.length ≤ k ∧ ∀ x, Cv.ev l x = Cv.ev N x * Cv.ev D x := by
 have eN := ev_cut N a hN
 have eD := ev_cut D b hD
 by_cases z : (N.take a).length = 0 ∨ (D.take b).length = 0
 · refine ⟨[], Nat.zero_le _, fun x => ?_⟩
   show (0 : Rat) = _
   rcases z with z | z
   · rw [← eN, List.eq_nil_of_length_eq_zero z]; show _ = 0 * _; rw [Rat.zero_mul]
   · rw [← eD, List.eq_nil_of_length_eq_zero z]; show _ = _ * 0; rw [Rat.mul_zero]
 · have h1 : (N.take a).length ≤ a := by rw [List.length_take]; lia
   have h2 : (D.take b).length ≤ b := by rw [List.length_take]; lia
   refine ⟨mulL (N.take a) (D.take b), ?_, fun x => by rw [ev_mulL, eN, eD]⟩
   rw [mulL_length _ (by lia) _ (by lia)]
   lia
def RkLe (w v r : Int) (N D : List Rat) : Prop := (∀ j : Nat, r < 2 * ((j : Int) + 1 - w) → N.getD j 0 = 0) ∧ (∀ j : Nat, r < 2 * ((j : Int) + 1 - v) + 1 → D.getD j 0 = 0)
def RkTop (w v r : Int) (N D : List Rat) : Prop := (∃ j : Nat, 2 * ((j : Int) + 1 - w) = r ∧ N.getD j 0 ≠ 0) ∨ (∃ j : Nat, 2 * ((j : Int) + 1 - v) + 1 = r ∧ D.getD j 0 ≠ 0)
theorem prod_rank {w v r1 r2 : Int} {N D : List Rat} {n k : Nat} (hN : ∀ j : Nat, r1 < 2 * ((j : Int) + 1 - w) → N.getD j 0 = 0) (hD : ∀ j : Nat, r2 < 2 * ((j : Int) + 1 - v) + 1 → D.getD j 0 = 0) (hw : w + v = n + 1) (hr : r1 + r2 ≤ 2 * (k : Int) - 2 * n + 2) : ∃ l : List Rat, l.length ≤ k ∧ ∀ x, Cv.ev l x = Cv.ev N x * Cv.ev D x := by
 refine prod_short (a := (r1 / 2 + w).toNat) (b := ((r2 - 1) / 2 + v).toNat) (fun j hj => hN j ?_) (fun j hj => hD j ?_) ?_
 · lia
 · lia
 · lia
theorem det_zero {w v r1 r2 : Int} {N1 D1 N2 D2 qs : List Rat} {n : Nat} (h1 : RkLe w v r1 N1 D1) (h2 : RkLe w v r2 N2 D2) (hw : w + v = n + 1) (hr : r1 + r2 ≤ 2 * (qs.length : Int) - 2 * n + 2) (hn : qs.Nodup) (h : ∀ q ∈ qs, Cv.ev N1 q * Cv.ev D2 q = Cv.ev N2 q * Cv.ev D1 q) (x : Rat) : Cv.ev N1 x * Cv.ev D2 x = Cv.ev N2 x * Cv.ev D1 x := by
 obtain ⟨l1, hl1, e1⟩ := prod_rank (k := qs.length) h1.1 h2.2 hw hr
 obtain ⟨l2, hl2, e2⟩ := prod_rank (k := qs.length) h2.1 h1.2 hw (by lia)
 have e : ∀ x, Cv.ev (addL l1 (l2.map (· * (-1)))) x = Cv.ev N1 x * Cv.ev D2 x - Cv.ev N2 x * Cv.ev D1 x := fun x => by
   rw [ev_addL, Cv.ev_scale, e1, e2]; grind
 have := vanish_all qs (l := addL l1 (l2.map (· * (-1)))) hn (by rw [addL_length, List.length_map]; lia) (fun q hq => by rw [e, h q hq]; grind) x
 rw [e] at this
 grind
theorem getD_take {l : List Rat} {a j : Nat} (h : j < a) : (l.take a).getD j 0 = l.getD j 0 := by
 rw [List.getD_eq_getElem?_getD, List.getD_eq_getElem?_getD, List.getElem?_take, if_pos h]
theorem top_len {l : List Rat} {j : Nat} (h : l.getD j 0 ≠ 0) : j < l.length := by
 rcases Nat.lt_or_ge j l.length with z | z
 · exact z
 · exact absurd (by rw [List.getD_eq_getElem?_getD, List.getElem?_eq_none z]; rfl) h
theorem lead_no {N1 D2 N2 D1 : List Rat} {j i a b : Nat} (hj : N1.getD j 0 ≠ 0) (hi : D2.getD i 0 ≠ 0) (h1 : ∀ t, j < t → N1.getD t 0 = 0) (h2 : ∀ t, i < t → D2.getD t 0 = 0) (ha : ∀ t, a ≤ t → N2.getD t 0 = 0) (hb : ∀ t, b ≤ t → D1.getD t 0 = 0) (hab : a = 0 ∨ b = 0 ∨ a + b ≤ j + i + 1) : ¬ ∀ x, Cv.ev N1 x * Cv.ev D2 x = Cv.ev N2 x * Cv.ev D1 x := fun h => by
 obtain ⟨l, hl, el⟩ := prod_short (k := j + i) ha hb hab
 have lj := top_len hj
 have li := top_len hi
 have n1 : (N1.take (j + 1)).length = j + 1 := by rw [List.length_take]; lia
 have n2 : (D2.take (i + 1)).length = i + 1 := by rw [List.length_take]; lia
 have g : ∀ {q : List Rat} {t : Nat}, t < q.length → q[t]? = some (q.getD t 0) := fun {q t} ht => by rw [List.getD_eq_getElem?_getD, List.getElem?_eq_getElem ht]; rfl
 have m1 := mulL_last (D2.take (i + 1)) (D2.getD i 0) (by rw [n2, Nat.add_sub_cancel, g (by lia), getD_take (by lia)]) (N1.take (j + 1)) (N1.getD j 0) (by rw [n1, Nat.add_sub_cancel, g (by lia), getD_take (by lia)])
 have e := coef_one (l := mulL (N1.take (j + 1)) (D2.take (i + 1))) (m := l) (fun k => by rw [el, ← h, ev_mulL, ev_cut N1 (j + 1) fun t ht => h1 t (by lia), ev_cut D2 (i + 1) fun t ht => h2 t (by lia)]) (j + i)
 have e2 : l.getD (j + i) 0 = 0 := by rw [List.getD_eq_getElem?_getD, List.getElem?_eq_none hl]; rfl
 rw [n1, n2, show j + 1 + (i + 1) - 2 = j + i by lia] at m1
 rw [e2, List.getD_eq_getElem?_getD, m1] at e
 rcases Rat.mul_eq_zero.mp (show D2.getD i 0 * N1.getD j 0 = 0 from e) with z | z
 · exact hi z
 · exact hj z
theorem det_some {w v r1 r2 : Int} {N1 D1 N2 D2 : List Rat} (h1 : RkLe w v r1 N1 D1) (h2 : RkLe w v r2 N2 D2) (t1 : RkTop w v r1 N1 D1) (t2 : RkTop w v r2 N2 D2) (hp : (r1 + r2) % 2 = 1) : ¬ ∀ x, Cv.ev N1 x * Cv.ev D2 x = Cv.ev N2 x * Cv.ev D1 x := by
 rcases t1 with ⟨j, ej, hj⟩ | ⟨j, ej, hj⟩
 · rcases t2 with ⟨i, ei, hi⟩ | ⟨i, ei, hi⟩
   · lia
   · exact lead_no (a := (r2 / 2 + w).toNat) (b := ((r1 - 1) / 2 + v).toNat) hj hi (fun t ht => h1.1 t (by lia)) (fun t ht => h2.2 t (by lia)) (fun t ht => h2.1 t (by lia)) (fun t ht => h1.2 t (by lia)) (by lia)
 · rcases t2 with ⟨i, ei, hi⟩ | ⟨i, ei, hi⟩
   · exact fun h => lead_no (a := (r1 / 2 + w).toNat) (b := ((r2 - 1) / 2 + v).toNat) hi hj (fun t ht => h2.1 t (by lia)) (fun t ht => h1.2 t (by lia)) (fun t ht => h1.1 t (by lia)) (fun t ht => h2.2 t (by lia)) (by lia) fun x => (h x).symm
   · lia
structure PInv (w v : Int) (n : Nat) (ps : List (Rat × Rat)) (r1 r2 : Int) (N1 D1 N2 D2 : List Rat) : Prop where
 le1 : RkLe w v r1 N1 D1
 top1 : RkTop w v r1 N1 D1
 le2 : RkLe w v r2 N2 D2
 top2 : RkTop w v r2 N2 D2
 lt : r1 < r2
 sum : r1 + r2 = 2 * (ps.length : Int) - 2 * n + 3
 on1 : ∀ q ∈ ps, Cv.ev N1 q.1 = q.2 * Cv.ev D1 q.1
 on2 : ∀ q ∈ ps, Cv.ev N2 q.1 = q.2 * Cv.ev D2 q.1
section
variable {w v : Int} {n : Nat} {ps : List (Rat × Rat)} {r1 r2 : Int} {N1 D1 N2 D2 : List Rat}
theorem PInv.ne (I : PInv w v n ps r1 r2 N1 D1 N2 D2) : ¬ ∀ x, Cv.ev N1 x * Cv.ev D2 x = Cv.ev N2 x * Cv.ev D1 x := det_some I.le1 I.le2 I.top1 I.top2 (by have := I.sum; lia)
theorem PInv.some (I : PInv w v n ps r1 r2 N1 D1 N2 D2) (hw : w + v = n + 1) {x y : Rat} (hn : ((ps ++ [(x, y)]).map Prod.fst).Nodup) : ¬ (Cv.ev N1 x = y * Cv.ev D1 x ∧ Cv.ev N2 x = y * Cv.ev D2 x) := fun ⟨h1, h2⟩ => by
 refine I.ne fun t => det_zero (qs := (ps ++ [(x, y)]).map Prod.fst) I.le1 I.le2 hw ?_ hn (fun q hq => ?_) t
 · have := I.sum
   rw [List.length_map, List.length_append, List.length_singleton]
   lia
 · obtain ⟨p, hp, rfl⟩ := List.mem_map.mp hq
   rcases List.mem_append.mp hp with z | z
   · rw [I.on1 p z, I.on2 p z]; grind
   · rw [List.mem_singleton.mp z]
     show Cv.ev N1 x * Cv.ev D2 x = Cv.ev N2 x * Cv.ev D1 x
     rw [h1, h2]; grind
theorem PInv.least (I : PInv w v n ps r1 r2 N1 D1 N2 D2) (hw : w + v = n + 1) (hn : (ps.map Prod.fst).Nodup) {r : Int} {N D : List Rat} (hr : r < r1) (hle : RkLe w v r N D) (hon : ∀ q ∈ ps, Cv.ev N q.1 = q.2 * Cv.ev D q.1) : ∀ x, Cv.ev N x = 0 ∧ Cv.ev D x = 0 := by
 have hs := I.sum
 have hlt := I.lt
 have d1 := det_zero (qs := ps.map Prod.fst) hle I.le1 hw (by rw [List.length_map]; lia) hn fun q hq => by
   obtain ⟨p, hp, rfl⟩ := List.mem_map.mp hq
   rw [hon p hp, I.on1 p hp]; grind
 have d2 := det_zero (qs := ps.map Prod.fst) hle I.le2 hw (by rw [List.length_map]; lia) hn fun q hq => by
   obtain ⟨p, hp, rfl⟩ := List.mem_map.mp hq
   rw [hon p hp, I.on2 p hp]; grind
 have cut : ∀ {L : List Rat}, Cv.strip L = [] → ∀ x, Cv.ev L x = 0 := fun {L} h x => by rw [← Cv.ev_strip, h]; rfl
 by_cases zD : Cv.strip D = []
 · have zD := cut zD
   by_cases zN : Cv.strip N = []
   · exact fun x => ⟨cut zN x, zD x⟩
   · exfalso
     have z1 : ∀ x, Cv.ev D1 x = 0 := fun x => by
       have := cancelP (D := N) (A := D1) (B := []) zN (fun x => by rw [d1 x, zD x, Rat.mul_zero]; show (0 : Rat) = _ * 0; rw [Rat.mul_zero]) x
       exact this
     have z2 : ∀ x, Cv.ev D2 x = 0 := fun x => by
       have := cancelP (D := N) (A := D2) (B := []) zN (fun x => by rw [d2 x, zD x, Rat.mul_zero]; show (0 : Rat) = _ * 0; rw [Rat.mul_zero]) x
       exact this
     exact I.ne fun x => by rw [z1 x, z2 x, Rat.mul_zero, Rat.mul_zero]
 · exfalso
   refine I.ne fun x => ?_
   have := cancelP (D := D) (A := mulL N1 D2) (B := mulL N2 D1) zD (fun x => by
     rw [ev_mulL, ev_mulL]
     have a := d1 x
     have b := d2 x
     have e1 : Cv.ev D x * (Cv.ev N1 x * Cv.ev D2 x) = (Cv.ev N1 x * Cv.ev D x) * Cv.ev D2 x := by grind
     have e2 : Cv.ev D x * (Cv.ev N2 x * Cv.ev D1 x) = (Cv.ev N2 x * Cv.ev D x) * Cv.ev D1 x := by grind
     rw [e1, e2, ← a, ← b]; grind) x
   rw [ev_mulL, ev_mulL] at this
   exact this
end
theorem ev_getD : ∀ {l m : List Rat}, (∀ j, l.getD j 0 = m.getD j 0) → ∀ x, Cv.ev l x = Cv.ev m x
 | [], m, h, x => by
   show (0 : Rat) = _
   rw [Cv.ev_none]
   intro q hq
   obtain ⟨j, hj, rfl⟩ := List.getElem_of_mem hq
   have := h j
   rw [List.getD_eq_getElem?_getD, List.getD_eq_getElem?_getD, List.getElem?_eq_getElem hj] at this
   exact this.symm
 | a :: l, [], h, x => by
   show _ = (0 : Rat)
   rw [Cv.ev_none]
   intro q hq
   obtain ⟨j, hj, rfl⟩ := List.getElem_of_mem hq
   have := h j
   rw [List.getD_eq_getElem?_getD, List.getD_eq_getElem?_getD, List.getElem?_eq_getElem hj] at this
   exact this
 | a :: l, b :: m, h, x => by
   show a + x * Cv.ev l x = b + x * Cv.ev m x
   rw [show a = b from h 0, ev_getD (l := l) (m := m) (fun j => h (j + 1)) x]
def Shf (c d : Rat) (L L' : List Rat) : Prop := ∀ j : Nat, L'.getD j 0 = d * (if j = 0 then 0 else L.getD (j - 1) 0) - c * L.getD j 0
theorem Shf.ev {c d : Rat} {L L' : List Rat} (h : Shf c d L L') (x : Rat) : Cv.ev L' x = (d * x - c) * Cv.ev L x := by
 have e : Cv.ev L' x = Cv.ev (addL ((0 :: L).map (· * d)) (L.map (· * (-c)))) x := ev_getD (fun j => by
   rw [h j, getD_addL, getD_scale, getD_scale]
   cases j with
   | zero => show d * (if 0 = 0 then 0 else _) - c * _ = 0 * d + _; rw [if_pos rfl]; grind
   | succ j => show d * (if j + 1 = 0 then 0 else L.getD (j + 1 - 1) 0) - c * _ = L.getD j 0 * d + _; rw [if_neg (by lia), Nat.add_sub_cancel]; grind) x
 rw [e, ev_addL, Cv.ev_scale, Cv.ev_scale]
 show (0 + x * Cv.ev L x) * d + _ = _
 grind
def Mix (m a b : Rat) (A B L' : List Rat) : Prop := ∀ j : Nat, m * L'.getD j 0 = a * B.getD j 0 - b * A.getD j 0
theorem Mix.ev {m a b : Rat} {A B L' : List Rat} (h : Mix m a b A B L') (x : Rat) : m * Cv.ev L' x = a * Cv.ev B x - b * Cv.ev A x := by
 have e : Cv.ev (L'.map (· * m)) x = Cv.ev (addL (B.map (· * a)) (A.map (· * (-b)))) x := ev_getD (fun j => by
   rw [getD_scale, getD_addL, getD_scale, getD_scale]
   have := h j
   grind) x
 rw [ev_addL, Cv.ev_scale, Cv.ev_scale, Cv.ev_scale] at e
 grind
theorem RkLe.shift {w v r : Int} {c d : Rat} {N D N' D' : List Rat} (h : RkLe w v r N D) (hN : Shf c d N N') (hD : Shf c d D D') : RkLe w v (r + 2) N' D' := by
 refine ⟨fun j hj => ?_, fun j hj => ?_⟩
 · rw [hN j, h.1 j (by lia)]
   by_cases z : j = 0
   · rw [if_pos z]; grind
   · rw [if_neg z, h.1 (j - 1) (by lia)]; grind
 · rw [hD j, h.2 j (by lia)]
   by_cases z : j = 0
   · rw [if_pos z]; grind
   · rw [if_neg z, h.2 (j - 1) (by lia)]; grind
theorem RkTop.shift {w v r : Int} {c d : Rat} {N D N' D' : List Rat} (h : RkTop w v r N D) (hle : RkLe w v r N D) (hd : d ≠ 0) (hN : Shf c d N N') (hD : Shf c d D D') : RkTop w v (r + 2) N' D' := by
 have key : ∀ {y : Rat}, y ≠ 0 → d * y - c * 0 ≠ 0 := fun {y} hy e => by
   have : d * y = 0 := by grind
   rcases Rat.mul_eq_zero.mp this with z | z
   · exact hd z
   · exact hy z
 rcases h with ⟨j, e, hj⟩ | ⟨j, e, hj⟩
 · refine .inl ⟨j + 1, by lia, ?_⟩
   rw [hN (j + 1), if_neg (by lia), Nat.add_sub_cancel, hle.1 (j + 1) (by lia)]
   exact key hj
 · refine .inr ⟨j + 1, by lia, ?_⟩
   rw [hD (j + 1), if_neg (by lia), Nat.add_sub_cancel, hle.2 (j + 1) (by lia)]
   exact key hj
theorem Mix.zero {m a b : Rat} {A B L' : List Rat} (h : Mix m a b A B L') (hm : m ≠ 0) {j : Nat} (hA : A.getD j 0 = 0) (hB : B.getD j 0 = 0) : L'.getD j 0 = 0 := by
 have := h j
 rw [hA, hB] at this
 rcases Rat.mul_eq_zero.mp (show m * L'.getD j 0 = 0 by grind) with z | z
 · exact absurd z hm
 · exact z
theorem RkLe.mix {w v r1 r2 : Int} {m a b : Rat} {N1 D1 N2 D2 N' D' : List Rat} (h1 : RkLe w v r1 N1 D1) (h2 : RkLe w v r2 N2 D2) (hlt : r1 < r2) (hm : m ≠ 0) (hN : Mix m a b N1 N2 N') (hD : Mix m a b D1 D2 D') : RkLe w v r2 N' D' :=
 ⟨fun j hj => hN.zero hm (h1.1 j (by lia)) (h2.1 j hj), fun j hj => hD.zero hm (h1.2 j (by lia)) (h2.2 j hj)⟩
theorem RkTop.mix {w v r1 r2 : Int} {m a b : Rat} {N1 D1 N2 D2 N' D' : List Rat} (t2 : RkTop w v r2 N2 D2) (h1 : RkLe w v r1 N1 D1) (hlt : r1 < r2) (ha : a ≠ 0) (hN : Mix m a b N1 N2 N') (hD : Mix m a b D1 D2 D') : RkTop w v r2 N' D' := by
 have key : ∀ {y z : Rat}, y ≠ 0 → m * z = a * y - b * 0 → z ≠ 0 := fun {y z} hy e hz => by
   have : a * y = 0 := by rw [hz] at e; grind
   rcases Rat.mul_eq_zero.mp this with q | q
   · exact ha q
   · exact hy q
 rcases t2 with ⟨j, e, hj⟩ | ⟨j, e, hj⟩
 · have := hN j
   rw [h1.1 j (by lia)] at this
   exact .inl ⟨j, e, key hj this⟩
 · have := hD j
   rw [h1.2 j (by lia)] at this
   exact .inr ⟨j, e, key hj this⟩
structure PUn (w v : Int) (n : Nat) (ps : List (Rat × Rat)) (r1 r2 : Int) (N1 D1 N2 D2 : List Rat) : Prop where
 le1 : RkLe w v r1 N1 D1
 top1 : RkTop w v r1 N1 D1
 le2 : RkLe w v r2 N2 D2
 top2 : RkTop w v r2 N2 D2
 sum : r1 + r2 = 2 * (ps.length : Int) - 2 * n + 3
 on1 : ∀ q ∈ ps, Cv.ev N1 q.1 = q.2 * Cv.ev D1 q.1
 on2 : ∀ q ∈ ps, Cv.ev N2 q.1 = q.2 * Cv.ev D2 q.1
section
variable {w v : Int} {n : Nat} {ps : List (Rat × Rat)} {r1 r2 : Int} {N1 D1 N2 D2 N1' D1' N2' D2' : List Rat} {x y : Rat}
theorem PUn.inv (h : PUn w v n ps r1 r2 N1 D1 N2 D2) (hlt : r1 < r2) : PInv w v n ps r1 r2 N1 D1 N2 D2 := ⟨h.le1, h.top1, h.le2, h.top2, hlt, h.sum, h.on1, h.on2⟩
theorem PUn.turn (h : PUn w v n ps r1 r2 N1 D1 N2 D2) (hlt : ¬ r1 < r2) : PInv w v n ps r2 r1 N2 D2 N1 D1 := ⟨h.le2, h.top2, h.le1, h.top1, by have := h.sum; lia, by have := h.sum; lia, h.on2, h.on1⟩
theorem on_snoc {N D : List Rat} (h : ∀ q ∈ ps, Cv.ev N q.1 = q.2 * Cv.ev D q.1) (hx : Cv.ev N x = y * Cv.ev D x) : ∀ q ∈ ps ++ [(x, y)], Cv.ev N q.1 = q.2 * Cv.ev D q.1 := fun q hq => by
 rcases List.mem_append.mp hq with z | z
 · exact h q z
 · rw [List.mem_singleton.mp z]; exact hx
theorem on_shift {c d : Rat} {N D N' D' : List Rat} (h : ∀ q ∈ ps, Cv.ev N q.1 = q.2 * Cv.ev D q.1) (hN : Shf c d N N') (hD : Shf c d D D') (hx : d * x = c) : ∀ q ∈ ps ++ [(x, y)], Cv.ev N' q.1 = q.2 * Cv.ev D' q.1 := on_snoc (fun q hq => by rw [hN.ev, hD.ev, h q hq]; grind) (by rw [hN.ev, hD.ev, hx]; grind)
theorem PInv.stepA {c d : Rat} (I : PInv w v n ps r1 r2 N1 D1 N2 D2) (hd : d ≠ 0) (hx : d * x = c) (h0 : Cv.ev N1 x = y * Cv.ev D1 x) (hN : Shf c d N2 N2') (hD : Shf c d D2 D2') : PUn w v n (ps ++ [(x, y)]) r1 (r2 + 2) N1 D1 N2' D2' :=
 ⟨I.le1, I.top1, I.le2.shift hN hD, I.top2.shift I.le2 hd hN hD, by have := I.sum; rw [List.length_append, List.length_singleton]; lia, on_snoc I.on1 h0, on_shift I.on2 hN hD hx⟩
theorem PInv.stepB {c d : Rat} (I : PInv w v n ps r1 r2 N1 D1 N2 D2) (hd : d ≠ 0) (hx : d * x = c) (h0 : Cv.ev N2 x = y * Cv.ev D2 x) (hN : Shf c d N1 N1') (hD : Shf c d D1 D1') : PUn w v n (ps ++ [(x, y)]) (r1 + 2) r2 N1' D1' N2 D2 :=
 ⟨I.le1.shift hN hD, I.top1.shift I.le1 hd hN hD, I.le2, I.top2, by have := I.sum; rw [List.length_append, List.length_singleton]; lia, on_shift I.on1 hN hD hx, on_snoc I.on2 h0⟩
theorem PInv.stepC {c d m a b s : Rat} (I : PInv w v n ps r1 r2 N1 D1 N2 D2) (hd : d ≠ 0) (hx : d * x = c) (ha : a ≠ 0) (hm : m ≠ 0) (ea : a = s * (Cv.ev N1 x - y * Cv.ev D1 x)) (eb : b = s * (Cv.ev N2 x - y * Cv.ev D2 x)) (hN1 : Shf c d N1 N1') (hD1 : Shf c d D1 D1') (hN2 : Mix m a b N1 N2 N2') (hD2 : Mix m a b D1 D2 D2') : PUn w v n (ps ++ [(x, y)]) (r1 + 2) r2 N1' D1' N2' D2' := by
 refine ⟨I.le1.shift hN1 hD1, I.top1.shift I.le1 hd hN1 hD1, RkLe.mix I.le1 I.le2 I.lt hm hN2 hD2, RkTop.mix I.top2 I.le1 I.lt ha hN2 hD2, by have := I.sum; rw [List.length_append, List.length_singleton]; lia, on_shift I.on1 hN1 hD1 hx, ?_⟩
 have can : ∀ {p q : Rat}, m * p = m * q → p = q := fun {p q} h => by
   rcases Rat.mul_eq_zero.mp (show m * (p - q) = 0 by grind) with z | z
   · exact absurd z hm
   · grind
 refine on_snoc (fun q hq => can ?_) (can ?_)
 · have e1 := hN2.ev q.1
   have e2 := hD2.ev q.1
   rw [I.on1 q hq, I.on2 q hq] at e1
   rw [e1, show m * (q.2 * Cv.ev D2' q.1) = q.2 * (m * Cv.ev D2' q.1) by grind, e2]
   grind
 · have e1 := hN2.ev x
   have e2 := hD2.ev x
   rw [e1, show m * (y * Cv.ev D2' x) = y * (m * Cv.ev D2' x) by grind, e2, ea, eb]
   grind
theorem PInv.fin (I : PInv w v n ps r1 r2 N1 D1 N2 D2) (hl : ps.length = n) : r1 ≤ 1 := by
 have := I.sum
 have := I.lt
 lia
theorem PInv.below (I : PInv w v n ps r1 r2 N1 D1 N2 D2) (hl : ps.length = n) (hwn : w ≤ n) (hn : (ps.map Prod.fst).Nodup) : Cv.strip D1 ≠ [] := fun z => by
 have hr := I.fin hl
 have zD : ∀ x, Cv.ev D1 x = 0 := fun x => by rw [← Cv.ev_strip, z]; rfl
 have eN := ev_cut N1 n fun j hj => I.le1.1 j (by lia)
 have zN : ∀ x, Cv.ev N1 x = 0 := fun x => by
   rw [← eN]
   refine vanish_all (ps.map Prod.fst) hn (by rw [List.length_map, List.length_take]; lia) (fun q hq => ?_) x
   obtain ⟨p, hp, rfl⟩ := List.mem_map.mp hq
   rw [eN, I.on1 p hp, zD, Rat.mul_zero]
 exact I.ne fun x => by rw [zD x, zN x, Rat.mul_zero, Rat.zero_mul]
end
end L2
namespace L2
section
variable {w v : Int} {n : Nat} {ps : List (Rat × Rat)} {r1 r2 : Int} {N1 D1 N2 D2 : List Rat}
theorem quo_zero {c : Rat} {L : List Rat} {a j : Nat} (h : a ≤ j + 1) : (quo c (L.take a)).getD j 0 = 0 := by
 rw [List.getD_eq_getElem?_getD, List.getElem?_eq_none]
 · rfl
 · rw [quo_length, List.length_take]; lia
theorem lines_of : ∀ (qs : List Rat) {L : List Rat}, qs.Nodup → (∀ q ∈ qs, Cv.ev L q = 0) → ∃ M : List Rat, ∀ x, Cv.ev L x = prV x qs * Cv.ev M x
 | [], L, _, _ => ⟨L, fun x => by show _ = 1 * _; rw [Rat.one_mul]⟩
 | c :: r, L, hn, h => by
   rw [List.nodup_cons] at hn
   have h0 := h c (List.mem_cons_self ..)
   have e : ∀ x, Cv.ev L x = (x - c) * Cv.ev (quo c L) x := fun x => by rw [quo_ev c x L, h0, Rat.zero_add]
   obtain ⟨M, hM⟩ := lines_of r (L := quo c L) hn.2 fun q hq => by
     have hq0 := h q (List.mem_cons_of_mem _ hq)
     rw [e q] at hq0
     rcases Rat.mul_eq_zero.mp hq0 with z | z
     · exact absurd (show q = c by grind) fun z => hn.1 (z ▸ hq)
     · exact z
   exact ⟨M, fun x => by rw [e x, hM x]; show _ = (x - c) * prV x r * _; grind⟩
theorem PInv.once (I : PInv w v n ps r1 r2 N1 D1 N2 D2) (hw : w + v = n + 1) (hn : (ps.map Prod.fst).Nodup) (hD : Cv.strip D1 ≠ []) {x : Rat} {A B : List Rat} (hA : ∀ t, Cv.ev N1 t = (t - x) * Cv.ev A t) (hB : ∀ t, Cv.ev D1 t = (t - x) * Cv.ev B t) (hm : ∃ y, (x, y) ∈ ps) : ¬ (Cv.ev A x = 0 ∧ Cv.ev B x = 0) := fun ⟨a0, b0⟩ => by
 have eN := ev_cut N1 (r1 / 2 + w).toNat fun j hj => I.le1.1 j (by lia)
 have eD := ev_cut D1 ((r1 - 1) / 2 + v).toNat fun j hj => I.le1.2 j (by lia)
 have qN : ∀ t, Cv.ev (quo x (N1.take (r1 / 2 + w).toNat)) t = Cv.ev A t := line_cancel (p := x) fun t => by
   have := quo_ev x t (N1.take (r1 / 2 + w).toNat)
   rw [eN, eN, hA x] at this
   rw [← hA t, this]; grind
 have qD : ∀ t, Cv.ev (quo x (D1.take ((r1 - 1) / 2 + v).toNat)) t = Cv.ev B t := line_cancel (p := x) fun t => by
   have := quo_ev x t (D1.take ((r1 - 1) / 2 + v).toNat)
   rw [eD, eD, hB x] at this
   rw [← hB t, this]; grind
 have z := I.least hw hn (r := r1 - 2) (N := quo x (N1.take (r1 / 2 + w).toNat)) (D := quo x (D1.take ((r1 - 1) / 2 + v).toNat)) (by lia) ⟨fun j hj => quo_zero (by lia), fun j hj => quo_zero (by lia)⟩ (fun q hq => by
   rw [qN, qD]
   by_cases e : q.1 = x
   · rw [e, a0, b0, Rat.mul_zero]
   · have := I.on1 q hq
     rw [hA, hB] at this
     have ne : q.1 - x ≠ 0 := fun z => e (by grind)
     rcases Rat.mul_eq_zero.mp (show (q.1 - x) * (Cv.ev A q.1 - q.2 * Cv.ev B q.1) = 0 by grind) with z | z
     · exact absurd z ne
     · grind)
 have zD : ∀ t, Cv.ev D1 t = Cv.ev [] t := fun t => by rw [hB t, ← qD t, (z t).2, Rat.mul_zero]; rfl
 exact hD (by
   have := good_one (l := Cv.strip D1) (m := []) (good_strip D1) (good_strip []) fun t => by rw [Cv.ev_strip]; exact zD t
   exact this)
end
end L2
namespace L2
open PySem PySem.Spec PyProof.Rows
theorem paired_perm {α β : Type} {F : α → β → Prop} {l' m' : List β} (h : l'.Perm m') : ∀ {l : List α}, Paired F l l' → ∃ m, m.Perm l ∧ Paired F m m' := by
 induction h with
 | nil => exact fun {l} p => ⟨l, List.Perm.refl _, p⟩
 | cons x _ ih =>
   intro l p
   cases p with
   | @cons a _ as _ h t =>
     obtain ⟨m, hm, pm⟩ := ih t
     exact ⟨a :: m, hm.cons a, .cons h pm⟩
 | swap x y l =>
   intro k p
   cases p with
   | @cons a _ as _ h t =>
     cases t with
     | @cons b _ bs _ h2 t2 => exact ⟨b :: a :: bs, List.Perm.swap .., .cons h2 (.cons h t2)⟩
 | trans _ _ i1 i2 =>
   intro l p
   obtain ⟨m, hm, pm⟩ := i1 p
   obtain ⟨m2, hm2, pm2⟩ := i2 pm
   exact ⟨m2, hm2.trans hm, pm2⟩
section
variable {prog : Program} {w : World} {A : Around} {E : Value → Shared → Prop} {s : Shared} {a kS : Addr} {vs : List Value} {kz : List Int} {keys : Array Value} {e e1 : Nat} {P : PySem.Fin → Shared → Prop}
set_option maxHeartbeats 4000000 in
theorem srt_tail {st : SortSt} (nk : s.heap.get? kS = some (seqObj "list" keys e)) (na : s.heap.get? a = some (seqObj "list" #[] e1)) (hka : kS ≠ a)
   (hk : IntsAre keys.toList kz) (hlen : kz.length = vs.length) (h64 : vs.length < 64) (hp : (arrOf st).Perm (keys.zip vs.toArray)) (hs : SortedTo (arrOf st) (arrOf st).size) (hfl : failedOf st = none)
   (h : ∀ h' out c, (∀ b o, b ≠ kS → b ≠ a → s.heap.get? b = some o → h'.get? b = some o) → h'.get? a = some (seqObj "list" out c) → KskOut false kz vs out.toList → P (.done (.ret .none)) { s with heap := h' }) :
   wpAny (model prog w) A (ksk_tail a false e1 (.ref kS) st) P E s := by
 have hsz : keys.size = vs.length := by
   have h1 := hk.length
   rw [Array.length_toList] at h1
   lia
 have hsz2 : (arrOf st).size = vs.length := by rw [hp.size_eq, Array.size_zip, hsz, List.size_toArray, Nat.min_self]
 have hout : ((arrOf st).map (·.2)).size = vs.length := by rw [Array.size_map]; exact hsz2
 have s1 := Heap.SameBut.update s.heap kS (Obj.mapSeq fun _ => (#[] : Array Value))
 have na1 : (s.heap.update kS (Obj.mapSeq fun _ => (#[] : Array Value))).get? a = some (seqObj "list" #[] e1) := (s1.2 a hka.symm).trans na
 have s2 := Heap.SameBut.update (s.heap.update kS (Obj.mapSeq fun _ => (#[] : Array Value))) a (Obj.mapSeq fun _ => (arrOf st).map (·.2))
 obtain ⟨c2, hc2⟩ : ∃ c2, ((s.heap.update kS (Obj.mapSeq fun _ => (#[] : Array Value))).update a (Obj.mapSeq fun _ => (arrOf st).map (·.2))).get? a = some (seqObj "list" ((arrOf st).map (·.2)) c2) := ⟨_, get?_update_seq na1 fun _ => (arrOf st).map (·.2)⟩
 unfold ksk_tail
 try dsimp only
 refine wpAny_bind (listUpdate_at nk rfl ?_ (by rw [hsz, sizeLine_eq]; lia) (Nat.zero_le _))
 refine wpAny_bind (wpAny_letGo ?_)
 refine wpAny_bind (seqEpoch_at na1 rfl ?_)
 refine wpAny_bind (listUpdate_at na1 rfl ?_ (Nat.zero_le _) (Nat.le_trans (Nat.le_of_eq hout) (by rw [sizeLine_eq]; lia)))
 rw [hfl]
 simp only [bne_self_eq_false, Bool.false_eq_true, if_false]
 exact wpAny_pure (h _ _ c2 (fun b o h1 h2 q => (s2.2 b h2).trans ((s1.2 b h1).trans q)) hc2 (ksk_out (b := false) hk hp hs))
set_option maxHeartbeats 4000000 in
theorem srt_end (nk : s.heap.get? kS = some (seqObj "list" keys e)) (na : s.heap.get? a = some (seqObj "list" #[] e1)) (hka : kS ≠ a)
   (hk : IntsAre keys.toList kz) (hlen : kz.length = vs.length) (h64 : vs.length < 64)
   (h : ∀ h' out c, (∀ b o, b ≠ kS → b ≠ a → s.heap.get? b = some o → h'.get? b = some o) → h'.get? a = some (seqObj "list" out c) → KskOut false kz vs out.toList → P (.done (.ret .none)) { s with heap := h' }) :
   wpAny (model prog w) A (ksk_end a false vs.toArray e1 (.ref kS) keys) P E s := by
 have hsz : keys.size = vs.length := by
   have h1 := hk.length
   rw [Array.length_toList] at h1
   lia
 have hzs : (keys.zip vs.toArray).size = vs.length := by rw [Array.size_zip, hsz, List.size_toArray, Nat.min_self]
 unfold ksk_end
 try dsimp only
 simp only [Bool.false_eq_true, if_false]
 by_cases h2 : vs.toArray.size < 2
 · rw [if_pos h2, if_pos h2]
   refine wpAny_bind (wpAny_pure ?_)
   rw [StateT.run_pure]
   refine wpAny_bind (wpAny_pure ?_)
   try dsimp only
   refine srt_tail (st := SortSt.mk' general' (keys.zip vs.toArray) #[] 7 none) nk na hka hk hlen h64 (Array.Perm.refl _) ?_ rfl h
   intro i j hij hj
   have hj2 : j < (keys.zip vs.toArray).size := hj
   rw [hzs] at hj2
   rw [List.size_toArray] at h2
   have : i = j := by lia
   subst this
   exact Int.le_refl _
 · rw [if_neg h2, if_neg h2]
   rw [List.size_toArray] at h2
   rw [ksk_kind hk (by rw [hsz]; lia)]
   refine wpAny_bind (wpAny_pure ?_)
   refine wpAny_bind (wpAny_mono (wpS_sortRuns (a₀ := keys.zip vs.toArray) (st := SortSt.mk' oneType' (keys.zip vs.toArray) #[] 7 none)
     (Q := fun _ st' => (arrOf st').Perm (keys.zip vs.toArray) ∧ failedOf st' = none ∧ SortedTo (arrOf st') (keys.zip vs.toArray).size)
     (ksk_intKeys hk) ⟨Array.Perm.refl _, rfl, rfl, rfl⟩ (by rw [hzs]; lia) (by rw [hzs]; exact h64) fun st' a1 a2 a3 => ⟨a1, a2, a3⟩) ?_ fun _ _ e => e)
   rintro ⟨⟨⟩, st'⟩ s' ⟨rfl, hp, hf, hs⟩
   try dsimp only
   exact srt_tail nk na hka hk hlen h64 hp (by rw [hp.size_eq]; exact hs) hf h
end
section
variable {X : Cx} {pins : List (Addr × Obj)} {σ : St} {H : Hp} {A : Around} {E : Value → Shared → Prop} {a kS : Addr} {vs : List Value} {kz : List Int} {e1 : Nat} {P : PySem.Fin → Shared → Prop} {f : Value}
set_option maxHeartbeats 4000000 in
theorem srt_rest {s : Shared} (fa : FpOk X pins H a) (fk : FpOk X pins H kS) (hka : kS ≠ a) (I : Inv X (pins ++ [(a, seqObj "list" #[] e1), (kS, seqObj "list" #[] 0)]) σ H s) (hlen : kz.length = vs.length) (h64 : vs.length < 64)
   (turn : ∀ (i : Nat) (v : Value) (k : Int), vs[i]? = some v → kz[i]? = some k → ∀ (pins' : List (Addr × Obj)) (s' : Shared), Inv X pins' σ H s' → wpAny (model X.prog X.w) A (call f [v]) (fun u s'' => (∃ t, u = .int k t) ∧ Inv X pins' σ H s'') (fun _ _ => False) s')
   (h : ∀ s' out c, Inv X pins σ H s' → s'.heap.get? a = some (seqObj "list" out c) → KskOut false kz vs out.toList → P (.done (.ret .none)) s') :
   wpAny (model X.prog X.w) A (ksk_rest a f false vs.toArray e1 (.ref kS)) P E s := by
 unfold ksk_rest
 refine wpAny_bind (wpAny_rule ?_)
 first
   | rw [List.forIn_toArray]
   | (rw [← Array.forIn_toList]; simp only [List.toList_toArray])
   | rw [← Array.forIn_toList]
 have unp : ∀ {kA : Array Value} {e : Nat} {s' : Shared}, Inv X (pins ++ [(a, seqObj "list" #[] e1), (kS, seqObj "list" kA e)]) σ H s' → Inv X pins σ H s' ∧ s'.heap.get? a = some (seqObj "list" #[] e1) ∧ s'.heap.get? kS = some (seqObj "list" kA e) := fun {kA e s'} J =>
   ⟨J.pins_of fun p hp => J.pin p (List.mem_append_right _ (List.mem_append_left _ hp)), (J.pin (a, seqObj "list" #[] e1) (List.mem_append_right _ (List.mem_append_right _ (.head _)))).1, (J.pin (kS, seqObj "list" kA e) (List.mem_append_right _ (List.mem_append_right _ (.tail _ (.head _))))).1⟩
 refine wpAny_bind (ksk_fold (fun i s' => ∃ kA e, Inv X (pins ++ [(a, seqObj "list" #[] e1), (kS, seqObj "list" kA e)]) σ H s' ∧ IntsAre kA.toList (kz.take i)) vs 0 s ⟨#[], 0, I, by simpa using IntsAre.nil⟩ ?step ?done)
 case step =>
   rintro j x s' hx ⟨kA, e, I', hk⟩
   simp only [Nat.zero_add] at hk ⊢
   have hj : j < vs.length := (List.getElem?_eq_some_iff.mp hx).1
   obtain ⟨k, hkj⟩ : ∃ k, kz[j]? = some k := ⟨_, List.getElem?_eq_getElem (by lia)⟩
   have hz : kA.size ≤ vs.length := by
     have h1 := hk.length
     rw [Array.length_toList, List.length_take] at h1
     lia
   refine wpAny_bind (wpAny_attempt (wpAny_mono (turn j x k hx hkj _ s' I') (fun v s'' he => ?_) fun _ _ hF => hF.elim))
   obtain ⟨⟨t2, rfl⟩, I2⟩ := he
   obtain ⟨I3, pa, pk⟩ := unp I2
   try dsimp only
   have s1 := Heap.SameBut.update s''.heap kS (Obj.mapSeq (·.push (.int k t2)))
   obtain ⟨c2, hc2⟩ : ∃ c2, (s''.heap.update kS (Obj.mapSeq (·.push (.int k t2)))).get? kS = some (seqObj "list" (kA.push (.int k t2)) c2) := ⟨_, get?_update_seq pk (·.push (.int k t2))⟩
   have ek : kz.take (j + 1) = kz.take j ++ [k] := by rw [List.take_add_one, hkj]; simp
   have ea : (kA.push (Value.int k t2)).toList = kA.toList ++ [Value.int k t2] := by simp
   refine wpAny_bind (listUpdate_at pk rfl ?_ (by rw [sizeLine_eq]; lia) (Nat.le_trans (Nat.le_of_eq (Array.size_push ..)) (by rw [sizeLine_eq]; lia)))
   refine wpAny_pure ⟨rfl, kA.push (.int k t2), c2, ?_, by rw [ea, ek]; exact ksk_snoc hk⟩
   have I4 : Inv X pins σ H { s'' with heap := s''.heap.update kS (Obj.mapSeq (·.push (.int k t2))), toks := s''.toks } := I3.turned (it := kS) (fun b o hb q => (s1.2 b hb).trans q) fk.1 fk.2.1 fk.2.2.2.1 fk.2.2.2.2.1 fk.2.2.2.2.2
   refine I4.pins_of fun p hp => ?_
   rcases List.mem_append.mp hp with z | z
   · exact I4.pin p (List.mem_append_right _ z)
   · rcases List.mem_cons.mp z with rfl | z
     · exact ⟨(s1.2 a hka.symm).trans pa, fa.1, fa.2.1, fa.2.2.1, fun v z => by cases z⟩
     · rw [List.mem_singleton.mp z]
       exact ⟨hc2, fk.1, fk.2.1, fk.2.2.1, fun v z => by cases z⟩
 case done =>
   rintro s' ⟨kA, e, I', hk⟩
   have hk' : IntsAre kA.toList kz := by
     have e3 : kz.take (0 + vs.length) = kz := List.take_of_length_le (by lia)
     rw [e3] at hk
     exact hk
   obtain ⟨I3, pa, pk⟩ := unp I'
   try dsimp only
   refine wpAny_bind (listItems_at pk rfl ?_)
   refine srt_end pk pa hka hk' hlen h64 fun h' out c keep hget ko => h _ out c ?_ hget ko
   exact I3.turnedL (t' := s'.toks) (ch := [kS, a]) (fun b o hb q => keep b o (fun z => hb (by rw [z]; simp)) (fun z => hb (by rw [z]; simp)) q) fun b hb => by
     rcases List.mem_cons.mp hb with rfl | hb
     · exact fk
     · rw [List.mem_singleton.mp hb]; exact fa
end
theorem paired_zip {xs : List V} {us : List Value} (r : Vals xs us) : ∀ kz : List Int, Paired (fun (p : Int × V) (q : Int × Value) => p.1 = q.1 ∧ RelV p.2 q.2) (kz.zip xs) (kz.zip us) := by
 induction r with
 | nil => intro kz; rw [List.zip_nil_right, List.zip_nil_right]; exact .nil
 | cons h _ ih =>
   intro kz
   cases kz with
   | nil => exact .nil
   | cons k kz => exact .cons ⟨rfl, h⟩ (ih kz)
theorem paired_fst {zs : List (Int × V)} {ps : List (Int × Value)} (h : Paired (fun (p : Int × V) (q : Int × Value) => p.1 = q.1 ∧ RelV p.2 q.2) zs ps) : zs.map Prod.fst = ps.map Prod.fst := by
 induction h with
 | nil => rfl
 | cons h _ ih => rw [List.map_cons, List.map_cons, ih, h.1]
theorem paired_snd {zs : List (Int × V)} {ps : List (Int × Value)} (h : Paired (fun (p : Int × V) (q : Int × Value) => p.1 = q.1 ∧ RelV p.2 q.2) zs ps) : Vals (zs.map Prod.snd) (ps.map Prod.snd) := by
 induction h with
 | nil => exact .nil
 | cons h _ ih => exact .cons h.2 ih
theorem Inv.own {X : Cx} {pins : List (Addr × Obj)} {σ : St} {H : Hp} {s : Shared} {D : Addr} {o : HO} (J : Inv X pins σ H s) (fp : FpOk X pins H D) (new : ObjOk X.prog X.w (upd H D o) s.heap D o) : Inv X pins σ (upd H D o) s := by
 have nD : ∀ {b : Addr} {u : HO}, H b = some u → b ≠ D := fun {b u} e z => by rw [z, fp.1] at e; cases e
 refine J.step (g' := s.gens) (d' := s.drawn) (t' := s.toks) (h' := s.heap) (ch := [D]) (fun b hb => ?_) (fun b o _ _ _ e _ => e) (fun b o _ _ _ e _ => ⟨o.slots, e⟩) (fun b o hc e n => by rw [upd_ne (fun z => hc (by simp [z]))]; exact n)
   (fun b o _ e => ⟨o, e⟩) (fun b xs e => by rw [upd_ne (nD e)]; exact e) (fun b o u e => by rw [upd_ne (nD e)]; exact e) (fun b ps e => ⟨#[], by rw [upd_ne (nD e), e]; simp⟩) (fun m hm => hm) (fun b u e => ?_) J.bare
 · rw [List.mem_singleton.mp hb]
   exact ⟨fp.2.2.2.1, fp.2.1, fp.2.2.2.2.1, fp.2.2.2.2.2⟩
 · by_cases z : b = D
   · subst z
     rw [upd_same] at e
     cases e
     exact new
   · rw [upd_ne z] at e
     exact (J.hok b u e).stay (fun _ _ _ q => q) (fun c q => by rw [upd_ne (nD q)]; exact q) fun c xs q => by rw [upd_ne (nD q)]; exact q
section
variable {X : Cx} {pins : List (Addr × Obj)} {σ : St} {H : Hp} {E : Value → Shared → Prop} {kz : List Int} {f : Addr} {s : Shared} {l : Addr} {xs : List V} {Q : VK}
set_option maxHeartbeats 4000000 in
theorem srt_sorted (I : Inv X pins σ H s) (hl : SqL X.K H l xs) (hlen : kz.length = xs.length) (h64 : xs.length < 64)
   (turn : ∀ (i : Nat) (x : V) (k : Int) (v : Value), xs[i]? = some x → kz[i]? = some k → RelV x v → ∀ (pins' : List (Addr × Obj)) (s' : Shared), Inv X pins' σ H s' → wpAny (model X.prog X.w) X.A.in1.in1 (call (.ref f) [v]) (fun u s'' => (∃ t, u = .int k t) ∧ Inv X pins' σ H s'') (fun _ _ => False) s')
   (q : ∀ p ys, H p = none → (∃ zs : List (Int × V), zs.Perm (kz.zip xs) ∧ ys = zs.map Prod.snd ∧ zs.Pairwise fun p q => p.1 ≤ q.1) → Q (.ref p) (upd H p (.lst ys))) :
   wpAny (model X.prog X.w) X.A (call (.builtin "sorted") [.ref l] [(Str.ofString "key", .ref f)]) (EP X pins σ Q) E s := by
 obtain ⟨vs, r, ht, hz⟩ := I.list hl
 have hil : vs.length = xs.length := r.length.symm
 refine call_function_entry_kw kind_sorted plain_sorted entry_sorted (ksk_s1 _ _) ?_
 unfold Builtin.«sorted»
 refine wpAny_bind (m := checkCount "sorted" 1 1 _) (wpAny_pure ?_)
 refine wpAny_bind (collect_list ht.isList ?_ (by rw [sizeLine_eq]; lia))
 refine wpAny_bind (wpAny_newList ?_ (by rw [sizeLine_eq]; lia))
 have hsz : ((s.heap.push (seqObj "list" #[] 0)).update s.heap.objs.size (Obj.mapSeq (· ++ vs.toArray))).objs.size = s.heap.objs.size + 1 := by
   rw [Heap.size_update, size_push']
 have hoL : (((s.heap.push (seqObj "list" #[] 0)).update s.heap.objs.size (Obj.mapSeq (· ++ vs.toArray))).push (seqObj "list" vs.toArray 0)).get? (s.heap.objs.size + 1) = some (seqObj "list" vs.toArray 0) := by
   rw [← hsz]; exact Heap.get?_push_size _ rfl
 have keep : ∀ b o, s.heap.get? b = some o → (((s.heap.push (seqObj "list" #[] 0)).update s.heap.objs.size (Obj.mapSeq (· ++ vs.toArray))).push (seqObj "list" vs.toArray 0)).get? b = some o := fun b o q => by
   have hlt : b < s.heap.objs.size := Heap.lt_size q
   rw [Heap.get?_push_ne _ _ _ (by rw [hsz]; exact Nat.ne_of_lt (Nat.lt_succ_of_lt hlt)), Heap.get?_update_ne _ _ _ _ (Nat.ne_of_lt hlt), Heap.get?_push_ne _ _ _ (Nat.ne_of_lt hlt)]
   exact q
 show wpAny _ _ _ _ _ { s with heap := ((s.heap.push (seqObj "list" #[] 0)).update s.heap.objs.size (Obj.mapSeq (· ++ vs.toArray))).push (seqObj "list" vs.toArray 0) }
 rw [hsz]
 have I1 : Inv X pins σ H { s with heap := ((s.heap.push (seqObj "list" #[] 0)).update s.heap.objs.size (Obj.mapSeq (· ++ vs.toArray))).push (seqObj "list" vs.toArray 0), toks := s.toks } := I.kept keep
 have hDn : H (s.heap.objs.size + 1) = none := I.hok.fresh (Nat.le_succ _)
 have fa : FpOk X pins H (s.heap.objs.size + 1) := I.fpOk (Nat.le_succ _) hDn
 refine wpAny_bind (wpAny_holding (wpAny_call_entry_kw slot_list_sort ⟨_, hoL, rfl⟩ entry_list_sort ?body (ksk_l1 _ _)))
 case body =>
   show wpAny (model X.prog X.w) X.A.in1.in1 (Builtin.«list.sort» ⟨[.ref (s.heap.objs.size + 1)], [(Str.ofString "key", .ref f)]⟩) _ _ _
   rw [ksk_t1]
   generalize ((s.heap.push (seqObj "list" #[] 0)).update s.heap.objs.size (Obj.mapSeq (· ++ vs.toArray))).push (seqObj "list" vs.toArray 0) = h2 at hoL I1 ⊢
   have s1 := Heap.SameBut.update h2 (s.heap.objs.size + 1) (Obj.mapSeq fun _ => (#[] : Array Value))
   obtain ⟨e1, ho1⟩ : ∃ e1, (h2.update (s.heap.objs.size + 1) (Obj.mapSeq fun _ => (#[] : Array Value))).get? (s.heap.objs.size + 1) = some (seqObj "list" #[] e1) := ⟨_, get?_update_seq hoL fun _ => #[]⟩
   unfold ksk_tree
   refine wpAny_bind (listItems_at hoL rfl ?_)
   refine wpAny_bind (listUpdate_at hoL rfl ?_ (by rw [List.size_toArray, sizeLine_eq]; lia) (Nat.zero_le _))
   refine wpAny_bind (seqEpoch_at ho1 rfl ?_)
   refine wpAny_bind (wpAny_newTuple ?_ (by show vs.length ≤ _; rw [sizeLine_eq]; lia))
   refine wpAny_bind (wpAny_newList ?_ (Nat.zero_le _))
   refine wpAny_holding ?_
   have I2 := I1.turned (it := s.heap.objs.size + 1) (t' := s.toks) (h' := h2.update (s.heap.objs.size + 1) (Obj.mapSeq fun _ => (#[] : Array Value))) (fun b o hb q => (s1.2 b hb).trans q) fa.1 fa.2.1 fa.2.2.2.1 fa.2.2.2.2.1 fa.2.2.2.2.2
   have I2 : Inv X pins σ H { s with heap := h2.update (s.heap.objs.size + 1) (Obj.mapSeq fun _ => (#[] : Array Value)), toks := s.toks } := I2
   generalize h2.update (s.heap.objs.size + 1) (Obj.mapSeq fun _ => (#[] : Array Value)) = h3 at ho1 I2 ⊢
   have I3 : Inv X pins σ H { s with heap := h3.push (seqObj "tuple" vs.toArray 0), toks := s.toks } := I2.kept fun b o q => Heap.get?_push_of_some _ q
   have ho3 : (h3.push (seqObj "tuple" vs.toArray 0)).get? (s.heap.objs.size + 1) = some (seqObj "list" #[] e1) := Heap.get?_push_of_some _ ho1
   show wpAny _ _ _ _ _ { s with heap := (h3.push (seqObj "tuple" vs.toArray 0)).push (seqObj "list" #[] 0) }
   generalize h3.push (seqObj "tuple" vs.toArray 0) = h4 at I3 ho3 ⊢
   have hkn : H h4.objs.size = none := I3.hok.fresh (Nat.le_refl _)
   have fk : FpOk X pins H h4.objs.size := I3.fpOk (Nat.le_refl _) hkn
   have hka : h4.objs.size ≠ s.heap.objs.size + 1 := Nat.ne_of_gt (Heap.lt_size ho3)
   have I4 : Inv X pins σ H { s with heap := h4.push (seqObj "list" #[] 0), toks := s.toks } := I3.kept fun b o q => Heap.get?_push_of_some _ q
   refine srt_rest (a := s.heap.objs.size + 1) (kS := h4.objs.size) (e1 := e1) (kz := kz) (vs := vs) fa fk hka (I4.pins_of fun p hp => ?_) (by lia) (by lia) (fun i v k hv hk pins' s' I' => ?_) fun s' out c J hget ko => ⟨_, rfl, ?_⟩
   · rcases List.mem_append.mp hp with z | z
     · exact I4.pin p (List.mem_append_right _ z)
     · rcases List.mem_cons.mp z with rfl | z
       · exact ⟨Heap.get?_push_of_some _ ho3, fa.1, fa.2.1, fa.2.2.1, fun v z => by cases z⟩
       · rw [List.mem_singleton.mp z]
         exact ⟨Heap.get?_push_size _ rfl, fk.1, fk.2.1, fk.2.2.1, fun v z => by cases z⟩
   · have hi : i < xs.length := by have := (List.getElem?_eq_some_iff.mp hv).1; lia
     have hx : xs[i]? = some xs[i] := List.getElem?_eq_getElem hi
     obtain ⟨u, hu, ru⟩ := r.get hx
     rw [hv] at hu
     cases hu
     exact turn i _ k v hx hk ru pins' s' I'
   · refine wpAny_pure ⟨_, rfl, ?_⟩
     obtain ⟨ps, hperm, hout, hsorted⟩ := ko
     obtain ⟨zs, hz1, hz2⟩ := paired_perm hperm.symm (paired_zip r kz)
     have hvy := paired_snd hz2
     rw [← hout] at hvy
     have hyl : (zs.map Prod.snd).length ≤ sizeLine := by
       rw [List.length_map, hz1.length_eq, List.length_zip, sizeLine_eq]; lia
     have hpw : zs.Pairwise fun p q => p.1 ≤ q.1 := by
       have h1 : (zs.map Prod.fst).Pairwise (· ≤ ·) := by
         rw [paired_fst hz2]
         exact List.pairwise_map.mpr (hsorted.imp fun h => by simpa using h)
       exact List.pairwise_map.mp h1
     refine ⟨.ref (s.heap.objs.size + 1), upd H (s.heap.objs.size + 1) (.lst (zs.map Prod.snd)), J.own fa ⟨hyl, out.toList, c, hvy, ?_⟩, rfl, q _ _ hDn ⟨zs, hz1, rfl, hpw⟩⟩
     rw [hget]
end
end L2
namespace L2
open PySem PySem.Spec PyProof.Rows
theorem on_off {cs : List Addr} {H : Hp} : onC cs H (offC cs H) = H := by
 funext b
 by_cases h : b ∈ cs
 · rw [on_in h]
 · rw [on_out h, off_out h]
theorem off_trk {cs : List Addr} {os : Addr → Obj} {H : Hp} (hn : ∀ c ∈ cs, H c = none) : offC cs (trkC cs os H) = H := by
 funext b
 by_cases h : b ∈ cs
 · rw [off_in h, hn b h]
 · rw [off_out h, trk_out h]
theorem lam_fn {P : Program} {w : World} {K : PySem.W.Frag} {mg : Str → Option Value} {base : Heap} {k : Nat} {f c' Pt : Addr} {q : Str} {params : Arguments} {body : Expr} {scope : Scope} {cl : List (Str × Addr)} {pm ctv : Value} {env : Env} {N ps fr : List Str} {σ : St} {os : Addr → Obj} {H1 H2 : Hp} {ws : List V} {Ok : List V → V → Prop}
   (LN : LamNew H1 H2 Pt q f c' (PySem.W.kla_fn "<lambda>" q params body scope cl pm (.ref c') ctv)) (C : ClOk env cl) (hfree : ∀ x ∈ scope.names, x.2 = .free → ∃ c, (x.1, c) ∈ cl) (hcn : ∀ c ∈ cl.map (·.2), H2 c = none) (hci : ClIs N σ env.scope cl os)
   (S : LamSc scope ps) (hlk : ∀ us : List Value, us.length = ps.length → ∀ (j : Nat) (x : Str) (u : Value), ps[j]? = some x → us[j]? = some u → (ps.zip us).reverse.lookup x = some u)
   (cap : Cap env.scope scope N σ fr ws)
   (hbody : ∀ (A : Around) (outer : List Env) (s : Shared) (E : XK) (vs : List V) (r : V) (H' : Hp) (Q : VK), Room k (A.deeper (PySem.W.envX q scope s.heap.objs.size f (.ref c') cl)) → vs.length = ps.length → Ok vs r → Same H2 H' → Q r H' →
     ∃ t, PE (cxLam CX0 P w K mg base (ps ++ fr) q scope f (.ref c') cl A outer s H' E) body t ∧ t (vs.map some ++ ws.map some) H' Q) :
   FnOk P w K mg base CX0 (k + 1) f (PySem.W.kla_fn "<lambda>" q params body scope cl pm (.ref c') ctv) ps (fun vs H Q _ => vs.length = ps.length ∧ Same (trkC (cl.map (·.2)) os H2) H ∧ ∃ r, Ok vs r ∧ Q r H) := by
 have old : Same H2 (trkC (cl.map (·.2)) os H2) := Same.trk hcn
 refine lam_of (N := ps ++ fr) (fun vs H Q E h => h.1) hlk fun A outer s H vs Q E hr h => ?_
 obtain ⟨hl, hm, r, ho, hq⟩ := h
 have hmo := old.trans hm
 have L := lamOk_of S C hfree hci cap hl hm
 have sOff : Same H2 (offC (cl.map (·.2)) H) := Same.untrk hm hcn
 obtain ⟨t, h1, h2⟩ := hbody A outer s E vs r (offC (cl.map (·.2)) H) (fun v H' => (∀ c ∈ cl.map (·.2), H' c = none) → Q v (onC (cl.map (·.2)) H H')) hr hl ho sOff fun _ => by rw [on_off]; exact hq
 exact ⟨hmo _ _ LN.lam, hmo _ _ LN.cod, _, L, t, h1, h2, fun e s' z => z.elim⟩
abbrev Cx.deep (X : Cx) (A : Around) : Cx := { X with A := A }
theorem Inv.deep {X : Cx} {pins : List (Addr × Obj)} {σ : St} {H : Hp} {s : Shared} {A : Around} (I : Inv X pins σ H s) (h1 : A.handled = X.A.handled) (h2 : A.frames = X.A.frames) : Inv (X.deep A) pins σ H s :=
 ⟨⟨I.ok.mod, I.ok.kind, I.ok.glob, I.ok.blt, I.ok.above, I.ok.inj, I.ok.has, I.ok.cab, fun z => by rw [show (X.deep A).A.handled = A.handled from rfl, h1]; exact I.ok.hd z, by rw [show (X.deep A).A.frames = A.frames from rfl, h2]; exact I.ok.frames, I.ok.stk, I.ok.exf, I.ok.bs, I.ok.bsz, I.ok.noex, I.ok.exfs, I.ok.funs, I.ok.frf⟩, I.os, I.bare, I.base, I.loc, I.cell, I.free, I.freeC, I.pin, I.hok, I.len⟩
theorem Inv.undeep {X : Cx} {pins : List (Addr × Obj)} {σ : St} {H : Hp} {s : Shared} {A : Around} (I : Inv (X.deep A) pins σ H s) (h1 : A.handled = X.A.handled) (h2 : A.frames = X.A.frames) : Inv X pins σ H s :=
 ⟨⟨I.ok.mod, I.ok.kind, I.ok.glob, I.ok.blt, I.ok.above, I.ok.inj, I.ok.has, I.ok.cab, fun z => by rw [← h1]; exact I.ok.hd z, by rw [← h2]; exact I.ok.frames, I.ok.stk, I.ok.exf, I.ok.bs, I.ok.bsz, I.ok.noex, I.ok.exfs, I.ok.funs, I.ok.frf⟩, I.os, I.bare, I.base, I.loc, I.cell, I.free, I.freeC, I.pin, I.hok, I.len⟩
theorem run_lam {X : Cx} {pins : List (Addr × Obj)} {σ : St} {H : Hp} {s : Shared} {A : Around} {k : Nat} {f : Addr} {fd : FuncData} {ps : List Str} {us : List Value} {vs : List V} {cl : List (Str × Addr)} {kk : Int} (hA1 : A.handled = X.A.handled) (hA2 : A.frames = X.A.frames) (hr : Room k A) (hb : Binds X.K fd ps []) (hfn : ∀ y, X.fn y = true) (I : Inv X pins σ H s) (r : Vals vs us) (C : ClOk X.env cl)
   (h : ∀ os, (∀ c ∈ cl.map (·.2), H c = none) → ClIs X.N σ X.env.scope cl os → ∃ sp, FnOk X.prog X.w X.K X.mg X.base CX0 k f fd ps sp ∧ ∀ Q : VK, Q (.int kk) (trkC (cl.map (·.2)) os H) → sp vs (trkC (cl.map (·.2)) os H) Q (fun _ _ _ => False)) :
   wpAny (model X.prog X.w) A (call (.ref f) us) (fun u s' => (∃ t, u = .int kk t) ∧ Inv X pins σ H s') (fun _ _ => False) s := by
 have F : FnOk X.prog X.w X.K X.mg X.base CX0 k f fd ps (fun vs H Q E => ∃ sp, FnOk X.prog X.w X.K X.mg X.base CX0 k f fd ps sp ∧ sp vs H Q E) :=
   ⟨fun vs H Q E ⟨sp, F, h⟩ => F.len vs H Q E h, fun A outer s H args us vs Q E hr he hb hv ⟨sp, F, h⟩ => F.run A outer s H args us vs Q E hr he hb hv h⟩
 have J : Inv ((X.nox).deep A) pins σ H s := (I.wish _).deep hA1 hA2
 refine wpAny_mono (run_fnT (X := (X.nox).deep A) (CX := CX0) (E := fun _ _ _ => False) (Q := fun v H' => v = .int kk ∧ H' = H) F hr hb hfn (fun e H' s' _ z => z.elim) J r C fun os hn hi => ?_) (fun u s' ⟨v, H', I', rv, ev, eH⟩ => ?_) fun _ _ z => z
 · obtain ⟨sp, F1, q⟩ := h os hn hi
   exact ⟨sp, F1, q _ ⟨fun c hc => trk_in hc, rfl, off_trk hn⟩⟩
 · subst ev
   subst eH
   obtain ⟨t, rfl⟩ := rv
   exact ⟨⟨t, rfl⟩, (I'.undeep hA1 hA2).unwish⟩
theorem callWith_builtin_kw {M : Model} {A : Around} {E : Value → Shared → Prop} {s : Shared} {pos : Pos} {id : String} {first : List Value} {args : List (Bool × Sem Value)} {keywords : List (Option Str × Sem Value)} {Q : Value → Shared → Prop} (hplain : (args.any (·.1) || keywords.any (·.1.isNone)) = false)
   (h : wpAny M A (evalArgs (.builtin id) true args keywords) (fun a s₁ => wpAny M A (call (.builtin id) (first ++ a.pos) a.kw) Q E s₁) E s) :
   wpAny M A (callWith pos (.builtin id) first args keywords) Q E s := by
 unfold callWith
 refine wpAny_bind (wpAny_holding (wpAny_mono h (fun a s₁ h₁ => wpAny_bind (wpAny_standAt ?_)) fun _ _ x => x))
 simp only [hplain]
 refine wpAny_bind (wpAny_pure ?_)
 exact wpAny_bind (wpAny_mono h₁ (fun r s₂ hr => wpAny_bind (wpAny_holding (wpAny_point (wpAny_pure hr)))) fun _ _ x => x)
def tSort (env : Env) (N : List Str) (P : Program) (w : World) (K : PySem.W.Frag) (mg : Str → Option Value) (base : Heap) (k : Nat) (te tk : TE) : TE := fun σ H Q => te σ H fun x H1 => ∃ l, x = .ref l ∧ tk σ H1 fun y H2 => ∃ (f : Addr) (fd : FuncData) (ps : List Str) (cl : List (Str × Addr)) (xs : List V) (kz : List Int), y = .ref f ∧ SqL K H2 l xs ∧ kz.length = xs.length ∧ xs.length < 64 ∧ Binds K fd ps [] ∧ ClOk env cl ∧
 (∀ os, (∀ c ∈ cl.map (·.2), H2 c = none) → ClIs N σ env.scope cl os → ∃ sp, FnOk P w K mg base CX0 k f fd ps sp ∧ ∀ (i : Nat) (x : V) (kk : Int), xs[i]? = some x → kz[i]? = some kk → ∀ Q' : VK, Q' (.int kk) (trkC (cl.map (·.2)) os H2) → sp [x] (trkC (cl.map (·.2)) os H2) Q' (fun _ _ _ => False)) ∧
 ∀ (p : Addr) (ys : List V), H2 p = none → (∃ zs : List (Int × V), zs.Perm (kz.zip xs) ∧ ys = zs.map Prod.snd ∧ zs.Pairwise fun p q => p.1 ≤ q.1) → Q (.ref p) (upd H2 p (.lst ys))
theorem pe_sortK (K : PySem.W.Frag) {X : Cx} {e kx : Expr} {te tk : TE} {k m : Nat} {p pos kp : Pos} (hr : Room m X.A) (hfn : ∀ y, X.fn y = true) (hg : Gl X "sorted") (hm : X.mg "sorted" = none) (he : PE X e te) (hk : PE X kx tk) (hkm : k + 2 ≤ m := by decide) (hs : starEach [e] X.env = [(false, eval e X.env)] := by rfl) (e0 : X.K = K := by rfl) :
   PE X (.Call (.Name "sorted" p) [e] [⟨some "key", kx, kp⟩] pos) (tSort X.env X.N X.prog X.w K X.mg X.base k te tk) := by
 subst e0
 intro pins s σ H Q I h
 refine wpAny_Call_Name_kw (ld_blt I hg hm (show bootBuiltins "sorted" = some (.builtin "sorted") by with_unfolding_all rfl) ?_ (by decide) (by decide))
 rw [hs]
 show wpAny _ _ (callWith pos (.builtin "sorted") [] [(false, eval e X.env)] [(some "key", do let v ← eval kx X.env; standAt pos; pure v)]) _ _ s
 refine callWith_builtin_kw rfl (evalArgs_kw rfl ?_)
 refine Calls.spliced_cons (thn (he pins s σ H _ I h) fun u s1 ⟨x, H1, I1, r1, q1⟩ => Calls.spliced_nil ?_)
 obtain ⟨l, rfl, q1⟩ := q1
 cases r1
 show wpAny _ _ (evalAll [do let v ← eval kx X.env; standAt pos; pure v]) _ _ s1
 refine wpAny_evalAll_cons (wpAny_bind (thn (hk pins s1 σ H1 _ I1 q1) fun u s2 ⟨y, H2, I2, r2, q2⟩ => wpAny_bind (wpAny_standAt (wpAny_pure (wpAny_evalAll_nil ?_)))))
 obtain ⟨f, fd, ps, cl, xs, kz, rfl, hl, hlen, h64, hb, C, hF, q⟩ := q2
 cases r2
 show wpAny _ _ (call (.builtin "sorted") [.ref l] [(Str.ofString "key", .ref f)]) _ _ s2
 exact srt_sorted I2 hl hlen h64 (fun i x kk v hx hkk rv pins' s' I' => run_lam rfl rfl (hr.mono hkm).in1.in1 hb hfn I' (.cons rv .nil) C fun os hn hi => let ⟨sp, F, qq⟩ := hF os hn hi; ⟨sp, F, fun Q' hq => qq i x kk hx hkk Q' hq⟩) q
end L2
namespace Pf
open PySem L2
def top (i : Nat) : Stmt := PySem.Challenge.pw_onecurve_k54_quotients_of_one_height.main.body.getD i (.Pass ⟨0, 0, 0, 0⟩)
theorem exE1 {a1 : Type} {p : a1 → Prop} {G : Prop} (h : ∃ x1, p x1) (f : ∀ x1, p x1 → G) : G := Exists.elim h f
theorem exE2 {a1 a2 : Type} {p : a1 → a2 → Prop} {G : Prop} (h : ∃ x1 x2, p x1 x2) (f : ∀ x1 x2, p x1 x2 → G) : G := Exists.elim h fun x1 h => exE1 h (f x1)
theorem exE3 {a1 a2 a3 : Type} {p : a1 → a2 → a3 → Prop} {G : Prop} (h : ∃ x1 x2 x3, p x1 x2 x3) (f : ∀ x1 x2 x3, p x1 x2 x3 → G) : G := Exists.elim h fun x1 h => exE2 h (f x1)
theorem exE4 {a1 a2 a3 a4 : Type} {p : a1 → a2 → a3 → a4 → Prop} {G : Prop} (h : ∃ x1 x2 x3 x4, p x1 x2 x3 x4) (f : ∀ x1 x2 x3 x4, p x1 x2 x3 x4 → G) : G := Exists.elim h fun x1 h => exE3 h (f x1)
theorem exE5 {a1 a2 a3 a4 a5 : Type} {p : a1 → a2 → a3 → a4 → a5 → Prop} {G : Prop} (h : ∃ x1 x2 x3 x4 x5, p x1 x2 x3 x4 x5) (f : ∀ x1 x2 x3 x4 x5, p x1 x2 x3 x4 x5 → G) : G := Exists.elim h fun x1 h => exE4 h (f x1)
theorem exE6 {a1 a2 a3 a4 a5 a6 : Type} {p : a1 → a2 → a3 → a4 → a5 → a6 → Prop} {G : Prop} (h : ∃ x1 x2 x3 x4 x5 x6, p x1 x2 x3 x4 x5 x6) (f : ∀ x1 x2 x3 x4 x5 x6, p x1 x2 x3 x4 x5 x6 → G) : G := Exists.elim h fun x1 h => exE5 h (f x1)
theorem exE7 {a1 a2 a3 a4 a5 a6 a7 : Type} {p : a1 → a2 → a3 → a4 → a5 → a6 → a7 → Prop} {G : Prop} (h : ∃ x1 x2 x3 x4 x5 x6 x7, p x1 x2 x3 x4 x5 x6 x7) (f : ∀ x1 x2 x3 x4 x5 x6 x7, p x1 x2 x3 x4 x5 x6 x7 → G) : G := Exists.elim h fun x1 h => exE6 h (f x1)
theorem exE8 {a1 a2 a3 a4 a5 a6 a7 a8 : Type} {p : a1 → a2 → a3 → a4 → a5 → a6 → a7 → a8 → Prop} {G : Prop} (h : ∃ x1 x2 x3 x4 x5 x6 x7 x8, p x1 x2 x3 x4 x5 x6 x7 x8) (f : ∀ x1 x2 x3 x4 x5 x6 x7 x8, p x1 x2 x3 x4 x5 x6 x7 x8 → G) : G := Exists.elim h fun x1 h => exE7 h (f x1)
theorem exE9 {a1 a2 a3 a4 a5 a6 a7 a8 a9 : Type} {p : a1 → a2 → a3 → a4 → a5 → a6 → a7 → a8 → a9 → Prop} {G : Prop} (h : ∃ x1 x2 x3 x4 x5 x6 x7 x8 x9, p x1 x2 x3 x4 x5 x6 x7 x8 x9) (f : ∀ x1 x2 x3 x4 x5 x6 x7 x8 x9, p x1 x2 x3 x4 x5 x6 x7 x8 x9 → G) : G := Exists.elim h fun x1 h => exE8 h (f x1)
theorem anE2 {A1 A2 G : Prop} (h : A1 ∧ A2) (f : A1 → A2 → G) : G := f h.1 h.2
theorem anE3 {A1 A2 A3 G : Prop} (h : A1 ∧ A2 ∧ A3) (f : A1 → A2 → A3 → G) : G := anE2 h.2 (f h.1)
theorem anE4 {A1 A2 A3 A4 G : Prop} (h : A1 ∧ A2 ∧ A3 ∧ A4) (f : A1 → A2 → A3 → A4 → G) : G := anE3 h.2 (f h.1)
theorem anE5 {A1 A2 A3 A4 A5 G : Prop} (h : A1 ∧ A2 ∧ A3 ∧ A4 ∧ A5) (f : A1 → A2 → A3 → A4 → A5 → G) : G := anE4 h.2 (f h.1)
theorem anE6 {A1 A2 A3 A4 A5 A6 G : Prop} (h : A1 ∧ A2 ∧ A3 ∧ A4 ∧ A5 ∧ A6) (f : A1 → A2 → A3 → A4 → A5 → A6 → G) : G := anE5 h.2 (f h.1)
theorem anE7 {A1 A2 A3 A4 A5 A6 A7 G : Prop} (h : A1 ∧ A2 ∧ A3 ∧ A4 ∧ A5 ∧ A6 ∧ A7) (f : A1 → A2 → A3 → A4 → A5 → A6 → A7 → G) : G := anE6 h.2 (f h.1)
theorem anE8 {A1 A2 A3 A4 A5 A6 A7 A8 G : Prop} (h : A1 ∧ A2 ∧ A3 ∧ A4 ∧ A5 ∧ A6 ∧ A7 ∧ A8) (f : A1 → A2 → A3 → A4 → A5 → A6 → A7 → A8 → G) : G := anE7 h.2 (f h.1)
theorem anE9 {A1 A2 A3 A4 A5 A6 A7 A8 A9 G : Prop} (h : A1 ∧ A2 ∧ A3 ∧ A4 ∧ A5 ∧ A6 ∧ A7 ∧ A8 ∧ A9) (f : A1 → A2 → A3 → A4 → A5 → A6 → A7 → A8 → A9 → G) : G := anE8 h.2 (f h.1)
theorem anE10 {A1 A2 A3 A4 A5 A6 A7 A8 A9 A10 G : Prop} (h : A1 ∧ A2 ∧ A3 ∧ A4 ∧ A5 ∧ A6 ∧ A7 ∧ A8 ∧ A9 ∧ A10) (f : A1 → A2 → A3 → A4 → A5 → A6 → A7 → A8 → A9 → A10 → G) : G := anE9 h.2 (f h.1)
def topOf (B : Int) (q : Rat) : Int := q.num * B.fdiv q.den
theorem topOf_rat {B : Int} {q : Rat} (h : (q.den : Int) ∣ B) : ((topOf B q : Int) : Rat) = q * (B : Rat) := by
 obtain ⟨k, rfl⟩ := h
 have e : (((q.den : Int) * k).fdiv (q.den : Int)) = k := Int.mul_fdiv_cancel_left _ (Nm.den_ne q)
 unfold topOf
 rw [e, Rat.intCast_mul, Rat.intCast_mul, Nm.num_mul q]
 grind
theorem tops_ev {B : Int} {qs : List Rat} (h : ∀ q ∈ qs, (q.den : Int) ∣ B) (x : Rat) : Cv.ev ((qs.map (topOf B)).map fun t : Int => (t : Rat)) x = Cv.ev qs x * (B : Rat) := by
 rw [← Cv.ev_scale, List.map_map]
 congr 1
 exact List.map_congr_left fun q hq => topOf_rat (h q hq)
inductive spBot (K : PySem.W.Frag) (vs : List V) (H : Hp) (Q : VK) (E_3 : XK) : Prop
 | mk (b : Bool) (r : Addr) (xs : List V) (qs : List Rat) (n : Nat) (h1 : vs = [.ref r]) (h2 : Sq b K H r xs) (h3 : Nums K H xs qs) (h4 : (∀ q ∈ qs, Bd n (q.den : Int))) (h5 : n * (qs.length + 2) ≤ 60000000) (h6 : ∀ B : Int, 0 < B → (∀ q ∈ qs, (q.den : Int) ∣ B) → Bd (n * qs.length + 1) B → Q (.int B) H) : spBot K vs H Q E_3
inductive spTops (K : PySem.W.Frag) (vs : List V) (H : Hp) (Q : VK) (E_3 : XK) : Prop
 | mk (b : Bool) (r : Addr) (xs : List V) (qs : List Rat) (B : Int) (m n : Nat) (h1 : vs = [.ref r, .int B]) (h2 : Sq b K H r xs) (h3 : Nums K H xs qs) (h4 : Bd m B) (h5 : (∀ q ∈ qs, Bd n q.num)) (h6 : m + n ≤ 134217728) (h7 : qs.length ≤ 1000) (h8 : ∀ p, H p = none → Q (.ref p) (upd H p (.lst ((qs.map (topOf B)).map V.int)))) : spTops K vs H Q E_3
inductive spCurveOf (K : PySem.W.Frag) (vs : List V) (H : Hp) (Q : VK) (E_3 : XK) : Prop
 | mk (r : Addr) (xs : List V) (qs : List Rat) (h1 : vs = [.ref r]) (h2 : SqL K H r xs) (h3 : Nums K H xs qs) (h4 : qs.length ≤ 1000) (h5 : ∀ p H', Same H H' → Crv K H' p (Cv.strip qs) → Q (.ref p) H') : spCurveOf K vs H Q E_3
inductive spWH (K : PySem.W.Frag) (vs : List V) (H : Hp) (Q : VK) (E_3 : XK) : Prop
 | mk (l rx : Addr) (ts : List Int) (x : Rat) (m n : Nat) (h1 : vs = [.ref l, .ref rx]) (h2 : SqL K H l (ts.map V.int)) (h3 : NumV K H (.ref rx) x) (h4 : (∀ t ∈ ts, Bd m t)) (h5 : RB n x) (h6 : m + (n + 1) * (ts.length + 4) ≤ 100000000) (h7 : ∀ (h s : Int) (p : Addr), s = (x.den : Int) ^ ts.length → s ≠ 0 → (h : Rat) = Cv.evI ts x * (s : Rat) → Bd (m + (n + 1) * (ts.length + 2)) h → Bd (n * ts.length + 1) s → H p = none → Q (.ref p) (upd H p (.tup [.int h, .int s]))) : spWH K vs H Q E_3
theorem lcm_step {b d : Int} (hb : 0 < b) (hd : 0 < d) : 0 < b * d.fdiv (Int.gcd b d : Int) ∧ b ∣ b * d.fdiv (Int.gcd b d : Int) ∧ d ∣ b * d.fdiv (Int.gcd b d : Int) := by
 have g0 : (0 : Int) < (Int.gcd b d : Int) := by have := Nm.gcd_pos (a := b) (b := d) (by lia); lia
 obtain ⟨k, hk⟩ : (Int.gcd b d : Int) ∣ d := Int.gcd_dvd_right ..
 obtain ⟨j, hj⟩ : (Int.gcd b d : Int) ∣ b := Int.gcd_dvd_left ..
 generalize (Int.gcd b d : Int) = g at *
 subst hk
 subst hj
 have e : (g * k).fdiv g = k := Int.mul_fdiv_cancel_left _ (by lia)
 rw [e]
 have hk0 : 0 < k := by
   rcases Int.lt_trichotomy k 0 with z | z | z
   · have : g * k < 0 := Int.mul_neg_of_pos_of_neg g0 z
     lia
   · rw [z, Int.mul_zero] at hd; lia
   · exact z
 exact ⟨Int.mul_pos hb hk0, ⟨k, rfl⟩, ⟨j, by grind⟩⟩
inductive spProd (K : PySem.W.Frag) (vs : List V) (H : Hp) (Q : VK) (E_3 : XK) : Prop
 | mk (f g : Addr) (fs gs : List Int) (m n : Nat) (h1 : vs = [.ref f, .ref g]) (h2 : SqL K H f (fs.map V.int)) (h3 : SqL K H g (gs.map V.int)) (h4 : 1 ≤ gs.length) (h5 : fs.length ≤ 1000) (h6 : gs.length ≤ 1000) (h7 : (∀ t ∈ fs, Bd m t)) (h8 : (∀ t ∈ gs, Bd n t)) (h9 : m + n ≤ 60000000) (h10 : ∀ (p : Addr) (H' : Hp) (ps : List Int), Same H H' → H p = none → H' p = some (.lst (ps.map V.int)) → ps.length = fs.length + gs.length - 1 → (∀ x, Cv.evI ps x = Cv.evI fs x * Cv.evI gs x) → (∀ t ∈ ps, Bd (m + n + 20) t) → Q (.ref p) H') : spProd K vs H Q E_3
inductive spCurveOver (K : PySem.W.Frag) (vs : List V) (H : Hp) (Q : VK) (E_3 : XK) : Prop
 | mk (l : Addr) (ts : List Int) (b : Int) (h1 : vs = [.ref l, .int b]) (h2 : SqL K H l (ts.map V.int)) (h3 : b ≠ 0) (h4 : ts.length ≤ 1000) (h5 : ∀ p H', Same H H' → Crv K H' p (Cv.strip (ts.map fun t => Rat.divInt t b)) → Q (.ref p) H') : spCurveOver K vs H Q E_3
def cnt (x : Rat) : List Rat → Nat
 | [] => 0
 | y :: r => (if x ≤ y then 1 else 0) + cnt x r
theorem cnt_le (x : Rat) : ∀ l, cnt x l ≤ l.length
 | [] => Nat.le_refl _
 | y :: r => by
   have := cnt_le x r
   show (if x ≤ y then 1 else 0) + cnt x r ≤ r.length + 1
   split <;> lia
theorem rat_up (x : Rat) : x ≤ x + 1 := by grind
theorem rat_no (x : Rat) : ¬ x + 1 ≤ x := by grind
theorem cnt_next (x : Rat) : ∀ l, cnt (x + 1) l ≤ cnt x l
 | [] => Nat.le_refl _
 | y :: r => by
   have := cnt_next x r
   show (if x + 1 ≤ y then 1 else 0) + cnt (x + 1) r ≤ (if x ≤ y then 1 else 0) + cnt x r
   by_cases h : x + 1 ≤ y
   · rw [if_pos h, if_pos (Rat.le_trans (rat_up x) h)]; lia
   · rw [if_neg h]; lia
theorem cnt_lt {x : Rat} : ∀ {l}, x ∈ l → cnt (x + 1) l < cnt x l
 | y :: r, h => by
   show (if x + 1 ≤ y then 1 else 0) + cnt (x + 1) r < (if x ≤ y then 1 else 0) + cnt x r
   rcases List.mem_cons.mp h with z | z
   · subst z
     have := cnt_next x r
     rw [if_neg (rat_no x), if_pos Rat.le_refl]; lia
   · have := cnt_lt z
     by_cases h : x + 1 ≤ y
     · rw [if_pos h, if_pos (Rat.le_trans (rat_up x) h)]; lia
     · rw [if_neg h]; lia
theorem rb_nat {j : Nat} (h : j ≤ 100) : RB 7 ((j : Nat) : Rat) := ⟨by rw [Rat.num_natCast]; unfold Bd; lia, by rw [Rat.den_natCast]; unfold Bd; decide⟩
inductive spPlacesT (K : PySem.W.Frag) (n : Nat) (vs : List V) (H : Hp) (Q : VK) (E_3 : XK) : Prop
 | mk (a : Addr) (m : Int) (h1 : vs = [.ref a, .int m]) (h2 : Pen H a) (h3 : 0 ≤ m) (h4 : m ≤ 100) (h5 : ∀ (l : Addr) (H' : Hp) (zs : List V) (qs : List Rat), Mv a H H' → Pen H' a → H l = none → H' l = some (.lst zs) → NumsT H' zs qs → (qs.length : Int) = m → qs.Nodup → (∀ q ∈ qs, RB (n + 8) q) → Q (.ref l) H') : spPlacesT K n vs H Q E_3
inductive spAt2 (K : PySem.W.Frag) (vs : List V) (H : Hp) (Q : VK) (E_3 : XK) : Prop
 | mk (b : Bool) (r rx : Addr) (xs : List V) (qs : List Rat) (x : Rat) (c n : Nat) (h1 : vs = [.ref r, .ref rx]) (h2 : Sq b K H r xs) (h3 : Nums K H xs qs) (h4 : NumV K H (.ref rx) x) (h5 : (∀ q ∈ qs, RB c q)) (h6 : RB n x) (h7 : (c + n * qs.length + 4) * (qs.length + 2) ≤ 90000000) (h8 : ∀ p H', Same H H' → H' p = some (nT (Cv.ev qs x)) → RB ((c + n * qs.length + 4) * (qs.length + 1)) (Cv.ev qs x) → Q (.ref p) H') : spAt2 K vs H Q E_3
def ic (ts : List Int) : List Rat := ts.map fun t : Int => (t : Rat)
theorem ic_getD (ts : List Int) (j : Nat) : (ic ts).getD j 0 = ((ts.getD j 0 : Int) : Rat) := by
 unfold ic
 rw [List.getD_eq_getElem?_getD, List.getD_eq_getElem?_getD, List.getElem?_map]
 cases ts[j]? with
 | none => rfl
 | some t => rfl
inductive spLack (K : PySem.W.Frag) (vs : List V) (H : Hp) (Q : VK) (E_3 : XK) : Prop
 | mk (l rx ry : Addr) (ts : List Int) (x y : Rat) (R m nx ny : Nat) (h1 : vs = [.ref l, .ref rx, .ref ry]) (h2 : SqL K H l (ts.map V.int)) (h3 : ts.length = 2 * R) (h4 : NumV K H (.ref rx) x) (h5 : NumV K H (.ref ry) y) (h6 : (∀ t ∈ ts, Bd m t)) (h7 : RB nx x) (h8 : RB ny y) (h9 : m + (nx + 1) * (R + 4) + ny ≤ 100000000) (h10 : ∀ (L : Int) (H' : Hp), Same H H' → (L : Rat) = (((y.den : Int) * (x.den : Int) ^ R : Int) : Rat) * (Cv.evI (ts.take R) x - y * Cv.evI (ts.drop R) x) → Bd (m + (nx + 1) * (R + 2) + ny + 1) L → Q (.int L) H') : spLack K vs H Q E_3
def shI (c d : Int) (ts : List Int) : List Int := (List.range ts.length).map fun k => d * (if k = 0 then 0 else ts.getD (k - 1) 0) - c * ts.getD k 0
inductive spShift (K : PySem.W.Frag) (vs : List V) (H : Hp) (Q : VK) (E_3 : XK) : Prop
 | mk (l rx : Addr) (ts : List Int) (x : Rat) (m n : Nat) (h1 : vs = [.ref l, .ref rx]) (h2 : SqL K H l (ts.map V.int)) (h3 : NumV K H (.ref rx) x) (h4 : 1 ≤ ts.length) (h5 : ts.length ≤ 100) (h6 : ts.getD (ts.length - 1) 0 = 0) (h7 : (∀ t ∈ ts, Bd m t)) (h8 : RB n x) (h9 : m + n ≤ 100000000) (h10 : ∀ (p : Addr) (H' : Hp), Same H H' → H' p = some (.lst ((shI x.num x.den ts).map V.int)) → (∀ t ∈ shI x.num x.den ts, Bd (m + n + 1) t) → Q (.ref p) H') : spShift K vs H Q E_3
inductive spWoC (K : PySem.W.Frag) (vs : List V) (H : Hp) (Q : VK) (E_3 : XK) : Prop
 | mk (l : Addr) (ts : List Int) (m : Nat) (h1 : vs = [.ref l]) (h2 : SqL K H l (ts.map V.int)) (h3 : (∃ t ∈ ts, t ≠ 0)) (h4 : ts.length ≤ 100) (h5 : (∀ t ∈ ts, Bd m t)) (h6 : ∀ (p : Addr) (H' : Hp) (g : Int) (us : List Int), Same H H' → H' p = some (.lst (us.map V.int)) → g ≠ 0 → us.length = ts.length → (∀ j, g * us.getD j 0 = ts.getD j 0) → (∀ t ∈ us, Bd m t) → Q (.ref p) H') : spWoC K vs H Q E_3
theorem getD_mem {ts : List Int} {j : Nat} (h : j < ts.length) : ts.getD j 0 ∈ ts := by
 rw [List.getD_eq_getElem?_getD, List.getElem?_eq_getElem h]; exact List.getElem_mem h
theorem getD_bd {ts : List Int} {m : Nat} (h : ∀ t ∈ ts, Bd m t) (j : Nat) : Bd m (ts.getD j 0) := by
 rcases Nat.lt_or_ge j ts.length with z | z
 · exact h _ (getD_mem z)
 · rw [List.getD_eq_getElem?_getD, List.getElem?_eq_none z]
   show Bd m 0
   unfold Bd
   exact Nat.pow_pos (by decide)
theorem lc_zip {K : PySem.W.Frag} {a b : Addr} {js : List Nat} {xs ys : List V} {te : TE} {σ : St} {H : Hp} {Fin : List V → Hp → Prop} (Pv : Nat → List V → Hp → Prop) (h0 : Pv 0 [] H)
   (hl : ∀ i zs H, i ≤ min xs.length ys.length → Pv i zs H → SqL K H a xs ∧ SqL K H b ys ∧ zs.length = i) (hz : min xs.length ys.length ≤ sizeLine)
   (hs : ∀ i x y T zs H, xs[i]? = some x → ys[i]? = some y → H T = none → Pv i zs H → te (((cS 2 js σ).set 0 (some x)).set 1 (some y)) (upd H T (.tup [x, y])) fun y H4 => Pv (i + 1) (zs ++ [y]) H4) (fin : ∀ zs H', Pv (min xs.length ys.length) zs H' → Fin zs H') :
   ∃ (n' : Nat) (W : Nat → List V → Hp → Prop), W 0 [] H ∧ LcW (Itz K a b xs ys) n' 2 js σ (gTup K 2 (gCons (gName 0) (gCons (gName 1) gNil))) tYes te Fin W := by
 refine ⟨min xs.length ys.length, Pv, h0, ⟨?_, ?_, ?_⟩⟩
 · intro i zs H' hi p
   obtain ⟨h1, h2, h3⟩ := hl i zs H' (Nat.le_of_lt hi) p
   exact ⟨⟨h1, h2, hi⟩, by lia⟩
 · rintro i zs H' x H1 hi p ⟨T, x1, y1, hx, hy, hT, rfl, rfl⟩
   exact ⟨T, _, rfl, SqT.of upd_same, rfl, x1, _, rfl, y1, _, rfl, rfl, hs i x1 y1 T zs H' hx hy hT p⟩
 · intro zs H' p
   obtain ⟨h1, h2, h3⟩ := hl _ zs H' (Nat.le_refl _) p
   exact ⟨⟨h1, h2, Nat.le_refl _⟩, by lia, fin zs H' p⟩
def Rpr (K : PySem.W.Frag) (H : Hp) (v : V) (r : Int) (ts : List Int) : Prop := ∃ p l, v = .ref p ∧ SqT K H p [.int r, .ref l] ∧ SqL K H l (ts.map V.int)
theorem Rpr.same {K : PySem.W.Frag} {H H' : Hp} {v : V} {r : Int} {ts : List Int} (h : Rpr K H v r ts) (e : Same H H') : Rpr K H' v r ts := let ⟨p, l, z, h1, h2⟩ := h; ⟨p, l, z, h1.same e, Same.seq e h2⟩
structure PSt (w v : Int) (n R : Nat) (ps : List (Rat × Rat)) (A S : Nat) (r1 : Int) (ts1 : List Int) (r2 : Int) (ts2 : List Int) : Prop where
 inv : PInv w v n ps r1 r2 (ic (ts1.take R)) (ic (ts1.drop R)) (ic (ts2.take R)) (ic (ts2.drop R))
 l1 : ts1.length = 2 * R
 l2 : ts2.length = 2 * R
 z1 : ∀ j, ps.length + 1 ≤ j → j < R → ts1.getD j 0 = 0 ∧ ts1.getD (R + j) 0 = 0
 z2 : ∀ j, ps.length + 1 ≤ j → j < R → ts2.getD j 0 = 0 ∧ ts2.getD (R + j) 0 = 0
 bd : ∃ a1 a2, (∀ t ∈ ts1, Bd a1 t) ∧ (∀ t ∈ ts2, Bd a2 t) ∧ a1 ≤ A ∧ a2 ≤ A ∧ a1 + a2 ≤ S
inductive spBoth (K : PySem.W.Frag) (vs : List V) (H : Hp) (Q : VK) (E_3 : XK) : Prop
 | mk (b rx ry : Addr) (v1 v2 : V) (r1 r2 : Int) (ts1 ts2 : List Int) (w v : Int) (n R : Nat) (ps : List (Rat × Rat)) (A S C nx ny : Nat) (x y : Rat) (h1 : vs = [.ref b, .ref rx, .ref ry]) (h2 : SqT K H b [v1, v2]) (h3 : Rpr K H v1 r1 ts1) (h4 : Rpr K H v2 r2 ts2) (h5 : PSt w v n R ps A S r1 ts1 r2 ts2) (h6 : R = n + 1) (h7 : w + v = n + 1) (h8 : NumV K H (.ref rx) x) (h9 : NumV K H (.ref ry) y) (h10 : RB nx x) (h11 : RB ny y) (h12 : ((ps ++ [(x, y)]).map Prod.fst).Nodup) (h13 : ps.length < n) (h14 : n ≤ 12) (h15 : (nx + 1) * (R + 2) + ny + 2 ≤ C) (h16 : A + 3 * C ≤ 50000000) (h17 : S + 3 * C ≤ 50000000) (h18 : ∀ (b' : Addr) (H' : Hp) (v1' v2' : V) (r1' r2' : Int) (us1 us2 : List Int), Same H H' → SqT K H' b' [v1', v2'] → Rpr K H' v1' r1' us1 → Rpr K H' v2' r2' us2 → PSt w v n R (ps ++ [(x, y)]) (S + C) (A + S + 2 * C) r1' us1 r2' us2 → Q (.ref b') H') : spBoth K vs H Q E_3
theorem shI_getD (c d : Int) (ts : List Int) (k : Nat) : (shI c d ts).getD k 0 = if k < ts.length then d * (if k = 0 then 0 else ts.getD (k - 1) 0) - c * ts.getD k 0 else 0 := by
 unfold shI
 rw [List.getD_eq_getElem?_getD, List.getElem?_map]
 by_cases h : k < ts.length
 · rw [if_pos h, List.getElem?_range h]; rfl
 · rw [if_neg h, List.getElem?_eq_none (by rw [List.length_range]; lia)]; rfl
theorem shI_length (c d : Int) (ts : List Int) : (shI c d ts).length = ts.length := by unfold shI; rw [List.length_map, List.length_range]
theorem getD_takeI (ts : List Int) (R j : Nat) : (ts.take R).getD j 0 = if j < R then ts.getD j 0 else 0 := by
 rw [List.getD_eq_getElem?_getD, List.getElem?_take, List.getD_eq_getElem?_getD]
 split <;> rfl
theorem getD_dropI (ts : List Int) (R j : Nat) : (ts.drop R).getD j 0 = ts.getD (R + j) 0 := by
 rw [List.getD_eq_getElem?_getD, List.getElem?_drop, List.getD_eq_getElem?_getD]
theorem getD_far {ts : List Int} {j : Nat} (h : ts.length ≤ j) : ts.getD j 0 = 0 := by rw [List.getD_eq_getElem?_getD, List.getElem?_eq_none h]; rfl
theorem shf_take {c d : Int} {ts : List Int} {R : Nat} (hl : ts.length = 2 * R) (hR : 1 ≤ R) (h1 : ts.getD (R - 1) 0 = 0) : Shf (c : Rat) (d : Rat) (ic (ts.take R)) (ic ((shI c d ts).take R)) := fun j => by
 rw [ic_getD, ic_getD, ic_getD, getD_takeI, getD_takeI, getD_takeI, shI_getD]
 by_cases h : j < R
 · rw [if_pos h, if_pos (by lia), if_pos h]
   by_cases z : j = 0
   · rw [if_pos z, if_pos z, Rat.intCast_sub, Rat.intCast_mul, Rat.intCast_mul]; rfl
   · rw [if_neg z, if_neg z, if_pos (by lia), Rat.intCast_sub, Rat.intCast_mul, Rat.intCast_mul]
 · rw [if_neg h, if_neg h, if_neg (by lia)]
   by_cases z : j - 1 < R
   · rw [if_pos z, show j - 1 = R - 1 by lia, h1]
     show (0 : Rat) = (d : Rat) * 0 - (c : Rat) * 0
     grind
   · rw [if_neg z]
     show (0 : Rat) = (d : Rat) * 0 - (c : Rat) * 0
     grind
theorem shf_drop {c d : Int} {ts : List Int} {R : Nat} (hl : ts.length = 2 * R) (hR : 1 ≤ R) (h1 : ts.getD (R - 1) 0 = 0) (h2 : ts.getD (R + (R - 1)) 0 = 0) : Shf (c : Rat) (d : Rat) (ic (ts.drop R)) (ic ((shI c d ts).drop R)) := fun j => by
 rw [ic_getD, ic_getD, ic_getD, getD_dropI, getD_dropI, getD_dropI, shI_getD]
 by_cases h : R + j < ts.length
 · rw [if_pos h, if_neg (by lia)]
   by_cases z : j = 0
   · subst z
     rw [if_pos rfl, Nat.add_zero, h1, Rat.intCast_sub, Rat.intCast_mul, Rat.intCast_mul]; rfl
   · rw [if_neg z, show R + j - 1 = R + (j - 1) by lia, Rat.intCast_sub, Rat.intCast_mul, Rat.intCast_mul]
 · rw [if_neg h, if_neg (by lia), getD_far (show ts.length ≤ R + j by lia)]
   by_cases z : j - 1 = R - 1
   · rw [z, h2]
     show (0 : Rat) = (d : Rat) * 0 - (c : Rat) * 0
     grind
   · rw [getD_far (show ts.length ≤ R + (j - 1) by lia)]
     show (0 : Rat) = (d : Rat) * 0 - (c : Rat) * 0
     grind
theorem shI_zero {c d : Int} {ts : List Int} {R k : Nat} (z : ∀ j, k + 1 ≤ j → j < R → ts.getD j 0 = 0 ∧ ts.getD (R + j) 0 = 0) : ∀ j, k + 1 + 1 ≤ j → j < R → (shI c d ts).getD j 0 = 0 ∧ (shI c d ts).getD (R + j) 0 = 0 := fun j h1 h2 => by
 have a := z j (by lia) h2
 have b := z (j - 1) (by lia) (by lia)
 constructor
 · rw [shI_getD]
   by_cases hh : j < ts.length
   · rw [if_pos hh, if_neg (by lia), a.1, b.1, Int.mul_zero, Int.mul_zero]; rfl
   · rw [if_neg hh]
 · rw [shI_getD]
   by_cases hh : R + j < ts.length
   · rw [if_pos hh, if_neg (by lia), a.2, show R + j - 1 = R + (j - 1) by lia, b.2, Int.mul_zero, Int.mul_zero]; rfl
   · rw [if_neg hh]
theorem mix_take {g a b : Int} {t1 t2 us : List Int} (R : Nat) (h : ∀ j, g * us.getD j 0 = a * t2.getD j 0 - b * t1.getD j 0) : Mix (g : Rat) (a : Rat) (b : Rat) (ic (t1.take R)) (ic (t2.take R)) (ic (us.take R)) := fun j => by
 rw [ic_getD, ic_getD, ic_getD, getD_takeI, getD_takeI, getD_takeI]
 split
 · rw [← Rat.intCast_mul, h j, Rat.intCast_sub, Rat.intCast_mul, Rat.intCast_mul]
 · show (g : Rat) * 0 = (a : Rat) * 0 - (b : Rat) * 0
   grind
theorem mix_drop {g a b : Int} {t1 t2 us : List Int} (R : Nat) (h : ∀ j, g * us.getD j 0 = a * t2.getD j 0 - b * t1.getD j 0) : Mix (g : Rat) (a : Rat) (b : Rat) (ic (t1.drop R)) (ic (t2.drop R)) (ic (us.drop R)) := fun j => by
 rw [ic_getD, ic_getD, ic_getD, getD_dropI, getD_dropI, getD_dropI, ← Rat.intCast_mul, h (R + j), Rat.intCast_sub, Rat.intCast_mul, Rat.intCast_mul]
theorem mix_zero {g a b : Int} {t1 t2 us : List Int} {j : Nat} (hg : g ≠ 0) (h : ∀ j, g * us.getD j 0 = a * t2.getD j 0 - b * t1.getD j 0) (z1 : t1.getD j 0 = 0) (z2 : t2.getD j 0 = 0) : us.getD j 0 = 0 := by
 have := h j
 rw [z1, z2, Int.mul_zero, Int.mul_zero] at this
 rcases Int.mul_eq_zero.mp (show g * us.getD j 0 = 0 from this) with z | z
 · exact absurd z hg
 · exact z
theorem lack_iff {L : Int} {s a : Rat} (hs : s ≠ 0) (h : (L : Rat) = s * a) : L = 0 ↔ a = 0 := by
 constructor
 · intro z
   rw [z] at h
   rcases Rat.mul_eq_zero.mp (show s * a = 0 from h.symm) with q | q
   · exact absurd q hs
   · exact q
 · intro z
   rw [z, Rat.mul_zero] at h
   exact Rat.intCast_inj.mp (h.trans Rat.intCast_zero.symm)
theorem sub0 {a b : Rat} (h : a - b = 0) : a = b := by grind
theorem ic_ne {L : Int} (h : L ≠ 0) : (L : Rat) ≠ 0 := fun z => h (Rat.intCast_inj.mp (z.trans Rat.intCast_zero.symm))
def gAS (C : Nat) : Nat → Nat × Nat
 | 0 => (1, 2)
 | k + 1 => ((gAS C k).2 + C, (gAS C k).1 + (gAS C k).2 + 2 * C)
theorem gAS_le (C : Nat) : ∀ k, (gAS C k).1 ≤ (gAS C k).2
 | 0 => by show 1 ≤ 2; decide
 | k + 1 => by show (gAS C k).2 + C ≤ (gAS C k).1 + (gAS C k).2 + 2 * C; lia
theorem gAS_mono (C : Nat) {i : Nat} : ∀ {n}, i ≤ n → (gAS C i).2 ≤ (gAS C n).2
 | 0, h => by rw [Nat.le_zero.mp h]; exact Nat.le_refl _
 | n + 1, h => by
   rcases Nat.lt_or_ge i (n + 1) with z | z
   · have := gAS_mono C (i := i) (n := n) (by lia)
     show _ ≤ (gAS C n).1 + (gAS C n).2 + 2 * C
     lia
   · rw [show i = n + 1 by lia]; exact Nat.le_refl _
theorem rep0 : ∀ k : Nat, (List.replicate k [V.int 0]).flatten = (List.replicate k (0 : Int)).map V.int
 | 0 => rfl
 | k + 1 => by rw [List.replicate_succ, List.flatten_cons, rep0 k, List.replicate_succ]; rfl
theorem ic_one (ts : List Int) : (ts.map fun t => Rat.divInt t 1) = ic ts := by
 unfold ic
 refine List.map_congr_left fun t _ => ?_
 have e := Rat.num_divInt_den ((t : Int) : Rat)
 rw [Rat.num_intCast, Rat.den_intCast] at e
 exact e
def first0 (R : Nat) : List Int := 1 :: List.replicate (2 * R - 1) 0
def second0 (R : Nat) : List Int := List.replicate R 0 ++ [1] ++ List.replicate (R - 1) 0
theorem getD_rep (k j : Nat) : (List.replicate k (0 : Int)).getD j 0 = 0 := by
 rw [List.getD_eq_getElem?_getD, List.getElem?_replicate]
 split <;> rfl
theorem first_getD (R j : Nat) : (first0 R).getD j 0 = if j = 0 then 1 else 0 := by
 cases j with
 | zero => rfl
 | succ j => rw [if_neg (by lia)]; exact getD_rep _ j
theorem second_getD (R j : Nat) : (second0 R).getD j 0 = if j = R then 1 else 0 := by
 unfold second0
 rw [List.append_assoc, List.getD_eq_getElem?_getD]
 rcases Nat.lt_or_ge j R with z | z
 · rw [List.getElem?_append_left (by rw [List.length_replicate]; exact z), if_neg (by lia), List.getElem?_replicate, if_pos z]; rfl
 · rw [List.getElem?_append_right (by rw [List.length_replicate]; exact z), List.length_replicate]
   by_cases e : j = R
   · rw [if_pos e, show j - R = 0 by lia]; rfl
   · rw [if_neg e]
     obtain ⟨k, hk⟩ : ∃ k, j - R = k + 1 := ⟨j - R - 1, by lia⟩
     rw [hk, List.singleton_append, List.getElem?_cons_succ, List.getElem?_replicate]
     split <;> rfl
theorem pun0 {W n : Nat} (hW : 1 ≤ W) (hWn : W ≤ n) : PUn (W : Int) ((n : Int) + 1 - W) n [] (2 * (1 - (W : Int))) (2 * (1 - ((n : Int) + 1 - W)) + 1) (ic ((first0 (n + 1)).take (n + 1))) (ic ((first0 (n + 1)).drop (n + 1))) (ic ((second0 (n + 1)).take (n + 1))) (ic ((second0 (n + 1)).drop (n + 1))) := by
 refine ⟨⟨fun j hj => ?_, fun j hj => ?_⟩, .inl ⟨0, by lia, ?_⟩, ⟨fun j hj => ?_, fun j hj => ?_⟩, .inr ⟨0, by lia, ?_⟩, by rw [List.length_nil]; lia, (fun _ h => nomatch h), fun _ h => nomatch h⟩
 · rw [ic_getD, getD_takeI, first_getD, if_neg (show ¬ j = 0 by lia)]
   split <;> rfl
 · rw [ic_getD, getD_dropI, first_getD, if_neg (by lia)]; rfl
 · rw [ic_getD, getD_takeI, first_getD, if_pos (by lia), if_pos rfl]; decide
 · rw [ic_getD, getD_takeI, second_getD]
   split
   · rw [if_neg (by lia)]; rfl
   · rfl
 · rw [ic_getD, getD_dropI, second_getD, if_neg (by lia)]; rfl
 · rw [ic_getD, getD_dropI, second_getD, if_pos (by lia)]; decide
theorem first_bd (R : Nat) : ∀ t ∈ first0 R, Bd 1 t := fun t ht => by
 rcases List.mem_cons.mp ht with z | z
 · rw [z]; unfold Bd; decide
 · rw [List.eq_of_mem_replicate z]; unfold Bd; decide
theorem second_bd (R : Nat) : ∀ t ∈ second0 R, Bd 1 t := fun t ht => by
 rcases List.mem_append.mp ht with z | z
 · rcases List.mem_append.mp z with z | z
   · rw [List.eq_of_mem_replicate z]; unfold Bd; decide
   · rw [List.mem_singleton.mp z]; unfold Bd; decide
 · rw [List.eq_of_mem_replicate z]; unfold Bd; decide
theorem first_length (n : Nat) : (first0 (n + 1)).length = 2 * (n + 1) := by unfold first0; rw [List.length_cons, List.length_replicate]; lia
theorem second_length (n : Nat) : (second0 (n + 1)).length = 2 * (n + 1) := by unfold second0; rw [List.length_append, List.length_append, List.length_replicate, List.length_replicate, List.length_singleton]; lia
theorem first_zero (n : Nat) : ∀ j, 0 + 1 ≤ j → j < n + 1 → (first0 (n + 1)).getD j 0 = 0 ∧ (first0 (n + 1)).getD (n + 1 + j) 0 = 0 := fun j h _ => ⟨by rw [first_getD, if_neg (by lia)], by rw [first_getD, if_neg (by lia)]⟩
theorem second_zero (n : Nat) : ∀ j, 0 + 1 ≤ j → j < n + 1 → (second0 (n + 1)).getD j 0 = 0 ∧ (second0 (n + 1)).getD (n + 1 + j) 0 = 0 := fun j h _ => ⟨by rw [second_getD, if_neg (by lia)], by rw [second_getD, if_neg (by lia)]⟩
inductive spPair (K : PySem.W.Frag) (vs : List V) (H : Hp) (Q : VK) (E_3 : XK) : Prop
 | mk (lp lh : Addr) (zs ys : List V) (qs hs : List Rat) (W n nx ny C : Nat) (h1 : vs = [.ref lp, .ref lh, .int (W : Int)]) (h2 : SqL K H lp zs) (h3 : Nums K H zs qs) (h4 : SqL K H lh ys) (h5 : Nums K H ys hs) (h6 : qs.length = n) (h7 : hs.length = n) (h8 : 1 ≤ n) (h9 : n ≤ 12) (h10 : qs.Nodup) (h11 : 1 ≤ W) (h12 : W ≤ n) (h13 : (∀ c ∈ qs, RB nx c)) (h14 : (∀ c ∈ hs, RB ny c)) (h15 : (nx + 1) * (n + 3) + ny + 2 ≤ C) (h16 : (gAS C n).2 + 3 * C ≤ 50000000) (h17 : ∀ (t pN pD : Addr) (H' : Hp) (r1 r2 : Int) (N D N2 D2 : List Rat), Same H H' → SqT K H' t [.ref pN, .ref pD] → Crv K H' pN (Cv.strip N) → Crv K H' pD (Cv.strip D) → (∀ c ∈ N, Bd ((gAS C n).2 + 1) c.num ∧ Bd 1 (c.den : Int)) → (∀ c ∈ D, Bd ((gAS C n).2 + 1) c.num ∧ Bd 1 (c.den : Int)) → PInv (W : Int) ((n : Int) + 1 - W) n (qs.zip hs) r1 r2 N D N2 D2 → Q (.ref t) H') : spPair K vs H Q E_3
theorem ic_bd {ts : List Int} {m k : Nat} (h : ∀ t ∈ ts, Bd m t) (hk : m ≤ k) : ∀ c ∈ ic ts, Bd k c.num ∧ Bd 1 (c.den : Int) := fun c hc => by
 obtain ⟨t, ht, rfl⟩ := List.mem_map.mp hc
 exact ⟨by rw [Rat.num_intCast]; exact (h t ht).mono hk, by rw [Rat.den_intCast]; unfold Bd; decide⟩
def riseQ : Str := "rising.<locals>.<lambda>"
def keyQ (B : Int) (q : Rat) : Int := q.num * B.fdiv (q.den : Int)
theorem keyQ_eq {B : Int} {q : Rat} (hd : (q.den : Int) ∣ B) : ((keyQ B q : Int) : Rat) = q * (B : Rat) := by
 unfold keyQ
 have hp : (0 : Int) ≤ (q.den : Int) := by lia
 rw [Int.fdiv_eq_ediv_of_nonneg _ hp, Rat.intCast_mul, Nm.num_mul q]
 have e : (q.den : Int) * (B / (q.den : Int)) = B := Int.mul_ediv_cancel' hd
 have e2 : ((q.den : Int) : Rat) * ((B / (q.den : Int) : Int) : Rat) = (B : Rat) := by rw [← Rat.intCast_mul, e]
 grind
theorem keyQ_le {B : Int} (hB : 0 < B) {p q : Rat} (hp : (p.den : Int) ∣ B) (hq : (q.den : Int) ∣ B) (h : keyQ B p ≤ keyQ B q) : p ≤ q := by
 have h' : ((keyQ B p : Int) : Rat) ≤ ((keyQ B q : Int) : Rat) := Rat.intCast_le_intCast.mpr h
 rw [keyQ_eq hp, keyQ_eq hq] at h'
 have hB' : (0 : Rat) < (B : Rat) := by
   have := Rat.intCast_lt_intCast.mpr hB
   rw [Rat.intCast_zero] at this
   exact this
 by_cases z : p ≤ q
 · exact z
 · exfalso
   have z' : q < p := Rat.not_le.mp z
   have := Rat.mul_lt_mul_of_pos_right z' hB'
   grind
theorem seqL_but {K : PySem.W.Frag} {Pt : Addr} {q : Str} {H H' : Hp} {r : Addr} {xs : List V} (h : SqL K H r xs) (c : CtOk Pt q H) (m : SameB Pt H H') : SqL K H' r xs := by
 obtain ⟨ps, e, _⟩ := c
 have ne : ∀ {b : Addr} {o : HO}, H b = some o → (∀ p, o ≠ .tbl p) → b ≠ Pt := fun z n y => by rw [y, e] at z; exact n _ (Option.some.inj z).symm
 rcases h with (h | ⟨o, h⟩) | h
 · exact .inl (.inl (m _ _ (ne h fun p z => by cases z) h))
 · exact .inl (.inr ⟨o, m _ _ (ne h fun p z => by cases z) h⟩)
 · exact .inr h
theorem paired_flip {α β : Type} {F : α → β → Prop} {l : List α} {l' : List β} (h : Paired F l l') : Paired (fun b a => F a b) l' l := by
 induction h with
 | nil => exact .nil
 | cons h _ ih => exact .cons h ih
theorem free_but {Pt : Addr} {q : Str} {H H' : Hp} {p : Addr} (c : CtOk Pt q H') (m : SameB Pt H H') (h : H' p = none) : H p = none := by
 cases e : H p with
 | none => rfl
 | some o =>
   exfalso
   by_cases z : p = Pt
   · obtain ⟨ps, e2, _⟩ := c
     rw [z, e2] at h; cases h
   · rw [m p o z e] at h; cases h
theorem rise_zip {K : PySem.W.Frag} {H : Hp} {B : Int} {xs : List V} {qs : List Rat} (h : Nums K H xs qs) : Paired (fun (z : Int × V) (c : Rat) => z.1 = keyQ B c ∧ NumV K H z.2 c) ((qs.map (keyQ B)).zip xs) qs := by
 induction h with
 | nil => exact .nil
 | cons h _ ih => exact .cons ⟨rfl, h⟩ ih
theorem rise_keys {K : PySem.W.Frag} {H : Hp} {B : Int} {zs : List (Int × V)} {rs : List Rat} (h : Paired (fun (c : Rat) (z : Int × V) => z.1 = keyQ B c ∧ NumV K H z.2 c) rs zs) : rs.map (keyQ B) = zs.map Prod.fst ∧ Nums K H (zs.map Prod.snd) rs := by
 induction h with
 | nil => exact ⟨rfl, .nil⟩
 | cons h _ ih => exact ⟨by rw [List.map_cons, List.map_cons, ih.1, h.1], .cons h.2 ih.2⟩
inductive spRise (K : PySem.W.Frag) (Pt : Addr) (vs : List V) (H : Hp) (Q : VK) (E_3 : XK) : Prop
 | mk (l : Addr) (xs : List V) (qs : List Rat) (n : Nat) (h1 : vs = [.ref l]) (h2 : SqL K H l xs) (h3 : Nums K H xs qs) (h4 : (∀ q ∈ qs, RB n q)) (h5 : n ≤ 1000000) (h6 : qs.length ≤ 20) (h7 : CtOk Pt riseQ H) (h8 : ∀ (p : Addr) (H' : Hp) (ys : List V) (rs : List Rat), SameB Pt H H' → CtOk Pt riseQ H' → H p = none → H' p = some (.lst ys) → Nums K H' ys rs → rs.Perm qs → rs.Pairwise (· ≤ ·) → Q (.ref p) H') : spRise K Pt vs H Q E_3
inductive spHeight2 (K : PySem.W.Frag) (vs : List V) (H : Hp) (Q : VK) (E_3 : XK) : Prop
 | mk (r rx : Addr) (qs : List Rat) (x : Rat) (g d m : Nat) (h1 : vs = [.ref r, .ref rx]) (h2 : Crv K H r qs) (h3 : NumV K H (.ref rx) x) (h4 : (∀ q ∈ qs, Bd g q.num ∧ Bd d (q.den : Int))) (h5 : RB m x) (h6 : g + d * (qs.length + 2) + (m + 1) * (qs.length + 4) ≤ 50000000) (h7 : qs.length ≤ 1000) (h8 : ∀ p H', Same H H' → H' p = some (nT (Cv.ev qs x)) → RB (g + d * (qs.length + 2) + (m + 1) * (qs.length + 4)) (Cv.ev qs x) → Q (.ref p) H') : spHeight2 K vs H Q E_3
inductive spRaised (vs : List V) (H : Hp) (Q : VK) (E_3 : XK) : Prop
 | mk (b : Int) (n L : Nat) (h1 : vs = [.int b, .int n]) (h2 : n ≤ 1000) (h3 : Bd L b) (h4 : L * n + L ≤ 100000000) (h5 : Q (.int (b ^ n)) H) : spRaised vs H Q E_3
structure DivOk (fs gs os rs : List Int) (lead : Int) (B : Nat) : Prop where
 ol : os.length = fs.length + 1 - gs.length
 rl : rs.length = min fs.length (gs.length - 1)
 ev : ∀ x, Cv.evI fs x * ((lead ^ os.length : Int) : Rat) = Cv.evI os x * Cv.evI gs x + Cv.evI rs x
 ob : ∀ t ∈ os, Bd B t
 rb : ∀ t ∈ rs, Bd B t
 top : os ≠ [] → ∃ t, fs[fs.length - 1]? = some t ∧ os[os.length - 1]? = some (lead ^ (os.length - 1) * t)
inductive spDiv (K : PySem.W.Frag) (vs : List V) (H : Hp) (Q : VK) (E_3 : XK) : Prop
 | mk (f g : Addr) (fs gs : List Int) (lead : Int) (M L : Nat) (h1 : vs = [.ref f, .ref g]) (h2 : SqL K H f (fs.map V.int)) (h3 : SqL K H g (gs.map V.int)) (h4 : gs[gs.length - 1]? = some lead) (h5 : fs.length ≤ 1000) (h6 : gs.length ≤ 1000) (h7 : (∀ t ∈ fs, Bd M t)) (h8 : (∀ t ∈ gs, Bd L t)) (h9 : M + fs.length * (L + 1) + L ≤ 100000000) (h10 : L ≤ 100000000) (h11 : ∀ (p pa pb : Addr) (H' : Hp) (os rs : List Int), Same H H' → H' p = some (.tup [.ref pa, .ref pb]) → H' pa = some (.lst (os.map V.int)) → H' pb = some (.lst (rs.map V.int)) → DivOk fs gs os rs lead (M + os.length * (L + 1)) → Q (.ref p) H') : spDiv K vs H Q E_3
theorem strip_good {l : List Rat} (h : Good l) : Cv.strip l = l := by
 have e := Cv.take_strip l l.length (fun j q hj e => absurd (List.getElem?_eq_some_iff.mp e).1 (by lia)) (by
   rcases h with h | h
   · left; rw [h]; rfl
   · right; exact h)
 rw [List.take_length] at e
 exact e.symm
theorem top_ne {B : Int} {q : Rat} (hB : 0 < B) (h : (q.den : Int) ∣ B) (hq : q ≠ 0) : topOf B q ≠ 0 := fun z => by
 have e := topOf_rat h
 rw [z, Rat.intCast_zero] at e
 rcases Rat.mul_eq_zero.mp e.symm with y | y
 · exact hq y
 · exact Nm.cast_ne (show B ≠ 0 by lia) y
theorem tops_last {B : Int} {qs : List Rat} (h : Good qs) (hne : qs ≠ []) (hB : 0 < B) (hd : ∀ q ∈ qs, (q.den : Int) ∣ B) : ∃ t, (qs.map (topOf B))[(qs.map (topOf B)).length - 1]? = some t ∧ t ≠ 0 := by
 rcases h with h | ⟨q, e, hq⟩
 · exact absurd h hne
 · exact ⟨topOf B q, by rw [List.length_map, List.getElem?_map, e]; rfl, top_ne hB (hd q (List.mem_of_getElem? e)) hq⟩
theorem div_ne {t c : Int} (ht : t ≠ 0) (hc : c ≠ 0) : Rat.divInt t c ≠ 0 := fun z => by
 rw [Rat.divInt_eq_div, Rat.div_def] at z
 rcases Rat.mul_eq_zero.mp z with y | y
 · exact Nm.cast_ne ht y
 · have h1 := Rat.mul_inv_cancel _ (Nm.cast_ne hc)
   rw [y, Rat.mul_zero] at h1
   exact absurd h1 (by decide)
theorem ev_divs (ts : List Int) (c : Int) (hc : c ≠ 0) (x : Rat) : Cv.ev (ts.map fun t => Rat.divInt t c) x * (c : Rat) = Cv.evI ts x := by
 have e : (ts.map fun t => Rat.divInt t c) = (ts.map fun t : Int => (t : Rat)).map (· * (c : Rat)⁻¹) := by
   rw [List.map_map]
   refine List.map_congr_left fun t _ => ?_
   show Rat.divInt t c = (t : Rat) * (c : Rat)⁻¹
   rw [Rat.divInt_eq_div, Rat.div_def]
 rw [e, Cv.ev_scale, Rat.mul_assoc, Rat.inv_mul_cancel _ (Nm.cast_ne hc), Rat.mul_one]
 rfl
inductive spDivd3 (K : PySem.W.Frag) (vs : List V) (H : Hp) (Q : VK) (E_3 : XK) : Prop
 | mk (r u : Addr) (qs ps : List Rat) (g d L : Nat) (h1 : vs = [.ref r, .ref u]) (h2 : Crv K H r qs) (h3 : Crv K H u ps) (h4 : Good qs) (h5 : ps ≠ []) (h6 : Good ps) (h7 : (∀ q ∈ qs, Bd g q.num ∧ Bd d (q.den : Int))) (h8 : (∀ q ∈ ps, RB L q)) (h9 : g + 13 * d + 400 * L + 1000 ≤ 50000000) (h10 : qs.length ≤ 13) (h11 : ps.length ≤ 13) (h12 : ∀ (p a b : Addr) (H' : Hp) (os rs : List Rat), Same H H' → H' p = some (.tup [.ref a, .ref b]) → Crv K H' a os → Crv K H' b rs → Good os → Good rs → os.length = qs.length + 1 - ps.length → rs.length < ps.length → (∀ x, Cv.ev qs x = Cv.ev os x * Cv.ev ps x + Cv.ev rs x) → (∀ q ∈ os, RB (g + 13 * d + 400 * L + 1000) q) → Q (.ref p) H') : spDivd3 K vs H Q E_3
inductive spScaled (K : PySem.W.Frag) (vs : List V) (H : Hp) (Q : VK) (E_3 : XK) : Prop
 | mk (r u : Addr) (qs : List Rat) (y : Rat) (m n : Nat) (h1 : vs = [.ref r, .ref u]) (h2 : Crv K H r qs) (h3 : NumV K H (.ref u) y) (h4 : (∀ q ∈ qs, RB m q)) (h5 : RB n y) (h6 : m + n ≤ 50000000) (h7 : qs.length ≤ 1000) (h8 : ∀ p H', Same H H' → Crv K H' p (Cv.strip (qs.map (· * y))) → Q (.ref p) H') : spScaled K vs H Q E_3
theorem over_eq (p q : Rat) (hq : q ≠ 0) : Rat.divInt (p.num * q.den) (p.den * q.num) = p / q := by
 have hn : q.num ≠ 0 := fun z => hq (Rat.num_eq_zero.mp z)
 apply Nm.div_eq (Int.mul_ne_zero (Nm.den_ne p) hn)
 rw [Rat.intCast_mul, Rat.intCast_mul, Nm.num_mul p, Nm.num_mul q]
 have e : p / q * q = p := Rat.div_mul_cancel hq
 have h : p / q * (((p.den : Int) : Rat) * (q * ((q.den : Int) : Rat))) = (p / q * q) * (((p.den : Int) : Rat) * ((q.den : Int) : Rat)) := by grind
 rw [h, e]
 grind
inductive spOver (K : PySem.W.Frag) (vs : List V) (H : Hp) (Q : VK) (E_3 : XK) : Prop
 | mk (x y : V) (p q : Rat) (m n : Nat) (h1 : vs = [x, y]) (h2 : NumV K H x p) (h3 : NumV K H y q) (h4 : q ≠ 0) (h5 : RB m p) (h6 : RB n q) (h7 : m + n ≤ 100000000) (h8 : ∀ r, H r = none → Q (.ref r) (upd H r (nT (p / q)))) : spOver K vs H Q E_3
theorem RB.over {m n : Nat} {p q : Rat} (h1 : RB m p) (h2 : RB n q) (hq : q ≠ 0) : RB (m + n) (p / q) := by
 have hn : q.num ≠ 0 := fun z => hq (Rat.num_eq_zero.mp z)
 rw [← over_eq p q hq]
 exact ⟨Bd.num (h1.1.mul h2.2), Bd.den (Int.mul_ne_zero (Nm.den_ne p) hn) (h1.2.mul h2.1)⟩
def newton : List Rat → List Rat → Rat → Rat
 | k :: ks, s :: ss, x => s + (x - k) * newton ks ss x
 | _, _, _ => 0
inductive spBySteps (K : PySem.W.Frag) (vs : List V) (H : Hp) (Q : VK) (E_3 : XK) : Prop
 | mk (rk rst : Addr) (xs ys : List V) (ks ss : List Rat) (n : Nat) (h1 : vs = [.ref rk, .ref rst]) (h2 : SqL K H rk xs) (h3 : Nums K H xs ks) (h4 : SqL K H rst ys) (h5 : Nums K H ys ss) (h6 : ks.length = ss.length) (h7 : ks.length ≤ 30) (h8 : (∀ q ∈ ks, RB n q)) (h9 : (∀ q ∈ ss, RB n q)) (h10 : n ≤ 10000) (h11 : ∀ p H' cs, Same H H' → Crv K H' p cs → cs.length ≤ ks.length → Good cs → (∀ q ∈ cs, RB (2 * (n * ks.length) + 21 * ks.length + 2 * n + 30) q) → (∀ x, Cv.ev cs x = newton ks ss x) → Q (.ref p) H') : spBySteps K vs H Q E_3
theorem evI_line (c x : Rat) : Cv.evI [-c.num, (c.den : Int)] x = (x - c) * ((c.den : Int) : Rat) := by
 show ((-c.num : Int) : Rat) + x * (((c.den : Int) : Rat) + x * 0) = _
 rw [Rat.intCast_neg, Nm.num_mul c]
 grind
inductive spUnlike (K : PySem.W.Frag) (vs : List V) (H : Hp) (Q : VK) (E_3 : XK) : Prop
 | mk (l : Addr) (ys : List V) (qs : List Rat) (h1 : vs = [.ref l]) (h2 : SqL K H l ys) (h3 : NumsT H ys qs) (h4 : qs.Nodup) (h5 : qs.length ≤ 17) (h6 : ∀ H', Same H H' → Q (.bl true) H') : spUnlike K vs H Q E_3
inductive spCheck (K : PySem.W.Frag) (vs : List V) (H : Hp) (Q : VK) (E_3 : XK) : Prop
 | mk (l : Addr) (few : Int) (ys : List V) (qs : List Rat) (h1 : vs = [.ref l, .int few]) (h2 : SqL K H l ys) (h3 : NumsT H ys qs) (h4 : qs.Nodup) (h5 : qs.length ≤ 12) (h6 : few ≤ qs.length) (h7 : ∀ H', Same H H' → Q .non H') : spCheck K vs H Q E_3
theorem newton_lines (x : Rat) : ∀ os : List Rat, newton (os ++ [0]) (List.replicate os.length 0 ++ [1]) x = prV x os
 | [] => by show 1 + (x - 0) * 0 = (1 : Rat); grind
 | o :: os => by
   show 0 + (x - o) * newton (os ++ [0]) (List.replicate os.length 0 ++ [1]) x = (x - o) * prV x os
   rw [newton_lines x os]; grind
theorem repA (v : V) : ∀ k : Nat, (List.replicate k [v]).flatten = List.replicate k v
 | 0 => rfl
 | k + 1 => by rw [List.replicate_succ, List.flatten_cons, repA v k, List.replicate_succ]; rfl
theorem nums_rep {K : PySem.W.Frag} {H : Hp} {v : V} {q : Rat} (h : NumV K H v q) : ∀ k : Nat, Nums K H (List.replicate k v) (List.replicate k q)
 | 0 => .nil
 | k + 1 => .cons h (nums_rep h k)
theorem good_prL (os : List Rat) : Good (prL os) := by
 right
 refine ⟨1, ?_, by decide⟩
 have hl := prL_length os
 have := prL_lead os
 rw [List.getD_eq_getElem?_getD, List.getElem?_eq_getElem (by lia)] at this
 rw [show (prL os).length - 1 = os.length by lia, List.getElem?_eq_getElem (by lia)]
 exact congrArg some this
inductive spNoughtAt (K : PySem.W.Frag) (vs : List V) (H : Hp) (Q : VK) (E_3 : XK) : Prop
 | mk (l : Addr) (zs : List V) (qs : List Rat) (n : Nat) (h1 : vs = [.ref l]) (h2 : H l = some (.lst zs)) (h3 : Nums K H zs qs) (h4 : (∀ q ∈ qs, RB n q)) (h5 : 1 ≤ n) (h6 : n ≤ 1000) (h7 : qs.length ≤ 12) (h8 : ∀ (p : Addr) (H' : Hp), Same H H' → Crv K H' p (prL qs) → (∀ q ∈ prL qs, RB (28 * n + 400) q) → Q (.ref p) H') : spNoughtAt K vs H Q E_3
theorem exact_div {D os rs S : List Rat} (gD : Good D) (go : Good os) (gr : Good rs) (hrl : rs.length < (prL S).length) (hev : ∀ x, Cv.ev D x = Cv.ev os x * Cv.ev (prL S) x + Cv.ev rs x) (hn : S.Nodup) (hz : ∀ q ∈ S, Cv.ev D q = 0) : ∀ x, Cv.ev D x = prV x S * Cv.ev os x := by
 obtain ⟨M, hM⟩ := lines_of S hn hz
 have hl := prL_length S
 have h2 : ∀ x, Cv.ev D x = Cv.ev (Cv.strip M) x * Cv.ev (prL S) x + Cv.ev [] x := fun x => by rw [hM x, Cv.ev_strip, prL_ev]; show _ = _ + 0; grind
 have := div_one (good_prL S) (fun z => by rw [z] at hl; cases hl) go (good_strip M) gr (.inl rfl) hrl (by rw [hl]; exact Nat.succ_pos _) (fun x => by rw [← hev x, ← h2 x])
 intro x
 rw [hev x, this.2, prL_ev]
 show _ + 0 = _
 grind
theorem good_scale {l : List Rat} {w : Rat} (hg : Good l) (hw : w ≠ 0) : Good (l.map (· * w)) := by
 rcases hg with h | ⟨q, h1, h2⟩
 · left; rw [h]; rfl
 · right
   refine ⟨q * w, by rw [List.length_map, List.getElem?_map, h1]; rfl, fun z => ?_⟩
   rcases Rat.mul_eq_zero.mp z with z | z
   · exact h2 z
   · exact hw z
inductive spLowest (K : PySem.W.Frag) (vs : List V) (H : Hp) (Q : VK) (E_3 : XK) : Prop
 | mk (t lp pN pD : Addr) (zs : List V) (qs N D : List Rat) (G nx : Nat) (h1 : vs = [.ref t, .ref lp]) (h2 : SqT K H t [.ref pN, .ref pD]) (h3 : Crv K H pN N) (h4 : Crv K H pD D) (h5 : Good N) (h6 : Good D) (h7 : D ≠ []) (h8 : SqL K H lp zs) (h9 : Nums K H zs qs) (h10 : qs.Nodup) (h11 : qs.length ≤ 12) (h12 : N.length ≤ 13) (h13 : D.length ≤ 13) (h14 : (∀ c ∈ N, Bd G c.num ∧ Bd 1 (c.den : Int))) (h15 : (∀ c ∈ D, Bd G c.num ∧ Bd 1 (c.den : Int))) (h16 : (∀ q ∈ qs, RB nx q)) (h17 : 1 ≤ nx) (h18 : nx ≤ 1000) (h19 : G ≤ 5000000) (h20 : (∀ q ∈ qs, Cv.ev D q = 0 → Cv.ev N q = 0)) (h21 : ∀ (p a b : Addr) (H' : Hp) (n' d' : List Rat) (c : Rat), Same H H' → H' p = some (.tup [.ref a, .ref b]) → Crv K H' a n' → Crv K H' b d' → Good n' → Good d' → d'[d'.length - 1]? = some 1 → c ≠ 0 → (∀ x, Cv.ev N x = c * prV x (qs.filter fun q => decide (Cv.ev D q = 0)) * Cv.ev n' x) → (∀ x, Cv.ev D x = c * prV x (qs.filter fun q => decide (Cv.ev D q = 0)) * Cv.ev d' x) → n'.length ≤ N.length → d'.length ≤ D.length → (∀ q ∈ n', RB (2 * (G + 13 + 400 * (28 * nx + 400) + 1000) + 2) q) → (∀ q ∈ d', RB (2 * (G + 13 + 400 * (28 * nx + 400) + 1000) + 2) q) → Q (.ref p) H') : spLowest K vs H Q E_3
inductive spReaches (K : PySem.W.Frag) (vs : List V) (H : Hp) (Q : VK) (E_3 : XK) : Prop
 | mk (t rx ry pn pd : Addr) (n' d' : List Rat) (x y : Rat) (E nx ny : Nat) (h1 : vs = [.ref t, .ref rx, .ref ry]) (h2 : SqT K H t [.ref pn, .ref pd]) (h3 : Crv K H pn n') (h4 : Crv K H pd d') (h5 : (∀ c ∈ n', RB E c)) (h6 : (∀ c ∈ d', RB E c)) (h7 : n'.length ≤ 13) (h8 : d'.length ≤ 13) (h9 : NumV K H (.ref rx) x) (h10 : NumV K H (.ref ry) y) (h11 : RB nx x) (h12 : RB ny y) (h13 : E ≤ 3000000) (h14 : nx ≤ 1000) (h15 : ny ≤ 1000000) (h16 : ∀ H', Same H H' → Q (.bl (decide (Cv.ev d' x ≠ 0 ∧ Cv.ev n' x = y * Cv.ev d' x))) H') : spReaches K vs H Q E_3
inductive spCheckH (K : PySem.W.Frag) (vs : List V) (H : Hp) (Q : VK) (E_3 : XK) : Prop
 | mk (lp lh : Addr) (zs ys : List V) (qs : List Rat) (h1 : vs = [.ref lp, .ref lh]) (h2 : SqL K H lp zs) (h3 : NumsT H zs qs) (h4 : qs.Nodup) (h5 : 1 ≤ qs.length) (h6 : qs.length ≤ 12) (h7 : SqL K H lh ys) (h8 : ys.length = zs.length) (h9 : ∀ H', Same H H' → Q .non H') : spCheckH K vs H Q E_3
theorem strip_le {L : List Rat} {a : Nat} (h : ∀ j, a ≤ j → L.getD j 0 = 0) : (Cv.strip L).length ≤ a := by
 rcases Nat.lt_or_ge a (Cv.strip L).length with z | z
 · exfalso
   have hne : Cv.strip L ≠ [] := fun e => by rw [e] at z; cases z
   have hl := Cv.strip_last L hne
   have hc := coef_one (l := Cv.strip L) (m := L) (fun k => Cv.ev_strip _ L) ((Cv.strip L).length - 1)
   rw [h _ (by lia), List.getD_eq_getElem?_getD, List.getElem?_eq_getElem (by lia)] at hc
   exact hl (by rw [List.getElem?_eq_getElem (by lia)]; exact congrArg some hc)
 · exact z
theorem lc_zipF {K : PySem.W.Frag} {a b : Addr} {js : List Nat} {xs ys : List V} {tc : TT} {te : TE} {σ : St} {H : Hp} {Fin : List V → Hp → Prop} (Pv : Nat → List V → Hp → Prop) (h0 : Pv 0 [] H)
   (hl : ∀ i zs H, i ≤ min xs.length ys.length → Pv i zs H → SqL K H a xs ∧ SqL K H b ys ∧ zs.length ≤ i) (hz : min xs.length ys.length ≤ sizeLine)
   (hs : ∀ i x y T zs H, xs[i]? = some x → ys[i]? = some y → H T = none → Pv i zs H → tc (((cS 2 js σ).set 0 (some x)).set 1 (some y)) (upd H T (.tup [x, y])) fun b H3 => if b = true then te (((cS 2 js σ).set 0 (some x)).set 1 (some y)) H3 fun y H4 => Pv (i + 1) (zs ++ [y]) H4 else Pv (i + 1) zs H3) (fin : ∀ zs H', Pv (min xs.length ys.length) zs H' → Fin zs H') :
   ∃ (n' : Nat) (W : Nat → List V → Hp → Prop), W 0 [] H ∧ LcW (Itz K a b xs ys) n' 2 js σ (gTup K 2 (gCons (gName 0) (gCons (gName 1) gNil))) tc te Fin W := by
 refine ⟨min xs.length ys.length, Pv, h0, ⟨?_, ?_, ?_⟩⟩
 · intro i zs H' hi p
   obtain ⟨h1, h2, h3⟩ := hl i zs H' (Nat.le_of_lt hi) p
   exact ⟨⟨h1, h2, hi⟩, by lia⟩
 · rintro i zs H' x H1 hi p ⟨T, x1, y1, hx, hy, hT, rfl, rfl⟩
   exact ⟨T, _, rfl, SqT.of upd_same, rfl, _, _, rfl, _, _, rfl, rfl, hs i x1 y1 T zs _ hx hy hT p⟩
 · intro zs H' p
   obtain ⟨h1, h2, h3⟩ := hl _ zs H' (Nat.le_refl _) p
   exact ⟨⟨h1, h2, Nat.le_refl _⟩, by lia, fin zs H' p⟩
def leftL (qs hs n' d' : List Rat) : List Rat := ((qs.zip hs).filter fun p => !decide (Cv.ev d' p.1 ≠ 0 ∧ Cv.ev n' p.1 = p.2 * Cv.ev d' p.1)).map Prod.fst
inductive spQuo (K : PySem.W.Frag) (Pt : Addr) (vs : List V) (H : Hp) (Q : VK) (E_3 : XK) : Prop
 | mk (lp lh : Addr) (zs ys : List V) (qs hs : List Rat) (W n nx ny C : Nat) (h1 : vs = [.ref lp, .ref lh, .int (W : Int)]) (h2 : SqL K H lp zs) (h3 : NumsT H zs qs) (h4 : SqL K H lh ys) (h5 : Nums K H ys hs) (h6 : qs.length = n) (h7 : hs.length = n) (h8 : 1 ≤ n) (h9 : n ≤ 12) (h10 : qs.Nodup) (h11 : 1 ≤ W) (h12 : W ≤ n) (h13 : (∀ c ∈ qs, RB nx c)) (h14 : (∀ c ∈ hs, RB ny c)) (h15 : 1 ≤ nx) (h16 : nx ≤ 50) (h17 : ny ≤ 1000000) (h18 : (nx + 1) * (n + 3) + ny + 2 ≤ C) (h19 : (gAS C n).2 + 3 * C ≤ 700000) (h20 : CtOk Pt riseQ H) (h21 : ∀ (t a b l : Addr) (H' : Hp) (r1 r2 : Int) (N D N2 D2 n' d' rs : List Rat) (ls : List V) (c : Rat), SameB Pt H H' → CtOk Pt riseQ H' → SqT K H' t [.ref a, .ref b, .ref l] → Crv K H' a n' → Crv K H' b d' → Good n' → Good d' → d'[d'.length - 1]? = some 1 → c ≠ 0 → PInv (W : Int) ((n : Int) + 1 - W) n (qs.zip hs) r1 r2 N D N2 D2 → Cv.strip D ≠ [] → (∀ x, Cv.ev N x = c * prV x (qs.filter fun q => decide (Cv.ev D q = 0)) * Cv.ev n' x) → (∀ x, Cv.ev D x = c * prV x (qs.filter fun q => decide (Cv.ev D q = 0)) * Cv.ev d' x) → n'.length ≤ W → d'.length ≤ n + 1 - W → H' l = some (.lst ls) → Nums K H' ls rs → rs.Perm (leftL qs hs n' d') → rs.Pairwise (· ≤ ·) → (∀ q ∈ n', RB 3000000 q) → (∀ q ∈ d', RB 3000000 q) → Q (.ref t) H') : spQuo K Pt vs H Q E_3
inductive spLawT (K : PySem.W.Frag) (Pt : Addr) (vs : List V) (H : Hp) (Q : VK) (E_3 : XK) : Prop
 | mk (a : Addr) (ns : List Int) (h1 : vs = [.ref a]) (h2 : SqL K H a (ns.map V.int)) (h3 : ns.length ≤ 63) (h4 : H Pt = some (.tbl #[])) (h5 : ∀ H', Q (.bl true) H') : spLawT K Pt vs H Q E_3
theorem tb_mv {Pt p : Addr} {ps : Array Value} {H H' : Hp} (e : H Pt = some (.tbl ps)) (pn : Pen H p) (m : Mv p H H') : H' Pt = some (.tbl ps) := m _ _ (pn.ne e fun _ _ _ z => by cases z) e
theorem ct_new {Pt : Addr} {q : Str} {H : Hp} (e : H Pt = some (.tbl #[])) : CtOk Pt q H := ⟨#[], e, trivial, fun pos cv z => by cases z⟩
theorem numsT_but {Pt : Addr} {q : Str} {H H' : Hp} {xs : List V} {qs : List Rat} (h : NumsT H xs qs) (c : CtOk Pt q H) (m : SameB Pt H H') : NumsT H' xs qs := Paired.mapP h fun _ _ ⟨r, e, z⟩ => ⟨r, e, m _ _ (fun y => by
 obtain ⟨ps, e2, _⟩ := c
 rw [y, e2] at z; cases z) z⟩
theorem nT_i53 (k : Int) : nT ((k : Int) : Rat) = .tup [.int k, .int 1] := by
 unfold nT
 rw [Rat.num_intCast, Rat.den_intCast]
 rfl
theorem i53_inj {a b : Int} (h : ((a : Int) : Rat) = ((b : Int) : Rat)) : a = b := by
 have := congrArg Rat.num h
 rw [Rat.num_intCast, Rat.num_intCast] at this
 exact this
theorem len_mul {L M N : List Rat} (gL : Good L) (gM : Good M) (gN : Good N) (hM : M ≠ []) (hN : N ≠ []) (e : ∀ x, Cv.ev L x = Cv.ev M x * Cv.ev N x) : L.length + 1 = M.length + N.length := by
 have := good_one gL (good_mul gM gN hM hN) fun x => by rw [e x, ev_mulL]
 have h1 := List.length_pos_iff.mpr hM
 have h2 := List.length_pos_iff.mpr hN
 rw [this, mulL_length _ (by lia) _ (by lia)]
 lia
theorem quo_found {W n : Nat} {qs hs A U N D N2 D2 n' d' : List Rat} {r1 r2 : Int} {c : Rat} (hql : qs.length = n) (hhl : hs.length = n) (hnd : qs.Nodup) (hW1 : 1 ≤ W) (hWn : W ≤ n) (hA : A.length ≤ W) (hU : U.length ≤ n + 1 - W)
   (hon : ∀ i (h : i < n), Cv.ev A (qs[i]'(by lia)) = (hs[i]'(by lia)) * Cv.ev U (qs[i]'(by lia))) (hU0 : ∀ x ∈ qs, Cv.ev U x ≠ 0) (I : PInv (W : Int) ((n : Int) + 1 - W) n (qs.zip hs) r1 r2 N D N2 D2) (hD : Cv.strip D ≠ []) (hc : c ≠ 0)
   (evN : ∀ x, Cv.ev N x = c * prV x (qs.filter fun q => decide (Cv.ev D q = 0)) * Cv.ev n' x) (evD : ∀ x, Cv.ev D x = c * prV x (qs.filter fun q => decide (Cv.ev D q = 0)) * Cv.ev d' x) :
   (∀ x, Cv.ev n' x * Cv.ev U x = Cv.ev A x * Cv.ev d' x) ∧ leftL qs hs n' d' = [] := by
 have hfst : (qs.zip hs).map Prod.fst = qs := List.map_fst_zip (by lia)
 have hzl : (qs.zip hs).length = n := by rw [List.length_zip]; lia
 have hmem : ∀ pr ∈ qs.zip hs, ∃ i, ∃ h : i < n, pr = (qs[i]'(by lia), hs[i]'(by lia)) := fun pr hpr => by
   obtain ⟨i, hi, rfl⟩ := List.getElem_of_mem hpr
   exact ⟨i, by lia, List.getElem_zip ..⟩
 have hr1 := I.fin hzl
 have leA : RkLe (W : Int) ((n : Int) + 1 - W) 1 A U := ⟨fun j hj => by rw [List.getD_eq_getElem?_getD, List.getElem?_eq_none (by lia)]; rfl, fun j hj => by rw [List.getD_eq_getElem?_getD, List.getElem?_eq_none (by lia)]; rfl⟩
 have key := det_zero (qs := qs) I.le1 leA (n := n) (by lia) (by lia) hnd fun x hx => by
   obtain ⟨i, hi, rfl⟩ := List.getElem_of_mem hx
   have hm : (qs[i], hs[i]'(by lia)) ∈ qs.zip hs := by
     have : (qs.zip hs)[i]'(by lia) = (qs[i], hs[i]'(by lia)) := List.getElem_zip ..
     rw [← this]; exact List.getElem_mem _
   have h1 := I.on1 _ hm
   have h2 := hon i (by lia)
   have h1' : Cv.ev N qs[i] = hs[i]'(by lia) * Cv.ev D qs[i] := h1
   rw [h1', h2]; grind
 generalize hS : qs.filter (fun q => decide (Cv.ev D q = 0)) = S at evN evD
 have hSq : ∀ x ∈ S, x ∈ qs ∧ Cv.ev D x = 0 := fun x hx => by
   rw [← hS] at hx
   exact ⟨(List.mem_filter.mp hx).1, by simpa using (List.mem_filter.mp hx).2⟩
 have hSn : S.Nodup := by rw [← hS]; exact hnd.filter _
 have rel : ∀ x, Cv.ev n' x * Cv.ev U x = Cv.ev A x * Cv.ev d' x := fun x => by
   have hp : Cv.strip ((prL S).map (· * c)) ≠ [] := fun z => by
     have gg : Good ((prL S).map (· * c)) := good_scale (good_prL S) hc
     rw [strip_good gg] at z
     have hl := congrArg List.length z
     rw [List.length_map, prL_length] at hl
     cases hl
   have := cancelP (D := (prL S).map (· * c)) (A := mulL n' U) (B := mulL A d') hp (fun x => by
     rw [Cv.ev_scale, prL_ev, ev_mulL, ev_mulL]
     have k := key x
     rw [evN, evD] at k
     grind) x
   rw [ev_mulL, ev_mulL] at this
   exact this
 refine ⟨rel, ?_⟩
 have hd0 : ∀ x ∈ qs, Cv.ev d' x ≠ 0 := fun x hx z => by
   have hn0 : Cv.ev n' x = 0 := by
     have := rel x
     rw [z, Rat.mul_zero] at this
     rcases Rat.mul_eq_zero.mp this with w | w
     · exact w
     · exact absurd w (hU0 x hx)
   have hD0 : Cv.ev D x = 0 := by rw [evD, z, Rat.mul_zero]
   have hxS : x ∈ S := by rw [← hS]; exact List.mem_filter.mpr ⟨hx, decide_eq_true hD0⟩
   obtain ⟨s1, s2, hs12⟩ := List.append_of_mem hxS
   have hpr : ∀ t, prV t S = (t - x) * prV t (s1 ++ s2) := fun t => by
     rw [hs12]
     clear hs12 hxS hSq hSn hS evN evD
     induction s1 with
     | nil => rfl
     | cons o r ih =>
       show (t - o) * prV t (r ++ x :: s2) = (t - x) * ((t - o) * prV t (r ++ s2))
       rw [ih]; grind
   have hm : ∃ y, (x, y) ∈ qs.zip hs := by
     obtain ⟨i, hi, rfl⟩ := List.getElem_of_mem hx
     refine ⟨hs[i]'(by lia), ?_⟩
     have : (qs.zip hs)[i]'(by lia) = (qs[i], hs[i]'(by lia)) := List.getElem_zip ..
     rw [← this]; exact List.getElem_mem _
   refine I.once (by lia) (by rw [hfst]; exact hnd) hD (x := x) (A := mulL ((prL (s1 ++ s2)).map (· * c)) n') (B := mulL ((prL (s1 ++ s2)).map (· * c)) d') (fun t => ?_) (fun t => ?_) hm ⟨?_, ?_⟩
   · rw [evN, hpr, ev_mulL, Cv.ev_scale, prL_ev]; grind
   · rw [evD, hpr, ev_mulL, Cv.ev_scale, prL_ev]; grind
   · rw [ev_mulL, hn0, Rat.mul_zero]
   · rw [ev_mulL, z, Rat.mul_zero]
 unfold leftL
 have : (qs.zip hs).filter (fun p => !decide (Cv.ev d' p.1 ≠ 0 ∧ Cv.ev n' p.1 = p.2 * Cv.ev d' p.1)) = [] := by
   rw [List.filter_eq_nil_iff]
   intro pr hpr
   obtain ⟨i, hi, rfl⟩ := hmem pr hpr
   have hx : qs[i]'(by lia) ∈ qs := List.getElem_mem _
   have e1 := rel (qs[i]'(by lia))
   rw [hon i hi] at e1
   have e2 : Cv.ev n' (qs[i]'(by lia)) = (hs[i]'(by lia)) * Cv.ev d' (qs[i]'(by lia)) := by
     rcases Rat.mul_eq_zero.mp (show (Cv.ev n' (qs[i]'(by lia)) - (hs[i]'(by lia)) * Cv.ev d' (qs[i]'(by lia))) * Cv.ev U (qs[i]'(by lia)) = 0 by grind) with w | w
     · grind
     · exact absurd w (hU0 _ hx)
   rw [decide_eq_true ⟨hd0 _ hx, e2⟩]
   decide
 rw [this]; rfl
section
variable {X : Cx}
inductive rIndexN (K : PySem.W.Frag) (x : V) (vs : List V) (H : Hp) (Q : VK) : Prop
 | mk (l : _) (xs : _) (v : _) (qs : _) (q : _) (j : _) (h1 : x = .ref l) (h2 : vs = [v]) (h3 : SqL K H l xs) (h4 : Nums K H xs qs) (h5 : NumV K H v q) (h6 : qs[j]? = some q) (h7 : (∀ i, i < j → qs[i]? ≠ some q)) (h8 : j ≤ 1000) (h9 : Q (.int ((j : Nat) : Int)) H) : rIndexN K x vs H Q
open PySem.SeqAt in
theorem mt_indexN (K : PySem.W.Frag) {k : Nat} (hr : Room k X.A) (e0 : X.K = K := by rfl) : MtM X "list.index" (rIndexN K) := by
 subst e0
 intro pins s σ H x vs v us Q I rx rv h
 obtain ⟨l, xs, w, qs, q, j, rfl, rfl, hS, hn, hq, hj, hno, hj3, k⟩ := h
 cases rx
 obtain ⟨u, rfl, ru⟩ := rv.one
 obtain ⟨as, r1⟩ := reads_of I (hn.rdsL hS) (u := .ref l) rfl
 obtain ⟨bs, r2⟩ := reads_of I hq.rds ru
 have hxs : PyData.canLayAll0 (qs.map nD) = true := nDs_lay qs
 have hd : (nD q).canLay0 = true := canLay_of_shaped (nD_shaped q)
 have hu : X.A.units + 1 + min (PyData.depthAll (qs.map nD)) (nD q).depth < cLine := by
   have h1 : min (PyData.depthAll (qs.map nD)) (nD q).depth ≤ 1 := Nat.le_trans (Nat.min_le_right _ _) (Nat.le_refl 1)
   have := hr.un
   lia
 cases r1 with
 | list h1 h2 h3 h4 =>
   rename_i o vs' n' as'
   obtain ⟨cls, dd, data, sl⟩ := o
   try simp only at h2 h3
   subst h2 h3
   have hmap := readsAll_map _ _ _ hxs h4
   have hlen : vs'.toList.length = qs.length := by
     have := congrArg List.length hmap
     rwa [List.length_map, List.length_map] at this
   have hsz : vs'.size = qs.length := by rw [← Array.length_toList]; exact hlen
   obtain ⟨hjl, hjv⟩ := List.getElem?_eq_some_iff.mp hj
   have at_ : ∀ (i : Nat) (hi : i < vs'.size), readOf s.heap vs'[i] = nD (qs[i]'(by lia)) := fun i hi => by
     have e1 : (vs'.toList.map (readOf s.heap))[i]? = (qs.map nD)[i]? := by rw [hmap]
     rw [List.getElem?_map, List.getElem?_map, List.getElem?_eq_getElem (by lia), List.getElem?_eq_getElem (by lia)] at e1
     simpa using e1
   refine call_meets PySem.F.slot_list_index ⟨_, h1, rfl⟩ PySem.F.entry_list_index (PySem.F.args_list_index_2 _ _)
     (list_indexAt l vs' n' dd sl u (fun y => PyData.eqv (readOf s.heap y) (nD q)) j (by lia) (by lia) ?_ ?_) ⟨h1, items_eqAt h4 r2 hxs hd hu, ?_⟩
   · show PyData.eqv (readOf s.heap vs'[j]) (nD q) = true
     rw [at_ j (by lia), hjv, nD_eqv]; exact decide_eq_true rfl
   · intro m hm hmj
     show PyData.eqv (readOf s.heap vs'[m]) (nD q) = false
     rw [at_ m hm, nD_eqv]
     refine decide_eq_false fun z => hno m hmj ?_
     rw [List.getElem?_eq_getElem (by lia), z]
   · exact ⟨.int _, H, I.tok _, ⟨_, rfl⟩, k⟩
end
theorem ct_mv {Pt p : Addr} {q : Str} {H H' : Hp} (c : CtOk Pt q H) (pn : Pen H p) (m : Mv p H H') : CtOk Pt q H' := by
 obtain ⟨ps, e, t, c⟩ := c
 refine ⟨ps, tb_mv e pn m, t, fun pos cv z => ?_⟩
 obtain ⟨c', e', z'⟩ := c pos cv z
 exact ⟨c', e', m _ _ (pn.ne z' fun _ _ _ z => by cases z) z'⟩
theorem pen_but {Pt p : Addr} {q : Str} {H H' : Hp} (pn : Pen H p) (c : CtOk Pt q H) (m : SameB Pt H H') : Pen H' p := by
 obtain ⟨ps, e, _⟩ := c
 obtain ⟨c0, c1, k, z⟩ := pn
 exact ⟨c0, c1, k, m _ _ (fun y => by rw [y, e] at z; cases z) z⟩
theorem lst_but {Pt l : Addr} {q : Str} {H H' : Hp} {zs : List V} (e : H l = some (.lst zs)) (c : CtOk Pt q H) (m : SameB Pt H H') : H' l = some (.lst zs) := by
 obtain ⟨ps, e2, _⟩ := c
 exact m _ _ (fun y => by rw [y, e2] at e; cases e) e
theorem strip_zero : Cv.strip [(0 : Rat)] = [] := good_one (good_strip _) (.inl rfl) fun x => by rw [Cv.ev_strip]; show 0 + x * 0 = (0 : Rat); grind
theorem mono_one1 {d' : List Rat} (h : d'.length ≤ 1) (hl : d'[d'.length - 1]? = some 1) : d' = [1] := by
 match d', h, hl with
 | [a], _, hl => cases hl; rfl
theorem quo_low {W n : Nat} {qs hs N D N2 D2 d' : List Rat} {r1 r2 : Int} {c : Rat} {k : Nat} (I : PInv (W : Int) ((n : Int) + 1 - W) n (qs.zip hs) r1 r2 N D N2 D2) (hD : ∀ j, k ≤ j → D.getD j 0 = 0) (hc : c ≠ 0) (gd : Good d') (hd : d' ≠ [])
   (evD : ∀ x, Cv.ev D x = c * prV x (qs.filter fun q => decide (Cv.ev D q = 0)) * Cv.ev d' x) : d'.length + (qs.filter fun q => decide (Cv.ev D q = 0)).length ≤ k := by
 have hDl : (Cv.strip D).length ≤ k := strip_le hD
 generalize qs.filter (fun q => decide (Cv.ev D q = 0)) = S at evD ⊢
 have gS : Good ((prL S).map (· * c)) := good_scale (good_prL S) hc
 have hS : (prL S).map (· * c) ≠ [] := fun z => by
   have hl := congrArg List.length z
   rw [List.length_map, prL_length] at hl
   cases hl
 have := len_mul (good_strip D) gS gd hS hd fun x => by rw [Cv.ev_strip, evD x, Cv.ev_scale, prL_ev]; grind
 rw [List.length_map, prL_length] at this
 lia
theorem rank_of {W n : Nat} {qs hs A U N D N2 D2 : List Rat} {r1 r2 r0 : Int} (hql : qs.length = n) (hhl : hs.length = n) (hnd : qs.Nodup) (hWn : W ≤ n) (I : PInv (W : Int) ((n : Int) + 1 - W) n (qs.zip hs) r1 r2 N D N2 D2) (hle : RkLe (W : Int) ((n : Int) + 1 - W) r0 A U)
   (hon : ∀ i (h : i < n), Cv.ev A (qs[i]'(by lia)) = (hs[i]'(by lia)) * Cv.ev U (qs[i]'(by lia))) (hU : ∃ x, Cv.ev U x ≠ 0) : r1 ≤ r0 := by
 have hfst : (qs.zip hs).map Prod.fst = qs := List.map_fst_zip (by lia)
 have hzl : (qs.zip hs).length = n := by rw [List.length_zip]; lia
 rcases Int.lt_or_le r0 r1 with z | z
 · exfalso
   obtain ⟨x, hx⟩ := hU
   refine hx (I.least (by lia) (by rw [hfst]; exact hnd) z hle (fun pr hpr => ?_) x).2
   obtain ⟨i, hi, rfl⟩ := List.getElem_of_mem hpr
   rw [show (qs.zip hs)[i] = (qs[i]'(by lia), hs[i]'(by lia)) from List.getElem_zip ..]
   exact hon i (by lia)
 · exact z
theorem far_nil {L : List Rat} {j : Nat} (h : L.length ≤ j) : L.getD j 0 = 0 := by rw [List.getD_eq_getElem?_getD, List.getElem?_eq_none h]; rfl
theorem one_height {W n : Nat} {qs hs N D N2 D2 n' d' : List Rat} {r1 r2 : Int} {c h : Rat} (hql : qs.length = n) (hhl : hs.length = n) (hnd : qs.Nodup) (hW1 : 1 ≤ W) (hWn : W ≤ n) (hh : ∀ y ∈ hs, y = h)
   (I : PInv (W : Int) ((n : Int) + 1 - W) n (qs.zip hs) r1 r2 N D N2 D2) (hD : Cv.strip D ≠ []) (hc : c ≠ 0) (gn : Good n') (gd : Good d') (hlast : d'[d'.length - 1]? = some 1)
   (evN : ∀ x, Cv.ev N x = c * prV x (qs.filter fun q => decide (Cv.ev D q = 0)) * Cv.ev n' x) (evD : ∀ x, Cv.ev D x = c * prV x (qs.filter fun q => decide (Cv.ev D q = 0)) * Cv.ev d' x) :
   n' = Cv.strip [h] ∧ d' = [1] ∧ leftL qs hs n' d' = [] := by
 have eA : ∀ x, Cv.ev (Cv.strip [h]) x = h := fun x => by rw [Cv.ev_strip]; show h + x * 0 = h; grind
 have e1 : ∀ x, Cv.ev [1] x = (1 : Rat) := fun x => by show 1 + x * 0 = (1 : Rat); grind
 have hlA : (Cv.strip [h]).length ≤ 1 := strip_le fun j hj => far_nil hj
 have hon : ∀ i (z : i < n), Cv.ev (Cv.strip [h]) (qs[i]'(by lia)) = (hs[i]'(by lia)) * Cv.ev [1] (qs[i]'(by lia)) := fun i z => by rw [eA, e1, hh _ (List.getElem_mem _), Rat.mul_one]
 obtain ⟨rel, hleft⟩ := quo_found hql hhl hnd hW1 hWn (by lia) (show ([1] : List Rat).length ≤ n + 1 - W by show 1 ≤ _; lia) hon (fun x _ z => by rw [e1] at z; exact absurd z (by decide)) I hD hc evN evD
 have hd : d' ≠ [] := fun z => by rw [z] at hlast; cases hlast
 have hDj : ∀ j, 1 ≤ j → D.getD j 0 = 0 := by
   by_cases h0 : h = 0
   · have hr := rank_of (r0 := 2 * (1 - ((n : Int) + 1 - W)) + 1) hql hhl hnd hWn I (A := []) (U := [1]) ⟨fun j _ => rfl, fun j hj => far_nil (show 1 ≤ j by lia)⟩ (fun i z => by rw [hh _ (List.getElem_mem _), h0, Rat.zero_mul]; rfl) ⟨0, by rw [e1]; decide⟩
     exact fun j hj => I.le1.2 j (by lia)
   · rcases Int.le_total (2 * (1 - (W : Int))) (2 * (1 - ((n : Int) + 1 - W)) + 1) with w | w
     · have hr := rank_of (r0 := 2 * (1 - ((n : Int) + 1 - W)) + 1) hql hhl hnd hWn I (A := Cv.strip [h]) (U := [1]) ⟨fun j hj => far_nil (by lia), fun j hj => far_nil (show 1 ≤ j by lia)⟩ hon ⟨0, by rw [e1]; decide⟩
       exact fun j hj => I.le1.2 j (by lia)
     · have hr := rank_of (r0 := 2 * (1 - (W : Int))) hql hhl hnd hWn I (A := Cv.strip [h]) (U := [1]) ⟨fun j hj => far_nil (by lia), fun j hj => far_nil (show 1 ≤ j by lia)⟩ hon ⟨0, by rw [e1]; decide⟩
       have hNj : ∀ j, 1 ≤ j → N.getD j 0 = 0 := fun j hj => I.le1.1 j (by lia)
       have hev : ∀ x, Cv.ev (D.map (· * h)) x = Cv.ev N x := fun x => by
         rw [Cv.ev_scale, evN, evD]
         have := rel x
         rw [e1, eA, Rat.mul_one] at this
         rw [this]; grind
       intro j hj
       have hk := coef_one (l := D.map (· * h)) (m := N) (fun k => hev _) j
       rw [hNj j hj, List.getD_eq_getElem?_getD, List.getElem?_map] at hk
       rw [List.getD_eq_getElem?_getD]
       cases z : D[j]? with
       | none => rfl
       | some u =>
         rw [z] at hk
         rcases Rat.mul_eq_zero.mp (show u * h = 0 from hk) with y | y
         · exact y
         · exact absurd y h0
 have hlow := quo_low I hDj hc gd hd evD
 have ed := mono_one1 (by lia) hlast
 refine ⟨good_one gn (good_strip _) fun x => ?_, ed, hleft⟩
 have := rel x
 rw [e1, ed, e1, Rat.mul_one, Rat.mul_one] at this
 exact this
theorem left_lone {y : Rat} (hy : y ≠ 0) : ∀ (qs : List Rat) (s : Nat) (h : s < qs.length), ((qs.zip ((List.replicate qs.length (0 : Rat)).set s y)).filter fun p => !decide (Cv.ev [1] p.1 ≠ 0 ∧ Cv.ev [] p.1 = p.2 * Cv.ev [1] p.1)).map Prod.fst = [qs[s]]
 | [], s, h => absurd h (Nat.not_lt_zero _)
 | q :: r, s, h => by
   have e1 : ∀ x, Cv.ev [1] x = (1 : Rat) := fun x => by show 1 + x * 0 = (1 : Rat); grind
   have yes : ∀ z : Rat, (!decide (Cv.ev [1] z ≠ 0 ∧ Cv.ev [] z = 0 * Cv.ev [1] z)) = false := fun z => by
     rw [e1, decide_eq_true ⟨by decide, by show (0 : Rat) = 0 * 1; rw [Rat.zero_mul]⟩]; rfl
   match s, h with
   | 0, _ =>
     have hn : ∀ l : List Rat, (l.zip (List.replicate l.length (0 : Rat))).filter (fun p => !decide (Cv.ev [1] p.1 ≠ 0 ∧ Cv.ev [] p.1 = p.2 * Cv.ev [1] p.1)) = [] := fun l => by
       rw [List.filter_eq_nil_iff]
       rintro ⟨a, b⟩ hp
       have := List.eq_of_mem_replicate (List.of_mem_zip hp).2
       subst this
       rw [yes]; decide
     show (((q, y) :: r.zip (List.replicate r.length (0 : Rat))).filter _).map Prod.fst = [q]
     rw [List.filter_cons_of_pos, hn]
     · rfl
     · show (!decide (Cv.ev [1] q ≠ 0 ∧ Cv.ev [] q = y * Cv.ev [1] q)) = true
       rw [decide_eq_false]
       · rfl
       · rintro ⟨_, z⟩
         rw [e1, Rat.mul_one] at z
         exact hy z.symm
   | s + 1, h =>
     show (((q, (0 : Rat)) :: r.zip ((List.replicate r.length (0 : Rat)).set s y)).filter _).map Prod.fst = [r[s]'(Nat.lt_of_succ_lt_succ h)]
     rw [List.filter_cons_of_neg (by show ¬ (!decide (Cv.ev [1] q ≠ 0 ∧ Cv.ev [] q = 0 * Cv.ev [1] q)) = true; rw [yes]; decide)]
     exact left_lone hy r s (Nat.lt_of_succ_lt_succ h)
theorem one_other {W n s : Nat} {qs N D N2 D2 n' d' : List Rat} {r1 r2 : Int} {c y : Rat} (hql : qs.length = n) (hnd : qs.Nodup) (hWn : W < n) (hs : s < n) (hy : y ≠ 0)
   (I : PInv (W : Int) ((n : Int) + 1 - W) n (qs.zip ((List.replicate n (0 : Rat)).set s y)) r1 r2 N D N2 D2) (hc : c ≠ 0) (gn : Good n') (gd : Good d') (hlast : d'[d'.length - 1]? = some 1)
   (evN : ∀ x, Cv.ev N x = c * prV x (qs.filter fun q => decide (Cv.ev D q = 0)) * Cv.ev n' x) (evD : ∀ x, Cv.ev D x = c * prV x (qs.filter fun q => decide (Cv.ev D q = 0)) * Cv.ev d' x) :
   n' = [] ∧ d' = [1] ∧ leftL qs ((List.replicate n (0 : Rat)).set s y) n' d' = [qs[s]] := by
 have hd : d' ≠ [] := fun z => by rw [z] at hlast; cases hlast
 have hhl : ((List.replicate n (0 : Rat)).set s y).length = n := by rw [List.length_set, List.length_replicate]
 have hzl : (qs.zip ((List.replicate n (0 : Rat)).set s y)).length = n := by rw [List.length_zip]; lia
 have eU : ∀ x, Cv.ev [-qs[s], 1] x = x - qs[s] := fun x => by show -qs[s] + x * (1 + x * 0) = _; grind
 have hon : ∀ i (z : i < n), Cv.ev [] (qs[i]'(by lia)) = (((List.replicate n (0 : Rat)).set s y)[i]'(by lia)) * Cv.ev [-qs[s], 1] (qs[i]'(by lia)) := fun i z => by
   rw [eU, List.getElem_set]
   show (0 : Rat) = _
   by_cases e : s = i
   · subst e; rw [if_pos rfl]; grind
   · rw [if_neg e, List.getElem_replicate, Rat.zero_mul]
 have hle : RkLe (W : Int) ((n : Int) + 1 - W) (2 * (2 - ((n : Int) + 1 - W)) + 1) [] [-qs[s], 1] := ⟨fun j _ => rfl, fun j hj => far_nil (show 2 ≤ j by lia)⟩
 have hr := rank_of (r0 := 2 * (2 - ((n : Int) + 1 - W)) + 1) hql hhl hnd (by lia) I hle hon ⟨qs[s] + 1, fun z => by
   rw [eU] at z
   have : (1 : Rat) = 0 := by grind
   exact absurd this (by decide)⟩
 have key := det_zero (qs := qs) I.le1 hle (n := n) (by lia) (by have := I.fin hzl; lia) hnd fun x hx => by
   obtain ⟨i, hi, rfl⟩ := List.getElem_of_mem hx
   have hm : (qs[i], ((List.replicate n (0 : Rat)).set s y)[i]'(by lia)) ∈ qs.zip ((List.replicate n (0 : Rat)).set s y) := by
     have : (qs.zip ((List.replicate n (0 : Rat)).set s y))[i]'(by lia) = (qs[i], ((List.replicate n (0 : Rat)).set s y)[i]'(by lia)) := List.getElem_zip ..
     rw [← this]; exact List.getElem_mem _
   have h1 := I.on1 _ hm
   have h2 := hon i (by lia)
   have h1' : Cv.ev N qs[i] = ((List.replicate n (0 : Rat)).set s y)[i]'(by lia) * Cv.ev D qs[i] := h1
   rw [h1', h2]; grind
 have hN0 : ∀ x, Cv.ev (mulL N [-qs[s], 1]) x = Cv.ev [] x := fun x => by
   rw [ev_mulL, key x]; show 0 * _ = (0 : Rat); rw [Rat.zero_mul]
 have hNz : Cv.strip N = [] := by
   rcases Nat.eq_zero_or_pos (Cv.strip N).length with z | z
   · exact List.eq_nil_of_length_eq_zero z
   · have g2 : Good [-qs[s], (1 : Rat)] := .inr ⟨1, rfl, by decide⟩
     have := len_mul (L := []) (.inl rfl) (good_strip N) g2 (List.length_pos_iff.mp z) (by simp) fun x => by rw [Cv.ev_strip, key x]; show (0 : Rat) = 0 * _; rw [Rat.zero_mul]
     rw [List.length_nil] at this
     have h2 : [-qs[s], (1 : Rat)].length = 2 := rfl
     lia
 have hNx : ∀ x, Cv.ev N x = 0 := fun x => by rw [← Cv.ev_strip, hNz]; rfl
 have hDs : Cv.ev D qs[s] = 0 := by
   have hm : (qs[s], ((List.replicate n (0 : Rat)).set s y)[s]'(by lia)) ∈ qs.zip ((List.replicate n (0 : Rat)).set s y) := by
     have : (qs.zip ((List.replicate n (0 : Rat)).set s y))[s]'(by lia) = (qs[s], ((List.replicate n (0 : Rat)).set s y)[s]'(by lia)) := List.getElem_zip ..
     rw [← this]; exact List.getElem_mem _
   have h1 : Cv.ev N qs[s] = ((List.replicate n (0 : Rat)).set s y)[s]'(by lia) * Cv.ev D qs[s] := I.on1 _ hm
   rw [hNx, List.getElem_set_self] at h1
   rcases Rat.mul_eq_zero.mp h1.symm with w | w
   · exact absurd w hy
   · exact w
 have hlow := quo_low (k := 2) I (fun j hj => I.le1.2 j (by lia)) hc gd hd evD
 have hSp : 1 ≤ (qs.filter fun q => decide (Cv.ev D q = 0)).length := List.length_pos_iff.mpr (List.ne_nil_of_mem (List.mem_filter.mpr ⟨List.getElem_mem _, decide_eq_true hDs⟩))
 have ed := mono_one1 (by lia) hlast
 have en : n' = [] := by
   generalize qs.filter (fun q => decide (Cv.ev D q = 0)) = S at evN
   rcases Nat.eq_zero_or_pos n'.length with z | z
   · exact List.eq_nil_of_length_eq_zero z
   · have hS : (prL S).map (· * c) ≠ [] := fun z => by
       have hl := congrArg List.length z
       rw [List.length_map, prL_length] at hl
       cases hl
     have := len_mul (L := []) (.inl rfl) (good_scale (good_prL S) hc) gn hS (List.length_pos_iff.mp z) fun x => by
       rw [Cv.ev_scale, prL_ev]
       have := evN x
       rw [hNx] at this
       show (0 : Rat) = _
       rw [this]; grind
     rw [List.length_nil, List.length_map, prL_length] at this
     lia
 refine ⟨en, ed, ?_⟩
 rw [en, ed]
 subst hql
 exact left_lone hy qs s hs
theorem full_found {n : Nat} {qs hs N D N2 D2 n' d' : List Rat} {r1 r2 : Int} {c : Rat} (hql : qs.length = n) (hhl : hs.length = n)
   (I : PInv (n : Int) ((n : Int) + 1 - n) n (qs.zip hs) r1 r2 N D N2 D2) (hc : c ≠ 0) (gd : Good d') (hlast : d'[d'.length - 1]? = some 1)
   (evN : ∀ x, Cv.ev N x = c * prV x (qs.filter fun q => decide (Cv.ev D q = 0)) * Cv.ev n' x) (evD : ∀ x, Cv.ev D x = c * prV x (qs.filter fun q => decide (Cv.ev D q = 0)) * Cv.ev d' x) :
   d' = [1] ∧ (∀ i (h : i < n), Cv.ev n' (qs[i]'(by lia)) = hs[i]'(by lia)) ∧ leftL qs hs n' d' = [] := by
 have hd : d' ≠ [] := fun z => by rw [z] at hlast; cases hlast
 have hzl : (qs.zip hs).length = n := by rw [List.length_zip]; lia
 have hr := I.fin hzl
 have hlow := quo_low (k := 1) I (fun j hj => I.le1.2 j (by lia)) hc gd hd evD
 have hdl := List.length_pos_iff.mpr hd
 have ed := mono_one1 (by lia) hlast
 have hS : qs.filter (fun q => decide (Cv.ev D q = 0)) = [] := List.eq_nil_of_length_eq_zero (by lia)
 rw [hS] at evN evD
 have e1 : ∀ x, Cv.ev d' x = (1 : Rat) := fun x => by rw [ed]; show 1 + x * 0 = (1 : Rat); grind
 have hat : ∀ i (h : i < n), Cv.ev n' (qs[i]'(by lia)) = hs[i]'(by lia) := fun i h => by
   have hm : (qs[i]'(by lia), hs[i]'(by lia)) ∈ qs.zip hs := by
     have : (qs.zip hs)[i]'(by lia) = (qs[i]'(by lia), hs[i]'(by lia)) := List.getElem_zip ..
     rw [← this]; exact List.getElem_mem _
   have h1 : Cv.ev N (qs[i]'(by lia)) = hs[i]'(by lia) * Cv.ev D (qs[i]'(by lia)) := I.on1 _ hm
   rw [evN, evD, e1] at h1
   have h2 : c * (Cv.ev n' (qs[i]'(by lia)) - hs[i]'(by lia)) = 0 := by
     have p1 : prV (qs[i]'(by lia)) [] = 1 := rfl
     rw [p1] at h1
     grind
   rcases Rat.mul_eq_zero.mp h2 with w | w
   · exact absurd w hc
   · grind
 refine ⟨ed, hat, ?_⟩
 unfold leftL
 have : (qs.zip hs).filter (fun p => !decide (Cv.ev d' p.1 ≠ 0 ∧ Cv.ev n' p.1 = p.2 * Cv.ev d' p.1)) = [] := by
   rw [List.filter_eq_nil_iff]
   intro pr hpr
   obtain ⟨i, hi, rfl⟩ := List.getElem_of_mem hpr
   rw [show (qs.zip hs)[i] = (qs[i]'(by lia), hs[i]'(by lia)) from List.getElem_zip ..]
   show ¬ (!decide (Cv.ev d' (qs[i]'(by lia)) ≠ 0 ∧ Cv.ev n' (qs[i]'(by lia)) = (hs[i]'(by lia)) * Cv.ev d' (qs[i]'(by lia)))) = true
   rw [e1, hat i (by lia), decide_eq_true ⟨by decide, by rw [Rat.mul_one]⟩]
   decide
 rw [this]; rfl
def r23 : Rat := ⟨-2, 3, by decide, by decide⟩
theorem nT_r23 : nT r23 = .tup [.int (0 - 2), .int 3] := rfl
theorem rat23 : r23 ≠ 0 := fun z => by
 have := congrArg Rat.num z
 exact absurd this (by decide)
theorem rb_r23 : RB 8 r23 := ⟨by unfold Bd; decide, by unfold Bd; decide⟩
theorem full_long {qs n' : List Rat} {s : Nat} {y : Rat} (hs : s < qs.length) (hnd : qs.Nodup) (hy : y ≠ 0) (hl : n'.length ≤ qs.length) (hat : ∀ i (h : i < qs.length), Cv.ev n' qs[i] = ((List.replicate qs.length (0 : Rat)).set s y)[i]'(by rw [List.length_set, List.length_replicate]; exact h)) : n'.length = qs.length := by
 rcases Nat.lt_or_ge n'.length qs.length with z | z
 · exfalso
   have := vanish_all (qs.eraseIdx s) (l := n') (hnd.eraseIdx s) (by rw [List.length_eraseIdx, if_pos hs]; lia) (fun q hq => by
     obtain ⟨i, hi, hne, rfl⟩ : ∃ i, ∃ h : i < qs.length, i ≠ s ∧ qs[i] = q := by
       obtain ⟨i, hn, hg⟩ := List.mem_eraseIdx_iff_getElem?.mp hq
       obtain ⟨hi, he⟩ := List.getElem?_eq_some_iff.mp hg
       exact ⟨i, hi, hn, he⟩
     rw [hat i hi, List.getElem_set_ne (Ne.symm hne), List.getElem_replicate]) qs[s]
   rw [hat s hs, List.getElem_set_self] at this
   exact hy this
 · lia
theorem eq3 {K : PySem.W.Frag} {H : Hp} {a b a1 a2 b1 b2 l1 l2 : Addr} {us vs : List V} {os rs ls : List Rat} {Q : VK} {neg : Bool} (h1 : SqT K H a [.ref a1, .ref a2, .ref l1]) (c1 : Crv K H a1 os) (c2 : Crv K H a2 rs) (s1 : SqL K H l1 us) (n1 : Nums K H us ls) (h2 : SqT K H b [.ref b1, .ref b2, .ref l2]) (d1 : Crv K H b1 os) (d2 : Crv K H b2 rs) (s2 : SqL K H l2 vs) (n2 : Nums K H vs ls)
   (h : Q (.bl (if neg then !true else true)) H) : rEqD K neg (.ref a) (.ref b) H Q := by
 have rd : ∀ {p1 p2 p3 : Addr} {us : List V}, Crv K H p1 os → Crv K H p2 rs → SqL K H p3 us → Nums K H us ls → ∀ (i : Nat) (x : V) (d : PyData), [V.ref p1, V.ref p2, V.ref p3][i]? = some x → ([.tuple (os.map nD), .tuple (rs.map nD), .list (ls.map nD)] : List PyData)[i]? = some d → Rds K H x d := by
   rintro p1 p2 p3 us ⟨xs, s, n⟩ ⟨ys, s', n'⟩ s3 n3 i x d e1 e2
   match i with
   | 0 => simp at e1 e2; subst e1; subst e2; exact n.rdsT s
   | 1 => simp at e1 e2; subst e1; subst e2; exact n'.rdsT s'
   | 2 => simp at e1 e2; subst e1; subst e2; exact n3.rdsL s3
   | i + 3 => simp at e1
 have sh : SeqAt.shaped (.tuple [.tuple (os.map nD), .tuple (rs.map nD), .list (ls.map nD)]) = true := by
   show ((PyData.canLayAll0 (os.map nD) && (PyData.canLayAll0 (rs.map nD) && (PyData.canLayAll0 (ls.map nD) && true))) && decide (max (PyData.depthAll (os.map nD) + 1) (max (PyData.depthAll (rs.map nD) + 1) (max (PyData.depthAll (ls.map nD) + 1) 0)) + 1 ≤ 64)) = true
   have h1 := nDs_depth os
   have h2 := nDs_depth rs
   have h3 := nDs_depth ls
   rw [nDs_lay, nDs_lay, nDs_lay, decide_eq_true (by lia)]; rfl
 refine eqD_of ⟨_, _, .tup h1 rfl (rd c1 c2 s1 n1), .tup h2 rfl (rd d1 d2 s2 n2), sh, sh, ?_⟩
 have e : PyData.eqv (.tuple [.tuple (os.map nD), .tuple (rs.map nD), .list (ls.map nD)]) (.tuple [.tuple (os.map nD), .tuple (rs.map nD), .list (ls.map nD)]) = true := by
   show (PyData.eqvAll (os.map nD) (os.map nD) && (PyData.eqvAll (rs.map nD) (rs.map nD) && (PyData.eqvAll (ls.map nD) (ls.map nD) && true))) = true
   rw [nDs_eqv, nDs_eqv, nDs_eqv, decide_eq_true rfl, decide_eq_true rfl, decide_eq_true rfl]; rfl
 rw [e]; exact h
section
variable {P : Program} {w : World} {K : PySem.W.Frag} {mg : Str → Option Value} {base : Heap}
theorem sc__law_pen : FnScope ["_law_script", "_law_k", "_law_cell"] ["_law_script", "_law_k"] (defScope (top 45)) := ⟨rfl, rfl, rfl, by decide +kernel, rfl, by decide +kernel, by decide +kernel⟩
set_option maxHeartbeats 4000000 in
theorem ok__law_pen {f : Addr} {fd : FuncData} (F : Fun K "_law_pen" "_law_pen" (top 45) f fd) (b_len : mg "len" = none) (hT : P.given.tree = none) :
   FnOk P w K mg base CX0 33 f fd ["_law_script", "_law_k"] (spPen K) := by
 refine F.ok sc__law_pen (fun vs H Q E h => ?_) (fun cdv A outer s H vs Q E hr h => ?_)
 · obtain ⟨_, _, _, rfl, _⟩ := h; rfl
 refine ⟨_, (@pss_consC _ _ _ _ _ K _ (@ps_set _ _ 2 _ _ _ _ sc__law_pen.nd rfl (Or.inl rfl) (@pe_op _ _ _ _ _ _ _ _ op_add (@pe_op _ _ _ _ _ _ _ _ op_mulC pe_int (pv 1)) pe_int) (by rfl) (by first   | exact .inl rfl   | exact .inr rfl   | assumption)) (@pss_consC _ _ _ _ _ K _ (@ps_ifC _ _ _ _ _ _ _ _ K _ _ (@pt_cmpR _ _ _ _ _ _ _ _ op_lt (pv 1) (@pe_callB _ _ _ _ _ _ _ _ _ (lenK K) rfl b_len bt_len (@pa_cons _ _ _ _ _ (pv 0) pa_nil (by rfl)) (by decide) (by decide) (by rfl) (by rfl)) (nomark _)) (@pss_one _ _ _ (@ps_set _ _ 2 _ _ _ _ sc__law_pen.nd rfl (Or.inl rfl) (@pe_ix _ _ _ _ _ _ _ (ixL K) (pv 0) (pv 1) (fun u v => rfl)) (by rfl) (by first   | exact .inl rfl   | exact .inr rfl   | assumption))) (@pss_one _ _ _ (@ps_ifC _ _ _ _ _ _ _ _ K _ _ (@pt_cmpR _ _ _ _ _ _ _ _ op_gt (@pe_callB _ _ _ _ _ _ _ _ _ (lenK K) rfl b_len bt_len (@pa_cons _ _ _ _ _ (pv 0) pa_nil (by rfl)) (by decide) (by decide) (by rfl) (by rfl)) pe_int (nomark _)) (@pss_one _ _ _ (@ps_set _ _ 2 _ _ _ _ sc__law_pen.nd rfl (Or.inl rfl) (@pe_op _ _ _ _ _ _ _ _ op_add (@pe_ix _ _ _ _ _ _ _ (ixL K) (pv 0) (@pe_op _ _ _ _ _ _ _ _ op_mod (pv 1) (@pe_callB _ _ _ _ _ _ _ _ _ (lenK K) rfl b_len bt_len (@pa_cons _ _ _ _ _ (pv 0) pa_nil (by rfl)) (by decide) (by decide) (by rfl) (by rfl))) (fun u v => rfl)) (@pe_op _ _ _ _ _ _ _ _ op_mulC pe_int (pv 1))) (by rfl) (by first   | exact .inl rfl   | exact .inr rfl   | assumption))) pss_nil (by rfl) (by rfl))) (by rfl) (by rfl)) (@pss_consC _ _ _ _ _ K _ (@ps_ifC _ _ _ _ _ _ _ _ K _ _ (@pt_cmpR _ _ _ _ _ _ _ _ op_ge (pv 2) (@pe_op _ _ _ _ _ _ _ _ op_pow pe_int pe_int) (nomark _)) (@pss_one _ _ _ (@ps_ret _ _ _ _ (@pe_lst _ _ _ _ (@pa_cons _ _ _ _ _ (@pe_op _ _ _ _ _ _ _ _ op_sub (pv 2) (@pe_op _ _ _ _ _ _ _ _ op_pow pe_int pe_int)) (@pa_cons _ _ _ _ _ (@pe_op _ _ _ _ _ _ _ _ op_mod (pv 2) pe_int) (@pa_cons _ _ _ _ _ pe_int pa_nil (by rfl)) (by rfl)) (by rfl))))) pss_nil (by rfl) (by rfl)) (@pss_one _ _ _ (@ps_ret _ _ _ _ (@pe_lst _ _ _ _ (@pa_cons _ _ _ _ _ pe_int (@pa_cons _ _ _ _ _ (@pe_op _ _ _ _ _ _ _ _ op_add (@pe_op _ _ _ _ _ _ _ _ op_mod (pv 2) pe_int) (@pe_op _ _ _ _ _ _ _ _ op_mulC pe_int (pv 1))) (@pa_cons _ _ _ _ _ pe_int pa_nil (by rfl)) (by rfl)) (by rfl))))) (by rfl)) (by rfl)) (by rfl)), ?_⟩
 obtain ⟨a, ns, k, rfl, hS, h63, h0, h62, q⟩ := h
 have hl : (ns.map V.int).length = ns.length := List.length_map _
 have P3 : 3 ≤ sizeLine := by decide
 have C1 : CPow 10 18 := by unfold CPow; decide
 refine ⟨_, rfl, _, _, rfl, rfl, .inl ⟨by decide, by decide⟩, _, _, rfl, rfl, ?_⟩
 refine ⟨_, rfl, _, rfl, a, _, rfl, .inl hS, _, _, rfl, rfl, _, rfl, ?_⟩
 rw [hl]
 have hk1 : k < (ns.length : Int) → ∃ v : Int, atI (ns.map V.int) k = some (.int v) := fun c => at_ints h0 c
 have hk2 : 0 < (ns.length : Int) → ∃ v : Int, atI (ns.map V.int) (k % (ns.length : Int)) = some (.int v) := fun c => at_ints (Int.emod_nonneg _ (by lia)) (Int.emod_lt_of_pos _ c)
 refine ite2 (fun c => ?_) (fun c => ?_)
 · obtain ⟨v, hv⟩ := (hk1 (of_decide_eq_true c))
   refine ⟨_, rfl, _, rfl, a, _, _, _, rfl, rfl, hS, hv, ?_⟩
   refine ⟨_, rfl, _, _, rfl, rfl, C1, _, _, rfl, rfl, _, rfl, ?_⟩
   refine ite2 (fun c => ?_) (fun c => ?_)
   · exact ⟨_, rfl, _, _, rfl, rfl, C1, _, _, rfl, rfl, _, rfl, _, _, rfl, rfl, (by first | decide | (dsimp only; decide)), P3, fun p hp => q p _ _ hp⟩
   · exact ⟨_, rfl, _, _, rfl, rfl, (by first | decide | (dsimp only; decide)), _, rfl, _, _, rfl, rfl, .inl ⟨by decide, by decide⟩, _, _, rfl, rfl, P3, fun p hp => q p _ _ hp⟩
 · refine ⟨_, rfl, a, _, rfl, .inl hS, _, _, rfl, rfl, _, rfl, ?_⟩
   rw [hl]
   refine ite2 (fun c => ?_) (fun c => ?_)
   · obtain ⟨v, hv⟩ := (hk2 (of_decide_eq_true c))
     have c' : 0 < (((ns.map V.int).length : Nat) : Int) := by rw [hl]; exact of_decide_eq_true c
     rw [← hl] at hv
     refine ⟨_, rfl, _, rfl, _, rfl, a, _, rfl, .inl hS, _, _, rfl, rfl, c', a, _, _, _, rfl, rfl, hS, hv, _, rfl, _, _, rfl, rfl, .inl ⟨by decide, by decide⟩, _, _, rfl, rfl, ?_⟩
     refine ⟨_, rfl, _, _, rfl, rfl, C1, _, _, rfl, rfl, _, rfl, ?_⟩
     refine ite2 (fun c => ?_) (fun c => ?_)
     · exact ⟨_, rfl, _, _, rfl, rfl, C1, _, _, rfl, rfl, _, rfl, _, _, rfl, rfl, (by first | decide | (dsimp only; decide)), P3, fun p hp => q p _ _ hp⟩
     · exact ⟨_, rfl, _, _, rfl, rfl, (by first | decide | (dsimp only; decide)), _, rfl, _, _, rfl, rfl, .inl ⟨by decide, by decide⟩, _, _, rfl, rfl, P3, fun p hp => q p _ _ hp⟩
   · refine ⟨_, rfl, _, _, rfl, rfl, C1, _, _, rfl, rfl, _, rfl, ?_⟩
     refine ite2 (fun c => ?_) (fun c => ?_)
     · exact ⟨_, rfl, _, _, rfl, rfl, C1, _, _, rfl, rfl, _, rfl, _, _, rfl, rfl, (by first | decide | (dsimp only; decide)), P3, fun p hp => q p _ _ hp⟩
     · exact ⟨_, rfl, _, _, rfl, rfl, (by first | decide | (dsimp only; decide)), _, rfl, _, _, rfl, rfl, .inl ⟨by decide, by decide⟩, _, _, rfl, rfl, P3, fun p hp => q p _ _ hp⟩
theorem sc__law_lowest : FnScope ["_law_top", "_law_bottom", "_law_one", "_law_other"] ["_law_top", "_law_bottom"] (defScope (top 47)) := ⟨rfl, rfl, rfl, by decide +kernel, rfl, by decide +kernel, by decide +kernel⟩
set_option maxHeartbeats 4000000 in
theorem ok__law_lowest {f : Addr} {fd : FuncData} (F : Fun K "_law_lowest" "_law_lowest" (top 47) f fd) (b_abs : mg "abs" = none) (hT : P.given.tree = none) :
   FnOk P w K mg base CX0 33 f fd ["_law_top", "_law_bottom"] (spLow) := by
 refine F.ok sc__law_lowest (fun vs H Q E h => ?_) (fun cdv A outer s H vs Q E hr h => ?_)
 · obtain ⟨_, _, rfl, _⟩ := h; rfl
 refine ⟨_, (@pss_consC _ _ _ _ _ K _ (@ps_set _ _ 2 _ _ _ _ sc__law_lowest.nd rfl (Or.inl rfl) (@pe_callB _ _ _ _ _ _ _ _ _ call_abs rfl b_abs bt_abs (@pa_cons _ _ _ _ _ (pv 0) pa_nil (by rfl)) (by decide) (by decide) (by rfl) (by rfl)) (by rfl) (by first   | exact .inl rfl   | exact .inr rfl   | assumption)) (@pss_consC _ _ _ _ _ K _ (@ps_set _ _ 3 _ _ _ _ sc__law_lowest.nd rfl (Or.inl rfl) (@pe_callB _ _ _ _ _ _ _ _ _ call_abs rfl b_abs bt_abs (@pa_cons _ _ _ _ _ (pv 1) pa_nil (by rfl)) (by decide) (by decide) (by rfl) (by rfl)) (by rfl) (by first   | exact .inl rfl   | exact .inr rfl   | assumption)) (@pss_consC _ _ _ _ _ K _ (@ps_while _ _ _ _ _ _ PassesOwn.never (@pt_cmpR _ _ _ _ _ _ _ _ op_gt (pv 3) pe_int (nomark _)) (@pss_one _ _ _ (@ps_par _ _ 2 3 _ _ _ _ _ _ _ _ _ _ _ rfl sc__law_lowest.nd rfl rfl (by decide) rfl rfl (@pa_cons _ _ _ _ _ (pv 3) (@pa_cons _ _ _ _ _ (@pe_op _ _ _ _ _ _ _ _ op_mod (pv 2) (pv 3)) pa_nil (by rfl)) (by rfl)) (by with_unfolding_all rfl) (by rfl)))) (@pss_consC _ _ _ _ _ K _ (@ps_ifC _ _ _ _ _ _ _ _ K _ _ (@pt_cmpR _ _ _ _ _ _ _ _ op_lt (pv 1) pe_int (nomark _)) (@pss_one _ _ _ (@ps_set _ _ 2 _ _ _ _ sc__law_lowest.nd rfl (Or.inl rfl) (@pe_op _ _ _ _ _ _ _ _ op_sub pe_int (pv 2)) (by rfl) (by first   | exact .inl rfl   | exact .inr rfl   | assumption))) pss_nil (by rfl) (by rfl)) (@pss_one _ _ _ (@ps_ret _ _ _ _ (@pe_tup _ _ _ _ _ (@pa_cons _ _ _ _ _ (@pe_op _ _ _ _ _ _ _ _ (op_fdivX hr hT) (pv 0) (pv 2)) (@pa_cons _ _ _ _ _ (@pe_op _ _ _ _ _ _ _ _ (op_fdivX hr hT) (pv 1) (pv 2)) pa_nil (by rfl)) (by rfl))))) (by rfl)) (by rfl)) (by rfl)) (by rfl)), ?_⟩
 obtain ⟨a, b, rfl, hb, q⟩ := h
 refine ⟨_, rfl, a, rfl, ?_⟩
 refine ⟨_, rfl, b, rfl, ?_⟩
 refine while_by (L3 H a b fun H a b σ H' => H' = H ∧ ∃ (x y : Int), σ = [some (.int a), some (.int b), some (.int x), some (.int y)] ∧ 0 ≤ x ∧ 0 ≤ y ∧ Int.gcd x y = Int.gcd a b) (fun σ _ => mu 3 σ)
   ⟨rfl, _, _, rfl, ?_, ?_, ?_⟩ ?_ ?_
 · rw [Nm.abs_if]; exact Int.natCast_nonneg _
 · rw [Nm.abs_if]; exact Int.natCast_nonneg _
 · rw [Nm.abs_if, Nm.abs_if]; rfl
 · rintro σ H' hR1
   refine anE2 hR1 fun hq1 hz3 => ?_
   refine exE2 hz3 fun x y hz3' => ?_
   clear hz3
   refine anE4 hz3' fun hq2 hx hy hg => ?_
   clear hz3'
   obtain rfl := hq1
   obtain rfl := hq2
   try clear hR1
   refine ⟨_, rfl, _, _, rfl, rfl, _, rfl, ?_⟩
   by_cases hy0 : y = 0
   · subst hy0
     refine iteF ?_
     have e : (Int.gcd a b : Int) = x := by rw [← hg, Int.gcd_zero]; lia
     subst e
     refine ⟨_, rfl, _, _, rfl, rfl, _, rfl, ?_⟩
     have hd : Nm.msr a b ≠ 0 := Nm.msr_ne hb
     have fin : ∀ p, H' p = none → Q (.ref p) (upd H' p (.tup [.int (a.fdiv (Nm.msr a b)), .int (b.fdiv (Nm.msr a b))])) := fun p hp => by
       rw [Nm.top_msr hb, Nm.bottom_msr hb]; exact q p hp
     by_cases hb0 : b < 0
     · have hd' : Nm.msr a b = 0 - (Int.gcd a b : Int) := by unfold Nm.msr; rw [if_pos hb0]; lia
       rw [hd'] at hd fin
       refine iteTc (by rw [decide_eq_true hb0] <;> rfl) ⟨_, rfl, _, _, rfl, rfl, ?_⟩
       exact ⟨_, rfl, _, rfl, _, _, rfl, rfl, hd, _, rfl, _, rfl, _, _, rfl, rfl, hd, (by decide : 2 ≤ sizeLine), fin⟩
     · have hd' : Nm.msr a b = (Int.gcd a b : Int) := by unfold Nm.msr; rw [if_neg hb0]
       rw [hd'] at hd fin
       refine iteFc (by rw [decide_eq_false hb0] <;> rfl) ?_
       exact ⟨_, rfl, _, rfl, _, _, rfl, rfl, hd, _, rfl, _, rfl, _, _, rfl, rfl, hd, (by decide : 2 ≤ sizeLine), fin⟩
   · have hyp : 0 < y := by lia
     refine iteTc (by rw [decide_eq_true hyp] <;> rfl) ?_
     refine ⟨_, rfl, _, rfl, _, rfl, _, _, rfl, rfl, hyp, _, _, rfl, ⟨rfl, y, x % y, rfl, hy, Int.emod_nonneg _ hy0, ?_⟩, ?_⟩
     · rw [Nm.gcd_turn]; exact hg
     · show (x % y).toNat < y.toNat
       have := Int.emod_lt_of_pos x hyp
       lia
 · rintro σ H' Q1 Q2 hm hR2
   obtain ⟨v, e, i, j, e1, e2, k, ek, q1⟩ := hR2
   try clear hR2
   exact ⟨v, e, i, j, e1, e2, k, ek, hm _ _ q1⟩
theorem sc__law_draw : FnScope ["_law_pen_here", "_law_many", "_law_drawn", "_law_number_here"] ["_law_pen_here", "_law_many"] (defScope (top 46)) := ⟨rfl, rfl, rfl, by decide +kernel, rfl, by decide +kernel, by decide +kernel⟩
set_option maxHeartbeats 4000000 in
theorem ok__law_draw {f : Addr} {fd : FuncData} (F : Fun K "_law_draw" "_law_draw" (top 46) f fd) (hT : P.given.tree = none) :
   FnOk P w K mg base CX0 33 f fd ["_law_pen_here", "_law_many"] (spDraw) := by
 refine F.ok sc__law_draw (fun vs H Q E h => ?_) (fun cdv A outer s H vs Q E hr h => ?_)
 · obtain ⟨_, _, rfl, _⟩ := h; rfl
 refine ⟨_, (@pss_consC _ _ _ _ _ K _ (@ps_asg _ _ _ _ _ _ (@pe_op _ _ _ _ _ _ _ _ op_add (@pe_ix _ _ _ _ _ _ _ (ixL K) (pv 0) pe_int (fun u v => rfl)) pe_int) (@pg_sub _ _ _ _ _ _ _ (pv 0) pe_int set_list (by intro _; rfl)) (by rfl) (by rfl) (by rfl)) (@pss_consC _ _ _ _ _ K _ (@ps_ifC _ _ _ _ _ _ _ _ K _ _ (@pt_cmpR _ _ _ _ _ _ _ _ op_gt (@pe_ix _ _ _ _ _ _ _ (ixL K) (pv 0) pe_int (fun u v => rfl)) pe_int (nomark _)) (@pss_consC _ _ _ _ _ K _ (@ps_set _ _ 2 _ _ _ _ sc__law_draw.nd rfl (Or.inl rfl) (@pe_op _ _ _ _ _ _ _ _ op_mod (@pe_ix _ _ _ _ _ _ _ (ixL K) (pv 0) pe_int (fun u v => rfl)) (pv 1)) (by rfl) (by first   | exact .inl rfl   | exact .inr rfl   | assumption)) (@pss_consC _ _ _ _ _ K _ (@ps_asg _ _ _ _ _ _ (@pe_op _ _ _ _ _ _ _ _ (op_fdivX hr hT) (@pe_ix _ _ _ _ _ _ _ (ixL K) (pv 0) pe_int (fun u v => rfl)) (pv 1)) (@pg_sub _ _ _ _ _ _ _ (pv 0) pe_int set_list (by intro _; rfl)) (by rfl) (by rfl) (by rfl)) (@pss_one _ _ _ (@ps_ret _ _ _ _ (pv 2))) (by rfl)) (by rfl)) pss_nil (by rfl) (by rfl)) (@pss_consC _ _ _ _ _ K _ (@ps_set _ _ 3 _ _ _ _ sc__law_draw.nd rfl (Or.inl rfl) (@pe_op _ _ _ _ _ _ _ _ op_mod (@pe_op _ _ _ _ _ _ _ _ op_mulC (@pe_op _ _ _ _ _ _ _ _ op_add (@pe_op _ _ _ _ _ _ _ _ op_add (@pe_ix _ _ _ _ _ _ _ (ixL K) (pv 0) pe_int (fun u v => rfl)) (@pe_op _ _ _ _ _ _ _ _ op_mulC pe_int (@pe_ix _ _ _ _ _ _ _ (ixL K) (pv 0) pe_int (fun u v => rfl)))) pe_int) pe_int) pe_int) (by rfl) (by first   | exact .inl rfl   | exact .inr rfl   | assumption)) (@pss_consC _ _ _ _ _ K _ (@ps_set _ _ 3 _ _ _ _ sc__law_draw.nd rfl (Or.inl rfl) (@pe_op _ _ _ _ _ _ _ _ op_mod (@pe_op _ _ _ _ _ _ _ _ op_mulC (pv 3) (@pe_op _ _ _ _ _ _ _ _ op_add (@pe_op _ _ _ _ _ _ _ _ op_add (@pe_op _ _ _ _ _ _ _ _ op_mod (pv 3) pe_int) (@pe_ix _ _ _ _ _ _ _ (ixL K) (pv 0) pe_int (fun u v => rfl))) pe_int)) pe_int) (by rfl) (by first   | exact .inl rfl   | exact .inr rfl   | assumption)) (@pss_one _ _ _ (@ps_ret _ _ _ _ (@pe_op _ _ _ _ _ _ _ _ op_mod (@pe_op _ _ _ _ _ _ _ _ (op_fdivX hr hT) (@pe_op _ _ _ _ _ _ _ _ op_mod (@pe_op _ _ _ _ _ _ _ _ op_mulC (pv 3) (@pe_op _ _ _ _ _ _ _ _ op_add (@pe_op _ _ _ _ _ _ _ _ op_mod (pv 3) pe_int) pe_int)) pe_int) pe_int) (pv 1)))) (by rfl)) (by rfl)) (by rfl)) (by rfl)), ?_⟩
 obtain ⟨a, m, rfl, ⟨c0, c1, c2, hp⟩, h1, h2, q0⟩ := h
 have q : ∀ d c0' c2' : Int, 0 ≤ d → d < m → Q (.int d) (upd H a (.lst [.int c0', .int c1, .int c2'])) := fun d _ _ h3 h4 => q0 d _ h3 h4 .put .put
 have hm : m ≠ 0 := by lia
 have q' : ∀ (o : HO) (d c0' c2' : Int), 0 ≤ d → d < m → Q (.int d) (upd (upd H a o) a (.lst [.int c0', .int c1, .int c2'])) := fun o d c0' c2' h3 h4 => by rw [upd_upd]; exact q d c0' c2' h3 h4
 refine ⟨_, rfl, a, _, _, _, rfl, rfl, SqL.of hp, rfl, _, _, rfl, rfl, _, rfl, a, _, _, _, rfl, rfl, hp, rfl, ?_⟩
 refine ⟨_, rfl, a, _, _, _, rfl, rfl, SqL.of upd_same, rfl, _, _, rfl, rfl, _, rfl, ?_⟩
 refine ite2 (fun c => ?_) (fun c => ?_)
 · refine ⟨_, rfl, a, _, _, _, rfl, rfl, SqL.of upd_same, rfl, _, rfl, _, _, rfl, rfl, (by lia : 0 < m), ?_⟩
   refine ⟨_, rfl, a, _, _, _, rfl, rfl, SqL.of upd_same, rfl, _, rfl, _, _, rfl, rfl, hm, _, rfl, a, _, _, _, rfl, rfl, upd_same, rfl, ?_⟩
   refine ⟨_, rfl, ?_⟩
   exact q' _ _ _ _ (Int.emod_nonneg _ (by lia)) (Int.emod_lt_of_pos _ (by lia))
 · have cl : ∀ z : Int, 0 < z → (0 : Int) < z := fun _ h => h
   refine ⟨_, rfl, a, _, _, _, rfl, rfl, SqL.of upd_same, rfl, _, rfl, a, _, _, _, rfl, rfl, SqL.of upd_same, rfl, _, _, rfl, rfl, .inl ⟨by decide, by decide⟩, _, _, rfl, rfl, _, _, rfl, rfl, _, _, rfl, rfl, .inr (.inl ⟨by decide, by decide⟩), _, _, rfl, rfl, (by first | decide | (dsimp only; decide)), ?_⟩
   have n1 := Int.emod_nonneg ((c1 + 40503 * (c2 + 1) + 1) * 48271) (show (2147483647 : Int) ≠ 0 by decide)
   have n2 := Int.emod_lt_of_pos ((c1 + 40503 * (c2 + 1) + 1) * 48271) (show (0 : Int) < 2147483647 by decide)
   generalize hN : (c1 + 40503 * (c2 + 1) + 1) * 48271 % 2147483647 = N at n1 n2
   refine ⟨_, rfl, _, rfl, _, _, rfl, rfl, (by first | decide | (dsimp only; decide)), _, rfl, a, _, _, _, rfl, rfl, SqL.of upd_same, rfl, _, _, rfl, rfl, _, _, rfl, rfl, _, _, rfl, rfl, .inl ?_, _, _, rfl, rfl, (by first | decide | (dsimp only; decide)), ?_⟩
   · (try rw [hN]); lia
   try rw [hN]
   have n3 := Int.emod_nonneg (N * (N % 65521 + (c2 + 1) + 3)) (show (2147483629 : Int) ≠ 0 by decide)
   have n4 := Int.emod_lt_of_pos (N * (N % 65521 + (c2 + 1) + 3)) (show (0 : Int) < 2147483629 by decide)
   generalize N * (N % 65521 + (c2 + 1) + 3) % 2147483629 = M at n3 n4
   refine ⟨_, rfl, _, rfl, _, _, rfl, rfl, (by first | decide | (dsimp only; decide)), _, _, rfl, rfl, _, _, rfl, rfl, .inl ⟨by lia, by lia⟩, _, _, rfl, rfl, (by first | decide | (dsimp only; decide)), _, _, rfl, rfl, (by first | decide | (dsimp only; decide)), _, rfl, _, _, rfl, rfl, (by lia : 0 < m), ?_⟩
   exact q _ _ _ (Int.emod_nonneg _ (by lia)) (Int.emod_lt_of_pos _ (by lia))
theorem sc__law_number : FnScope ["_law_pen_here"] ["_law_pen_here"] (defScope (top 51)) := ⟨rfl, rfl, rfl, by decide +kernel, rfl, by decide +kernel, by decide +kernel⟩
set_option maxHeartbeats 4000000 in
theorem ok__law_number {f : Addr} {fd : FuncData} (F : Fun K "_law_number" "_law_number" (top 51) f fd) (F__law_lowest : Fd P w K mg base 33 "_law_lowest" ["_law_top", "_law_bottom"] (spLow)) (F__law_draw : Fd P w K mg base 33 "_law_draw" ["_law_pen_here", "_law_many"] (spDraw)) (hT : P.given.tree = none) :
   FnOk P w K mg base CX0 34 f fd ["_law_pen_here"] (spNum 8) := by
 refine F.ok sc__law_number (fun vs H Q E h => ?_) (fun cdv A outer s H vs Q E hr h => ?_)
 · obtain ⟨_, rfl, _⟩ := h; rfl
 refine ⟨_, (@pss_consC _ _ _ _ _ K _ (@ps_ifC _ _ _ _ _ _ _ _ K _ _ (@pt_cmpR _ _ _ _ _ _ _ _ op_gt (@pe_fn _ _ _ _ _ _ _ _ _ _ _ F__law_draw hr rfl (@pa_cons _ _ _ _ _ (pv 0) (@pa_cons _ _ _ _ _ pe_int pa_nil (by rfl)) (by rfl)) (by decide) (by decide) (by rfl) (by rfl)) pe_int (nomark _)) (@pss_one _ _ _ (@ps_ret _ _ _ _ (@pe_fn _ _ _ _ _ _ _ _ _ _ _ F__law_lowest hr rfl (@pa_cons _ _ _ _ _ (@pe_op _ _ _ _ _ _ _ _ op_sub (@pe_fn _ _ _ _ _ _ _ _ _ _ _ F__law_draw hr rfl (@pa_cons _ _ _ _ _ (pv 0) (@pa_cons _ _ _ _ _ pe_int pa_nil (by rfl)) (by rfl)) (by decide) (by decide) (by rfl) (by rfl)) pe_int) (@pa_cons _ _ _ _ _ (@pe_op _ _ _ _ _ _ _ _ op_add pe_int (@pe_fn _ _ _ _ _ _ _ _ _ _ _ F__law_draw hr rfl (@pa_cons _ _ _ _ _ (pv 0) (@pa_cons _ _ _ _ _ (@pe_ix _ _ _ _ _ _ _ (ixL K) (@pe_lst _ _ _ _ (@pa_cons _ _ _ _ _ pe_int (@pa_cons _ _ _ _ _ pe_int pa_nil (by rfl)) (by rfl))) (@pe_fn _ _ _ _ _ _ _ _ _ _ _ F__law_draw hr rfl (@pa_cons _ _ _ _ _ (pv 0) (@pa_cons _ _ _ _ _ pe_int pa_nil (by rfl)) (by rfl)) (by decide) (by decide) (by rfl) (by rfl)) (fun u v => rfl)) pa_nil (by rfl)) (by rfl)) (by decide) (by decide) (by rfl) (by rfl))) pa_nil (by rfl)) (by rfl)) (by decide) (by decide) (by rfl) (by rfl)))) pss_nil (by rfl) (by rfl)) (@pss_one _ _ _ (@ps_ret _ _ _ _ (@pe_fn _ _ _ _ _ _ _ _ _ _ _ F__law_lowest hr rfl (@pa_cons _ _ _ _ _ (@pe_op _ _ _ _ _ _ _ _ op_sub (@pe_fn _ _ _ _ _ _ _ _ _ _ _ F__law_draw hr rfl (@pa_cons _ _ _ _ _ (pv 0) (@pa_cons _ _ _ _ _ pe_int pa_nil (by rfl)) (by rfl)) (by decide) (by decide) (by rfl) (by rfl)) pe_int) (@pa_cons _ _ _ _ _ (@pe_op _ _ _ _ _ _ _ _ op_add pe_int (@pe_fn _ _ _ _ _ _ _ _ _ _ _ F__law_draw hr rfl (@pa_cons _ _ _ _ _ (pv 0) (@pa_cons _ _ _ _ _ pe_int pa_nil (by rfl)) (by rfl)) (by decide) (by decide) (by rfl) (by rfl))) pa_nil (by rfl)) (by rfl)) (by decide) (by decide) (by rfl) (by rfl)))) (by rfl)), ?_⟩
 obtain ⟨a, rfl, pn, q⟩ := h
 have b8 : ∀ x : Int, -200 < x → x < 200 → Bd 8 x := fun x h1 h2 => by unfold Bd; lia
 refine ⟨_, rfl, a, 6, rfl, pn, by decide, by decide, fun w H1 w0 w1 o1 p1 => ⟨_, _, rfl, rfl, _, rfl, ?_⟩⟩
 refine ite2 (fun c => ?_) (fun c => ?_)
 · refine ⟨_, rfl, a, 19, rfl, p1, by decide, by decide, fun d H2 d0 d1 o2 p2 => ⟨_, _, rfl, rfl, ?_⟩⟩
   refine ⟨_, rfl, (by decide : 2 ≤ sizeLine), fun l hl => ?_⟩
   refine ⟨_, rfl, a, 2, rfl, p2.same hl, by decide, by decide, fun e H3 e0 e1 o3 p3 => ?_⟩
   obtain ⟨v, hv, hm⟩ := (at_menu (xs := [1, 4]) (i := e) e0 e1)
   have hv1 : 1 ≤ v ∧ v ≤ 4 := by simp at hm; lia
   have hl3 : H3 l = some (.lst [.int 1, .int 4]) := by
     refine exE3 p2 fun x0 x1 x2 ex => ?_
     rw [o3 l (ne_of_none ex hl).symm]; exact upd_same
   refine ⟨l, _, _, _, rfl, rfl, SqL.of hl3, hv, a, v, rfl, p3, by lia, by lia, fun g H4 g0 g1 o4 p4 => ⟨_, _, rfl, rfl, _, _, rfl, by lia, fun r hr => ?_⟩⟩
   exact q _ r _ (o1.mv.trans (o2.mv.trans ((Mv.new hl).trans (o3.mv.trans (o4.mv.trans (Mv.new hr)))))) (p4.same hr) upd_same (Bd.num (b8 _ (by lia) (by lia))) (Bd.den (by lia) (b8 _ (by lia) (by lia)))
 · refine ⟨_, rfl, a, 199, rfl, p1, by decide, by decide, fun d H2 d0 d1 o2 p2 => ⟨_, _, rfl, rfl, ?_⟩⟩
   refine ⟨_, rfl, a, 9, rfl, p2, by decide, by decide, fun e H3 e0 e1 o3 p3 => ⟨_, _, rfl, rfl, _, _, rfl, by lia, fun r hr => ?_⟩⟩
   exact q _ r _ (o1.mv.trans (o2.mv.trans (o3.mv.trans (Mv.new hr)))) (p3.same hr) upd_same (Bd.num (b8 _ (by lia) (by lia))) (Bd.den (by lia) (b8 _ (by lia) (by lia)))
theorem sc__law_plus : FnScope ["_law_a", "_law_b"] ["_law_a", "_law_b"] (defScope (top 48)) := ⟨rfl, rfl, rfl, by decide +kernel, rfl, by decide +kernel, by decide +kernel⟩
set_option maxHeartbeats 4000000 in
theorem ok__law_plus {f : Addr} {fd : FuncData} (F : Fun K "_law_plus" "_law_plus" (top 48) f fd) (F__law_lowest : Fd P w K mg base 33 "_law_lowest" ["_law_top", "_law_bottom"] (spLow)) (hT : P.given.tree = none) :
   FnOk P w K mg base CX0 34 f fd ["_law_a", "_law_b"] (spBin K (· + ·)) := by
 refine F.ok sc__law_plus (fun vs H Q E h => ?_) (fun cdv A outer s H vs Q E hr h => ?_)
 · obtain ⟨_, _, _, _, _, _, rfl, _⟩ := h; rfl
 refine ⟨_, (@pss_one _ _ _ (@ps_ret _ _ _ _ (@pe_fn _ _ _ _ _ _ _ _ _ _ _ F__law_lowest hr rfl (@pa_cons _ _ _ _ _ (@pe_op _ _ _ _ _ _ _ _ op_add (@pe_op _ _ _ _ _ _ _ _ op_mulC (@pe_ix _ _ _ _ _ _ _ (ixT K) (pv 0) pe_int (fun u v => rfl)) (@pe_ix _ _ _ _ _ _ _ (ixT K) (pv 1) pe_int (fun u v => rfl))) (@pe_op _ _ _ _ _ _ _ _ op_mulC (@pe_ix _ _ _ _ _ _ _ (ixT K) (pv 1) pe_int (fun u v => rfl)) (@pe_ix _ _ _ _ _ _ _ (ixT K) (pv 0) pe_int (fun u v => rfl)))) (@pa_cons _ _ _ _ _ (@pe_op _ _ _ _ _ _ _ _ op_mulC (@pe_ix _ _ _ _ _ _ _ (ixT K) (pv 0) pe_int (fun u v => rfl)) (@pe_ix _ _ _ _ _ _ _ (ixT K) (pv 1) pe_int (fun u v => rfl))) pa_nil (by rfl)) (by rfl)) (by decide) (by decide) (by rfl) (by rfl)))), ?_⟩
 obtain ⟨x, y, p, q, m, n, rfl, ⟨r, rfl, hr⟩, ⟨u, rfl, hu⟩, hp, hq, hmn, k⟩ := h
 refine ⟨_, rfl, r, _, _, _, rfl, rfl, hr, rfl, _, rfl, u, _, _, _, rfl, rfl, hu, rfl, _, _, rfl, rfl, MulC.bd hp.1 hq.2, _, rfl, u, _, _, _, rfl, rfl, hu, rfl, _, rfl, r, _, _, _, rfl, rfl, hr, rfl, _, _, rfl, rfl, MulC.bd hq.1 hp.2, _, _, rfl, rfl, ?_⟩
 refine ⟨_, rfl, r, _, _, _, rfl, rfl, hr, rfl, _, rfl, u, _, _, _, rfl, rfl, hu, rfl, _, _, rfl, rfl, MulC.bd hp.2 hq.2, ?_⟩
 refine ⟨_, _, rfl, Int.mul_ne_zero (Nm.den_ne p) (Nm.den_ne q), fun z hz => ?_⟩
 have e := k z hz
 try dsimp only at e
 rw [← Nm.plus_eq] at e
 exact e
theorem sc__law_places : FnScope ["_law_pen_here", "_law_many", "_law_found", "_law_k", "_law_x"] ["_law_pen_here", "_law_many"] (defScope (top 53)) := ⟨rfl, rfl, rfl, by decide +kernel, rfl, by decide +kernel, by decide +kernel⟩
set_option maxHeartbeats 4000000 in
theorem ok__law_places {f : Addr} {fd : FuncData} (F : Fun K "_law_places" "_law_places" (top 53) f fd) (F__law_number : Fd P w K mg base 34 "_law_number" ["_law_pen_here"] (spNum 8)) (F__law_plus : Fd P w K mg base 34 "_law_plus" ["_law_a", "_law_b"] (spBin K (· + ·))) (b_range : mg "range" = none) (hT : P.given.tree = none) :
   FnOk P w K mg base CX0 35 f fd ["_law_pen_here", "_law_many"] (spPlacesT K 8) := by
 refine F.ok sc__law_places (fun vs H Q E h => ?_) (fun cdv A outer s H vs Q E hr h => ?_)
 · obtain ⟨_, _, rfl, _⟩ := h; rfl
 refine ⟨_, (@pss_consC _ _ _ _ _ K _ (@ps_set _ _ 2 _ _ _ _ sc__law_places.nd rfl (Or.inl rfl) (@pe_lst _ _ _ _ pa_nil) (by rfl) (by first   | exact .inl rfl   | exact .inr rfl   | assumption)) (@pss_consC _ _ _ _ _ K _ (@ps_forC _ _ _ _ _ _ _ _ K _ PassesOwn.never rfl (@pi_range1 _ _ _ _ _ _ rfl b_range (@pa_cons _ _ _ _ _ (pv 1) pa_nil (by rfl)) (by rfl)) (@pg_name _ _ 3 _ sc__law_places.nd rfl (Or.inl rfl) (by first   | exact .inl rfl   | exact .inr rfl   | assumption)) (@pss_consC _ _ _ _ _ K _ (@ps_set _ _ 4 _ _ _ _ sc__law_places.nd rfl (Or.inl rfl) (@pe_fn _ _ _ _ _ _ _ _ _ _ _ F__law_number hr rfl (@pa_cons _ _ _ _ _ (pv 0) pa_nil (by rfl)) (by decide) (by decide) (by rfl) (by rfl)) (by rfl) (by first   | exact .inl rfl   | exact .inr rfl   | assumption)) (@pss_consC _ _ _ _ _ K _ (@ps_while _ _ _ _ _ _ PassesOwn.never (@pt_cmpR _ _ _ _ _ _ _ _ (inD K hr) (pv 4) (pv 2) (by with_unfolding_all rfl)) (@pss_one _ _ _ (@ps_set _ _ 4 _ _ _ _ sc__law_places.nd rfl (Or.inl rfl) (@pe_fn _ _ _ _ _ _ _ _ _ _ _ F__law_plus hr rfl (@pa_cons _ _ _ _ _ (pv 4) (@pa_cons _ _ _ _ _ (@pe_tup _ _ _ _ _ (@pa_cons _ _ _ _ _ pe_int (@pa_cons _ _ _ _ _ pe_int pa_nil (by rfl)) (by rfl))) pa_nil (by rfl)) (by rfl)) (by decide) (by decide) (by rfl) (by rfl)) (by rfl) (by first   | exact .inl rfl   | exact .inr rfl   | assumption)))) (@pss_one _ _ _ (@ps_expr _ _ _ _ (@pe_bmK _ _ _ _ _ _ _ _ _ _ _ _ K PySem.F.plainAttrs_list PySem.F.slot_list_append PySem.F.type_list_append mt_append (pv 2) (@pa_cons _ _ _ _ _ (pv 4) pa_nil (by rfl)) (by rfl) (by rfl) (by rfl) (by rfl) (by rfl) (by rfl)) (by rfl))) (by rfl)) (by rfl)) (by rfl) (by intro _; rfl)) (@pss_one _ _ _ (@ps_ret _ _ _ _ (pv 2))) (by rfl)) (by rfl)), ?_⟩
 obtain ⟨a, m, rfl, pn, h0, h100, q⟩ := h
 have P0 : 0 ≤ sizeLine := by decide
 have P2 : 2 ≤ sizeLine := by decide
 refine ⟨P0, fun l hl => ?_⟩
 have la : l ≠ a := pn.ne' hl
 obtain ⟨M, hM⟩ : ∃ M : Nat, (M : Int) = m := ⟨m.toNat, by lia⟩
 subst hM
 refine ⟨_, rfl, (M : Int), rfl, by lia, by lia, ?_⟩
 rw [Int.toNat_natCast]
 refine for_range (n := M) (L4 a H M l fun a H M l i σ H' => Mv a H H' ∧ Pen H' a ∧ ∃ zs qs z3 z4, σ = [some (.ref a), some (.int (M : Int)), some (.ref l), z3, z4] ∧ H' l = some (.lst zs) ∧ NumsT H' zs qs ∧ qs.length = i ∧ qs.Nodup ∧ ∀ q ∈ qs, RB (8 + 8) q) ⟨Mv.new hl, pn.same hl, [], [], none, none, rfl, upd_same, .nil, rfl, List.nodup_nil, (fun _ h => nomatch h)⟩ ?_ ?_
 · rintro i σ H' hi hR1
   refine anE3 hR1 fun mv pn' hz7 => ?_
   refine exE4 hz7 fun zs qs z3 z4 hz7' => ?_
   clear hz7
   refine anE6 hz7' fun hq6 el hz hql hnd hb => ?_
   clear hz7'
   obtain rfl := hq6
   try clear hR1
   refine ⟨_, rfl, a, rfl, pn', fun x0 r H3 m3 p3 hr bn bd => ?_⟩
   have el3 := m3 _ _ la el
   have hz3 := NumsT.mv hz pn' m3
   have hzl := hz.length
   refine ⟨fun μ σ H4 => Same H3 H4 ∧ ∃ (r : Addr) (x : Rat) (j : Nat), σ = [some (.ref a), some (.int (M : Int)), some (.ref l), some (.int (0 + (i : Int))), some (.ref r)] ∧ H4 r = some (nT x) ∧ x = x0 + (j : Rat) ∧ μ = cnt x qs ∧ j + cnt x qs ≤ qs.length,
     ⟨_, Same.refl _, r, x0, 0, rfl, hr, (by have z : ((0 : Nat) : Rat) = 0 := rfl; rw [z]; grind), rfl, by have := cnt_le x0 qs; lia⟩, ?_⟩
   rintro μ σ H4 hR2
   refine anE2 hR2 fun s4 hz10 => ?_
   refine exE3 hz10 fun r' x j hz10' => ?_
   clear hz10
   refine anE5 hz10' fun hq8 hr' hx hq9 hj => ?_
   clear hz10'
   obtain rfl := hq8
   obtain rfl := hq9
   try clear hR2
   have hxb : RB (8 + 8) x := by
     rw [hx]
     exact (RB.plus ⟨bn, bd⟩ (rb_nat (j := j) (by lia))).mono (by lia)
   refine ⟨_, rfl, _, rfl, ?_⟩
   refine inN (NumV.of hr') (SqL.of (s4 _ _ el3)) (NumsT.same hz3 s4).nums ?_
   refine ⟨_, rfl, ?_⟩
   by_cases hin : x ∈ qs
   · refine iteTc (by rw [decide_eq_true hin] <;> rfl) ⟨_, fun _ _ h => h, ?_⟩
     refine ⟨_, rfl, P2, fun t ht => ⟨_, _, _, _, 8 + 8, 1, rfl, NumV.of ((Same.new ht) _ _ hr'), NumV.of (upd_same (o := nT 1)), hxb, RB.one (by decide), by lia, fun u hu => ?_⟩⟩
     refine ⟨_, cnt_lt hin, (s4.trans (Same.new ht)).trans (Same.new hu), u, x + 1, j + 1, rfl, upd_same, ?_, rfl, by have := cnt_lt hin; lia⟩
     rw [hx, Rat.natCast_add]
     have z : ((1 : Nat) : Rat) = 1 := rfl
     rw [z]; grind
   · refine iteFc (by rw [decide_eq_false hin] <;> rfl) ?_
     have el4 := s4 _ _ el3
     refine ⟨_, rfl, .inl ⟨rfl, _, SqL.of el4⟩, _, rfl, l, zs, .ref r', rfl, rfl, el4, Nat.lt_of_lt_of_le (show zs.length < 300 by lia) (by decide), ?_⟩
     refine ⟨Mv.put' ((mv.trans m3).trans s4.mv) hl, (p3.sm s4).put' la, zs ++ [.ref r'], qs ++ [x], _, _, rfl, upd_same, Paired.snoc (NumsT.put (NumsT.same hz3 s4) el4) (NumT.put ⟨_, rfl, hr'⟩ el4), by simp [hql], ?_, fun c hc => ?_⟩
     · rw [List.nodup_append]
       exact ⟨hnd, by simp, fun b hb c hc => by rw [List.mem_singleton.mp hc]; exact fun z => hin (z ▸ hb)⟩
     · rcases List.mem_append.mp hc with z | z
       · exact hb c z
       · rw [List.mem_singleton.mp z]; exact hxb
 · rintro σ H' hR3
   refine anE3 hR3 fun mv pn' hz12 => ?_
   refine exE4 hz12 fun zs qs z3 z4 hz12' => ?_
   clear hz12
   refine anE6 hz12' fun hq11 el hz hql hnd hb => ?_
   clear hz12'
   obtain rfl := hq11
   try clear hR3
   exact ⟨_, rfl, q l H' zs qs mv pn' hl el hz (by rw [hql]) hnd hb⟩
theorem sc_are_unlike : FnScope ["places"] ["places"] (defScope (top 27)) := ⟨rfl, rfl, rfl, by decide +kernel, rfl, by decide +kernel, by decide +kernel⟩
set_option maxHeartbeats 4000000 in
theorem ok_are_unlike {f : Addr} {fd : FuncData} (F : Fun K "are_unlike" "are_unlike" (top 27) f fd) (b_len : mg "len" = none) (b_set : mg "set" = none) (hT : P.given.tree = none) :
   FnOk P w K mg base CX0 33 f fd ["places"] (spUnlike K) := by
 refine F.ok sc_are_unlike (fun vs H Q E h => ?_) (fun cdv A outer s H vs Q E hr h => ?_)
 · obtain ⟨_, _, _, rfl, _⟩ := h; rfl
 refine ⟨_, (@pss_one _ _ _ (@ps_ret _ _ _ _ (@pe_cmpR _ _ _ _ _ _ _ _ op_eq (@pe_callB _ _ _ _ _ _ _ _ _ call_lenS rfl b_len bt_len (@pa_cons _ _ _ _ _ (@pe_callTy _ _ _ _ _ _ _ _ _ (setR K rfl hr.units) rfl b_set bt_set (@pa_cons _ _ _ _ _ (pv 0) pa_nil (by rfl)) (by decide) (by decide) (by rfl) (by rfl)) pa_nil (by rfl)) (by decide) (by decide) (by rfl) (by rfl)) (@pe_callB _ _ _ _ _ _ _ _ _ (lenK K) rfl b_len bt_len (@pa_cons _ _ _ _ _ (pv 0) pa_nil (by rfl)) (by decide) (by decide) (by rfl) (by rfl)) (nomark _)))), ?_⟩
 obtain ⟨l, ys, qs, rfl, hS, hn, hnd, h17, q⟩ := h
 have hl := hn.length
 refine ⟨_, rfl, l, ys, qs, rfl, hS, hn, hnd, h17, fun p hp => ⟨p, qs.length, rfl, upd_same, by lia, ?_⟩⟩
 have s1 : Same H (upd H p (SetO p qs.length)) := Same.new hp
 refine ⟨_, rfl, l, ys, rfl, .inl (Same.seq s1 hS), rfl, ?_⟩
 have e : (V.int ((qs.length : Nat) : Int) = V.int ((ys.length : Nat) : Int)) := by rw [hl]
 rw [decide_eq_true e]
 exact q _ s1
theorem sc_check_places : FnScope ["places", "fewest"] ["places", "fewest"] (defScope (top 28)) := ⟨rfl, rfl, rfl, by decide +kernel, rfl, by decide +kernel, by decide +kernel⟩
set_option maxHeartbeats 4000000 in
theorem ok_check_places {f : Addr} {fd : FuncData} (F : Fun K "check_places" "check_places" (top 28) f fd) (F_are_unlike : Fd P w K mg base 33 "are_unlike" ["places"] (spUnlike K)) (b_len : mg "len" = none) {t_MOST_TOLD : Tok} (c_MOST_TOLD : mg "MOST_TOLD" = some (.int 12 t_MOST_TOLD)) (hT : P.given.tree = none) :
   FnOk P w K mg base CX0 34 f fd ["places", "fewest"] (spCheck K) := by
 refine F.ok sc_check_places (fun vs H Q E h => ?_) (fun cdv A outer s H vs Q E hr h => ?_)
 · obtain ⟨_, _, _, _, rfl, _⟩ := h; rfl
 refine ⟨_, (@pss_consC _ _ _ _ _ K _ (@ps_ifC _ _ _ _ _ _ _ _ K _ _ (@PW.pt _ _ _ (@pw_or _ _ _ _ _ _ _ (@pt_cmpR _ _ _ _ _ _ _ _ op_lt (@pe_callB _ _ _ _ _ _ _ _ _ (lenK K) rfl b_len bt_len (@pa_cons _ _ _ _ _ (pv 0) pa_nil (by rfl)) (by decide) (by decide) (by rfl) (by rfl)) (pv 1) (nomark _)) (@pw_or1 _ _ _ _ (@pt_cmpR _ _ _ _ _ _ _ _ op_gt (@pe_callB _ _ _ _ _ _ _ _ _ (lenK K) rfl b_len bt_len (@pa_cons _ _ _ _ _ (pv 0) pa_nil (by rfl)) (by decide) (by decide) (by rfl) (by rfl)) (@pe_glob _ _ (.int 12) _ _ rfl c_MOST_TOLD ⟨_, rfl⟩ (by decide)) (nomark _))))) (@pss_one _ _ _ ps_never) pss_nil (by rfl) (by rfl)) (@pss_one _ _ _ (@ps_ifC _ _ _ _ _ _ _ _ K _ _ (@pt_not _ _ _ _ (@pt_val _ _ _ (@pe_fn _ _ _ _ _ _ _ _ _ _ _ F_are_unlike hr rfl (@pa_cons _ _ _ _ _ (pv 0) pa_nil (by rfl)) (by decide) (by decide) (by rfl) (by rfl)) (by intro _; rfl))) (@pss_one _ _ _ ps_never) pss_nil (by rfl) (by rfl))) (by rfl)), ?_⟩
 obtain ⟨l, few, ys, qs, rfl, hS, hn, hnd, h12, hf, q⟩ := h
 have hl := hn.length
 refine ⟨_, rfl, l, ys, rfl, .inl hS, _, rfl, _, _, rfl, rfl, _, rfl, ?_⟩
 refine iteFc (by rw [decide_eq_false (show ¬ ((ys.length : Int) < few) by lia)] <;> rfl) ?_
 refine ⟨_, rfl, l, ys, rfl, .inl hS, _, _, rfl, rfl, _, rfl, ?_⟩
 refine iteFc (by rw [decide_eq_false (show ¬ ((12 : Int) < (ys.length : Int)) by lia)] <;> rfl) ?_
 exact ⟨_, rfl, l, ys, qs, rfl, hS, hn, hnd, by lia, fun H' s => ⟨_, rfl, iteF (q H' s)⟩⟩
theorem sc_check_heights : FnScope ["places", "heights"] ["places", "heights"] (defScope (top 30)) := ⟨rfl, rfl, rfl, by decide +kernel, rfl, by decide +kernel, by decide +kernel⟩
set_option maxHeartbeats 4000000 in
theorem ok_check_heights {f : Addr} {fd : FuncData} (F : Fun K "check_heights" "check_heights" (top 30) f fd) (F_check_places : Fd P w K mg base 34 "check_places" ["places", "fewest"] (spCheck K)) (b_len : mg "len" = none) (hT : P.given.tree = none) :
   FnOk P w K mg base CX0 35 f fd ["places", "heights"] (spCheckH K) := by
 refine F.ok sc_check_heights (fun vs H Q E h => ?_) (fun cdv A outer s H vs Q E hr h => ?_)
 · obtain ⟨_, _, _, _, _, rfl, _⟩ := h; rfl
 refine ⟨_, (@pss_consC _ _ _ _ _ K _ (@ps_expr _ _ _ _ (@pe_fn _ _ _ _ _ _ _ _ _ _ _ F_check_places hr rfl (@pa_cons _ _ _ _ _ (pv 0) (@pa_cons _ _ _ _ _ pe_int pa_nil (by rfl)) (by rfl)) (by decide) (by decide) (by rfl) (by rfl)) (by rfl)) (@pss_one _ _ _ (@ps_ifC _ _ _ _ _ _ _ _ K _ _ (@pt_cmpR _ _ _ _ _ _ _ _ op_ne (@pe_callB _ _ _ _ _ _ _ _ _ (lenK K) rfl b_len bt_len (@pa_cons _ _ _ _ _ (pv 1) pa_nil (by rfl)) (by decide) (by decide) (by rfl) (by rfl)) (@pe_callB _ _ _ _ _ _ _ _ _ (lenK K) rfl b_len bt_len (@pa_cons _ _ _ _ _ (pv 0) pa_nil (by rfl)) (by decide) (by decide) (by rfl) (by rfl)) (nomark _)) (@pss_one _ _ _ ps_never) pss_nil (by rfl) (by rfl))) (by rfl)), ?_⟩
 obtain ⟨lp, lh, zs, ys, qs, rfl, hS, hN, hnd, h1, h12, hH, hl, q⟩ := h
 refine ⟨_, rfl, lp, 1, zs, qs, rfl, hS, hN, hnd, h12, by lia, fun H1 s1 => ?_⟩
 exact ⟨_, rfl, lh, ys, rfl, .inl (Same.seq s1 hH), _, rfl, lp, zs, rfl, .inl (Same.seq s1 hS), rfl, _, rfl, iteFc (by rw [hl, decide_eq_true rfl]; rfl) (q H1 s1)⟩
theorem sc_common_measure : FnScope ["one", "other", "great", "small", "rest"] ["one", "other"] (defScope (top 7)) := ⟨rfl, rfl, rfl, by decide +kernel, rfl, by decide +kernel, by decide +kernel⟩
set_option maxHeartbeats 4000000 in
theorem ok_common_measure {f : Addr} {fd : FuncData} (F : Fun K "common_measure" "common_measure" (top 7) f fd) (b_abs : mg "abs" = none) (hT : P.given.tree = none) :
   FnOk P w K mg base CX0 33 f fd ["one", "other"] (spGcd) := by
 refine F.ok sc_common_measure (fun vs H Q E h => ?_) (fun cdv A outer s H vs Q E hr h => ?_)
 · obtain ⟨_, _, rfl, _⟩ := h; rfl
 refine ⟨_, (@pss_consC _ _ _ _ _ K _ (@ps_set _ _ 2 _ _ _ _ sc_common_measure.nd rfl (Or.inl rfl) (@pe_callB _ _ _ _ _ _ _ _ _ call_abs rfl b_abs bt_abs (@pa_cons _ _ _ _ _ (pv 0) pa_nil (by rfl)) (by decide) (by decide) (by rfl) (by rfl)) (by rfl) (by first   | exact .inl rfl   | exact .inr rfl   | assumption)) (@pss_consC _ _ _ _ _ K _ (@ps_set _ _ 3 _ _ _ _ sc_common_measure.nd rfl (Or.inl rfl) (@pe_callB _ _ _ _ _ _ _ _ _ call_abs rfl b_abs bt_abs (@pa_cons _ _ _ _ _ (pv 1) pa_nil (by rfl)) (by decide) (by decide) (by rfl) (by rfl)) (by rfl) (by first   | exact .inl rfl   | exact .inr rfl   | assumption)) (@pss_consC _ _ _ _ _ K _ (@ps_while _ _ _ _ _ _ PassesOwn.never (@pt_cmpR _ _ _ _ _ _ _ _ op_ne (pv 3) pe_int (nomark _)) (@pss_consC _ _ _ _ _ K _ (@ps_set _ _ 4 _ _ _ _ sc_common_measure.nd rfl (Or.inl rfl) (@pe_op _ _ _ _ _ _ _ _ op_mod (pv 2) (pv 3)) (by rfl) (by first   | exact .inl rfl   | exact .inr rfl   | assumption)) (@pss_consC _ _ _ _ _ K _ (@ps_set _ _ 2 _ _ _ _ sc_common_measure.nd rfl (Or.inl rfl) (pv 3) (by rfl) (by first   | exact .inl rfl   | exact .inr rfl   | assumption)) (@pss_one _ _ _ (@ps_set _ _ 3 _ _ _ _ sc_common_measure.nd rfl (Or.inl rfl) (pv 4) (by rfl) (by first   | exact .inl rfl   | exact .inr rfl   | assumption))) (by rfl)) (by rfl))) (@pss_one _ _ _ (@ps_ret _ _ _ _ (pv 2))) (by rfl)) (by rfl)) (by rfl)), ?_⟩
 obtain ⟨a, b, rfl, q⟩ := h
 refine ⟨_, rfl, a, rfl, ?_⟩
 refine ⟨_, rfl, b, rfl, ?_⟩
 refine while_by (L3 H a b fun H a b σ H' => H' = H ∧ ∃ (x y : Int) (r : Option V), σ = [some (.int a), some (.int b), some (.int x), some (.int y), r] ∧ 0 ≤ x ∧ 0 ≤ y ∧ Int.gcd x y = Int.gcd a b) (fun σ _ => mu 3 σ)
   ⟨rfl, _, _, none, rfl, ?_, ?_, ?_⟩ ?_ ?_
 · rw [Nm.abs_if]; exact Int.natCast_nonneg _
 · rw [Nm.abs_if]; exact Int.natCast_nonneg _
 · rw [Nm.abs_if, Nm.abs_if]; rfl
 · rintro σ H' hR1
   refine anE2 hR1 fun hq13 hz15 => ?_
   refine exE3 hz15 fun x y r hz15' => ?_
   clear hz15
   refine anE4 hz15' fun hq14 hx hy hg => ?_
   clear hz15'
   obtain rfl := hq13
   obtain rfl := hq14
   try clear hR1
   refine ⟨_, rfl, rfl, _, rfl, ?_⟩
   by_cases hy0 : y = 0
   · subst hy0
     refine iteFc (by rw [decide_eq_true rfl] <;> rfl) ⟨_, rfl, ?_⟩
     have e : (Int.gcd a b : Int) = x := by rw [← hg, Int.gcd_zero]; lia
     rw [e] at q
     exact q
   · refine iteTc (by rw [decide_eq_false (fun z => hy0 (V.int.inj z))] <;> rfl) ?_
     have hyp : 0 < y := by lia
     refine ⟨_, rfl, _, rfl, _, _, rfl, rfl, hyp, ?_⟩
     refine ⟨_, rfl, _, rfl, ⟨rfl, y, x % y, _, rfl, hy, Int.emod_nonneg _ hy0, ?_⟩, ?_⟩
     · rw [Nm.gcd_turn]; exact hg
     · show (x % y).toNat < y.toNat
       have := Int.emod_lt_of_pos x hyp
       lia
 · rintro σ H' Q1 Q2 hm hR2
   obtain ⟨v, e, s1, k, ek, q1⟩ := hR2
   try clear hR2
   exact ⟨v, e, s1, k, ek, hm _ _ q1⟩
theorem sc_bottom_of : FnScope ["numbers", "bottom", "number"] ["numbers"] (defScope (top 14)) := ⟨rfl, rfl, rfl, by decide +kernel, rfl, by decide +kernel, by decide +kernel⟩
set_option maxHeartbeats 4000000 in
theorem ok_bottom_of {f : Addr} {fd : FuncData} (F : Fun K "bottom_of" "bottom_of" (top 14) f fd) (F_common_measure : Fd P w K mg base 33 "common_measure" ["one", "other"] (spGcd)) (hT : P.given.tree = none) :
   FnOk P w K mg base CX0 34 f fd ["numbers"] (spBot K) := by
 refine F.ok sc_bottom_of (fun vs H Q E h => ?_) (fun cdv A outer s H vs Q E hr h => ?_)
 · obtain ⟨_, _, _, _, _, rfl, _⟩ := h; rfl
 refine ⟨_, (@pss_consC _ _ _ _ _ K _ (@ps_set _ _ 1 _ _ _ _ sc_bottom_of.nd rfl (Or.inl rfl) pe_int (by rfl) (by first   | exact .inl rfl   | exact .inr rfl   | assumption)) (@pss_consC _ _ _ _ _ K _ (@ps_forC _ _ _ _ _ _ _ _ K _ PassesOwn.never rfl (@piS _ K _ _ _ (pv 0) (by rfl)) (@pg_name _ _ 2 _ sc_bottom_of.nd rfl (Or.inl rfl) (by first   | exact .inl rfl   | exact .inr rfl   | assumption)) (@pss_one _ _ _ (@ps_set _ _ 1 _ _ _ _ sc_bottom_of.nd rfl (Or.inl rfl) (@pe_op _ _ _ _ _ _ _ _ op_mulC (pv 1) (@pe_op _ _ _ _ _ _ _ _ (op_fdivX hr hT) (@pe_ix _ _ _ _ _ _ _ (ixT K) (pv 2) pe_int (fun u v => rfl)) (@pe_fn _ _ _ _ _ _ _ _ _ _ _ F_common_measure hr rfl (@pa_cons _ _ _ _ _ (pv 1) (@pa_cons _ _ _ _ _ (@pe_ix _ _ _ _ _ _ _ (ixT K) (pv 2) pe_int (fun u v => rfl)) pa_nil (by rfl)) (by rfl)) (by decide) (by decide) (by rfl) (by rfl)))) (by rfl) (by first   | exact .inl rfl   | exact .inr rfl   | assumption))) (by rfl) (by intro _; rfl)) (@pss_one _ _ _ (@ps_ret _ _ _ _ (pv 1))) (by rfl)) (by rfl)), ?_⟩
 obtain ⟨b, r, xs, qs, n, rfl, hS, hn, hB, hz, q⟩ := h
 have hl := hn.length
 refine for_seq (b := b) (a := r) (xs := xs) rfl (L4 H r qs n fun H r qs n i σ H' => H' = H ∧ ∃ (B : Int) (z : Option V), σ = [some (.ref r), some (.int B), z] ∧ 0 < B ∧ (∀ q ∈ qs.take i, (q.den : Int) ∣ B) ∧ Bd (n * i + 1) B) ⟨rfl, 1, none, rfl, by decide, fun q hq => by simp at hq, by unfold Bd; rw [Nat.mul_zero]; decide⟩ (fun i σ H' _ p => by rw [p.1]; exact hS) ?_ ?_
 · rintro i x σ H' hx hR1
   refine anE2 hR1 fun hq17 hz19 => ?_
   refine exE2 hz19 fun B z hz19' => ?_
   clear hz19
   refine anE4 hz19' fun hq18 hB0 hdv hbd => ?_
   clear hz19'
   obtain rfl := hq17
   obtain rfl := hq18
   try clear hR1
   obtain ⟨c, hc, r', rfl, hr⟩ := (Paired.get hn hx)
   have hi : i < qs.length := (List.getElem?_eq_some_iff.mp hc).1
   have hcm : c ∈ qs := List.mem_of_getElem? hc
   have hd0 : 0 < (c.den : Int) := by have := c.den_pos; lia
   obtain ⟨l1, l2, l3⟩ := (lcm_step hB0 hd0)
   have g0 : (Int.gcd B c.den : Int) ≠ 0 := by have := Nm.gcd_pos (a := B) (b := c.den) (by lia); lia
   have bd2 : Bd n (Int.fdiv c.den (Int.gcd B c.den : Int)) := (hB c hcm).fdiv
   have hni : n * i ≤ n * qs.length := Nat.mul_le_mul_left n (by lia)
   have hnm : n * (qs.length + 2) = n * qs.length + 2 * n := by rw [Nat.mul_add]; lia
   refine ⟨_, rfl, _, rfl, r', _, _, _, rfl, rfl, hr, rfl, _, rfl, _, rfl, r', _, _, _, rfl, rfl, hr, rfl, _, _, rfl, _, _, rfl, rfl, g0, _, _, rfl, rfl, MulC.bd hbd bd2 (by lia), ?_⟩
   refine ⟨rfl, _, _, rfl, l1, fun q' hq' => ?_, ?_⟩
   · rw [List.take_add_one, hc] at hq'
     rcases List.mem_append.mp hq' with z | z
     · exact Int.dvd_trans (hdv q' z) l2
     · have : q' = c := by simpa using z
       subst this; exact l3
   · have := hbd.mul bd2
     rw [Nat.mul_add, Nat.mul_one, show n * i + n + 1 = n * i + 1 + n by lia]
     exact this
 · rintro σ H' hR2
   refine anE2 hR2 fun hq22 hz24 => ?_
   refine exE2 hz24 fun B z hz24' => ?_
   clear hz24
   refine anE4 hz24' fun hq23 hB0 hdv hbd => ?_
   clear hz24'
   obtain rfl := hq22
   obtain rfl := hq23
   try clear hR2
   rw [hl, List.take_length] at hdv
   rw [hl] at hbd
   exact ⟨_, rfl, q B hB0 hdv hbd⟩
theorem sc_tops_over : FnScope ["numbers", "bottom"] ["numbers", "bottom"] (defScope (top 15)) := ⟨rfl, rfl, rfl, by decide +kernel, rfl, by decide +kernel, by decide +kernel⟩
set_option maxHeartbeats 4000000 in
theorem ok_tops_over {f : Addr} {fd : FuncData} (F : Fun K "tops_over" "tops_over" (top 15) f fd) (hT : P.given.tree = none) :
   FnOk P w K mg base CX0 33 f fd ["numbers", "bottom"] (spTops K) := by
 refine F.ok sc_tops_over (fun vs H Q E h => ?_) (fun cdv A outer s H vs Q E hr h => ?_)
 · obtain ⟨_, _, _, _, _, _, _, rfl, _⟩ := h; rfl
 refine ⟨_, (@pss_one _ _ _ (@ps_ret _ _ _ _ (@pe_lc _ (["number", "bottom"]) 1 ([1]) _ _ _ _ _ _ _ _ _ _ rfl (CompOk.look (NX := ["numbers", "bottom"]) (sc := defScope (top 15)) rfl rfl (by decide +kernel)) (@piS _ K _ _ _ (pv 0) (by rfl)) (fun u1 u2 u3 u4 u5 => (@pg_name _ _ 0 _ (show List.Nodup (["number", "bottom"] : List Str) from by decide +kernel) rfl (Or.inl rfl) (by first   | exact .inl rfl   | exact .inr rfl   | assumption))) (stays_name (by decide)) (fun u1 u2 u3 u4 u5 => pts_nil) (fun u1 u2 u3 u4 u5 => (@pe_op _ _ _ _ _ _ _ _ op_mulC (@pe_ix _ _ _ _ _ _ _ (ixT K) (pv 0) pe_int (fun u v => rfl)) (@pe_op _ _ _ _ _ _ _ _ (op_fdivX hr hT) (pv 1) (@pe_ix _ _ _ _ _ _ _ (ixT K) (pv 0) pe_int (fun u v => rfl))))) (by intro _; rfl)))), ?_⟩
 obtain ⟨b, r, xs, qs, B, m, n, rfl, hS, hn, hbB, hbn, hmn, hz, q⟩ := h
 have hl := hn.length
 refine lc_seq (b := b) (a := r) (xs := xs) rfl (fun i zs H' => H' = H ∧ zs = ((qs.take i).map (topOf B)).map V.int) ⟨rfl, rfl⟩ (fun i zs H' hi p => ⟨by rw [p.1]; exact hS, by rw [p.2, List.length_map, List.length_map, List.length_take]; lia⟩) (by rw [hl]; exact Nat.le_of_lt (small1000 hz)) ?_ ?_
 · rintro i x zs H' hx ⟨rfl, rfl⟩
   obtain ⟨c, hc, r', rfl, hr⟩ := (Paired.get hn hx)
   have hcm : c ∈ qs := List.mem_of_getElem? hc
   have hd0 : (c.den : Int) ≠ 0 := by have := c.den_pos; lia
   refine ⟨_, rfl, r', _, _, _, rfl, rfl, hr, rfl, _, rfl, _, rfl, r', _, _, _, rfl, rfl, hr, rfl, _, _, rfl, rfl, hd0, _, _, rfl, rfl, MulC.bd (hbn c hcm) (hbB.fdiv (y := c.den)) (by lia), rfl, ?_⟩
   rw [List.take_add_one, hc, List.map_append, List.map_append]
   rfl
 · rintro zs H' ⟨rfl, rfl⟩ p hp
   rw [hl, List.take_length]
   exact q p hp
theorem sc_curve_of : FnScope ["numbers", "width"] ["numbers"] (defScope (top 13)) := ⟨rfl, rfl, rfl, by decide +kernel, rfl, by decide +kernel, by decide +kernel⟩
set_option maxHeartbeats 4000000 in
theorem ok_curve_of {f : Addr} {fd : FuncData} (F : Fun K "curve_of" "curve_of" (top 13) f fd) (b_len : mg "len" = none) (b_tuple : mg "tuple" = none) {a_NOUGHT : Addr} (c_NOUGHT : mg "NOUGHT" = some (.ref a_NOUGHT)) (n_NOUGHT : ∀ H : Hp, NumV K H (.ref a_NOUGHT) (0)) (hT : P.given.tree = none) :
   FnOk P w K mg base CX0 33 f fd ["numbers"] (spCurveOf K) := by
 refine F.ok sc_curve_of (fun vs H Q E h => ?_) (fun cdv A outer s H vs Q E hr h => ?_)
 · obtain ⟨_, _, _, rfl, _⟩ := h; rfl
 refine ⟨_, (@pss_consC _ _ _ _ _ K _ (@ps_set _ _ 1 _ _ _ _ sc_curve_of.nd rfl (Or.inl rfl) (@pe_callB _ _ _ _ _ _ _ _ _ (lenK K) rfl b_len bt_len (@pa_cons _ _ _ _ _ (pv 0) pa_nil (by rfl)) (by decide) (by decide) (by rfl) (by rfl)) (by rfl) (by first   | exact .inl rfl   | exact .inr rfl   | assumption)) (@pss_consC _ _ _ _ _ K _ (@ps_while _ _ _ _ _ _ PassesOwn.never (@PW.pt _ _ _ (@pw_and _ _ _ _ _ _ _ (@pt_cmpR _ _ _ _ _ _ _ _ op_gt (pv 1) pe_int (nomark _)) (@pw_and1 _ _ _ _ (@pt_cmpR _ _ _ _ _ _ _ _ (eqD K hr.units) (@pe_ix _ _ _ _ _ _ _ (ixL K) (pv 0) (@pe_op _ _ _ _ _ _ _ _ op_sub (pv 1) pe_int) (fun u v => rfl)) (@pe_glob _ _ (.ref a_NOUGHT) _ _ rfl c_NOUGHT rfl (by decide)) (nomark _))))) (@pss_one _ _ _ (@ps_set _ _ 1 _ _ _ _ sc_curve_of.nd rfl (Or.inl rfl) (@pe_op _ _ _ _ _ _ _ _ op_sub (pv 1) pe_int) (by rfl) (by first   | exact .inl rfl   | exact .inr rfl   | assumption)))) (@pss_one _ _ _ (@ps_ret _ _ _ _ (@pe_callTy _ _ _ _ _ _ _ _ _ (tupleK K) rfl b_tuple bt_tuple (@pa_cons _ _ _ _ _ (@pe_slice _ _ _ _ _ _ _ _ _ _ (slL K) (pv 0) po_none (@po_some _ _ _ (pv 1))) pa_nil (by rfl)) (by decide) (by decide) (by rfl) (by rfl)))) (by rfl)) (by rfl)), ?_⟩
 obtain ⟨r, xs, qs, rfl, hS, hn, hz, q⟩ := h
 have hl := hn.length
 refine ⟨_, rfl, r, xs, rfl, .inl hS, ?_⟩
 refine wh_by (L3 H r qs fun H r qs σ H' => H' = H ∧ ∃ (v : Nat), σ = [some (.ref r), some (.int (v : Int))] ∧ v ≤ qs.length ∧ ∀ j q, v ≤ j → qs[j]? = some q → q = 0) (fun σ _ => mu 1 σ) ⟨rfl, qs.length, by rw [← hl]; rfl, Nat.le_refl _, fun j q hj e => absurd (List.getElem?_eq_some_iff.mp e).1 (by lia)⟩ ?_
 rintro σ H' hR1
 refine anE2 hR1 fun hq27 hz29 => ?_
 refine exE1 hz29 fun v hz29' => ?_
 clear hz29
 refine anE3 hz29' fun hq28 hv hall => ?_
 clear hz29'
 obtain rfl := hq27
 obtain rfl := hq28
 try clear hR1
 have fin : (v = 0 ∨ ∃ q, qs[v - 1]? = some q ∧ q ≠ 0) → ∀ p, H' p = none → ∀ p', upd H' p (.lst (cutV xs none (some (v : Int)))) p' = none → Q (.ref p') (upd (upd H' p (.lst (cutV xs none (some (v : Int))))) p' (.tup (cutV xs none (some (v : Int))))) := fun hc p hp p' hp' => by
   have e : cutV xs none (some (v : Int)) = xs.take v := by
     unfold cutV
     have e1 : HT.sIx xs.length 0 none = 0 := rfl
     have e2 : HT.sIx xs.length xs.length (some (v : Int)) = min v xs.length := HT.sIx_nat _ _ v
     rw [e1, e2, List.drop_zero, Nat.sub_zero]
     apply List.ext_getElem?
     intro i
     rw [List.getElem?_take, List.getElem?_take]
     split <;> split <;> first | rfl | lia | (rename_i h1 h2; exact (List.getElem?_eq_none (by lia)).symm) | (rename_i h1 h2; exact List.getElem?_eq_none (by lia))
   have sm : Same H' (upd (upd H' p (.lst (cutV xs none (some (v : Int))))) p' (.tup (cutV xs none (some (v : Int))))) := (Same.new hp).trans (Same.new hp')
   refine q p' _ sm ⟨xs.take v, SqT.of (by rw [e]; exact upd_same), ?_⟩
   rw [← Cv.take_strip qs v hall hc]
   exact Paired.take v (Nums.same hn sm)
 refine ⟨_, rfl, _, _, rfl, rfl, _, rfl, ?_⟩
 by_cases hv0 : v = 0
 · subst hv0
   refine iteF (iteF ?_)
   exact ⟨_, rfl, _, rfl, _, rfl, r, xs, rfl, hS, fun p hp => ⟨p, _, rfl, .inl ⟨SqL.of upd_same, fun p' hp' => fin (.inl rfl) p hp p' hp'⟩⟩⟩
 · refine iteTc (by rw [decide_eq_true (show (0 : Int) < (v : Int) by lia)] <;> rfl) ?_
   have hvi : v - 1 < qs.length := by lia
   have hq : qs[v - 1]? = some qs[v - 1] := List.getElem?_eq_getElem hvi
   obtain ⟨x, hx, hxn⟩ := (Paired.get' hn hq)
   have hat : atI xs ((v : Int) - 1) = some x := by
     rw [show (v : Int) - 1 = ((v - 1 : Nat) : Int) by lia]
     exact atI_nat hx
   refine ⟨_, rfl, _, rfl, _, _, rfl, rfl, r, xs, _, x, rfl, rfl, hS, hat, ?_⟩
   refine eqN hxn (n_NOUGHT _) ?_
   refine ⟨_, rfl, ?_⟩
   by_cases hq0 : qs[v - 1] = 0
   · refine iteTc (by rw [decide_eq_true hq0] <;> rfl) (wh_go ?_)
     refine ⟨_, rfl, _, _, rfl, rfl, ⟨rfl, v - 1, ?_, by lia, fun j q' hj e => ?_⟩, ?_⟩
     · show [some (V.ref r), some (V.int ((v : Int) - 1))] = [some (V.ref r), some (V.int ((v - 1 : Nat) : Int))]
       rw [show (v : Int) - 1 = ((v - 1 : Nat) : Int) by lia]
     · by_cases hjv : v ≤ j
       · exact hall j q' hjv e
       · have : j = v - 1 := by lia
         subst this
         rw [hq] at e
         cases e
         exact hq0
     · show ((v : Int) - 1).toNat < (v : Int).toNat
       lia
   · refine iteFc (by rw [decide_eq_false hq0] <;> rfl) ?_
     exact ⟨_, rfl, _, rfl, _, rfl, r, xs, rfl, hS, fun p hp => ⟨p, _, rfl, .inl ⟨SqL.of upd_same, fun p' hp' => fin (.inr ⟨_, hq, hq0⟩) p hp p' hp'⟩⟩⟩
theorem sc_number_of : FnScope ["top", "bottom", "measure"] ["top", "bottom"] (defScope (top 8)) := ⟨rfl, rfl, rfl, by decide +kernel, rfl, by decide +kernel, by decide +kernel⟩
set_option maxHeartbeats 4000000 in
theorem ok_number_of {f : Addr} {fd : FuncData} (F : Fun K "number_of" "number_of" (top 8) f fd) (F_common_measure : Fd P w K mg base 33 "common_measure" ["one", "other"] (spGcd)) (hT : P.given.tree = none) :
   FnOk P w K mg base CX0 34 f fd ["top", "bottom"] (spLow) := by
 refine F.ok sc_number_of (fun vs H Q E h => ?_) (fun cdv A outer s H vs Q E hr h => ?_)
 · obtain ⟨_, _, rfl, _⟩ := h; rfl
 refine ⟨_, (@pss_consC _ _ _ _ _ K _ (@ps_ifC _ _ _ _ _ _ _ _ K _ _ (@pt_cmpR _ _ _ _ _ _ _ _ op_eq (pv 1) pe_int (nomark _)) (@pss_one _ _ _ ps_never) pss_nil (by rfl) (by rfl)) (@pss_consC _ _ _ _ _ K _ (@ps_set _ _ 2 _ _ _ _ sc_number_of.nd rfl (Or.inl rfl) (@pe_fn _ _ _ _ _ _ _ _ _ _ _ F_common_measure hr rfl (@pa_cons _ _ _ _ _ (pv 0) (@pa_cons _ _ _ _ _ (pv 1) pa_nil (by rfl)) (by rfl)) (by decide) (by decide) (by rfl) (by rfl)) (by rfl) (by first   | exact .inl rfl   | exact .inr rfl   | assumption)) (@pss_consC _ _ _ _ _ K _ (@ps_ifC _ _ _ _ _ _ _ _ K _ _ (@pt_cmpR _ _ _ _ _ _ _ _ op_lt (pv 1) pe_int (nomark _)) (@pss_one _ _ _ (@ps_set _ _ 2 _ _ _ _ sc_number_of.nd rfl (Or.inl rfl) (@pe_un _ _ _ _ _ _ un_neg (pv 2)) (by rfl) (by first   | exact .inl rfl   | exact .inr rfl   | assumption))) pss_nil (by rfl) (by rfl)) (@pss_one _ _ _ (@ps_ret _ _ _ _ (@pe_tup _ _ _ _ _ (@pa_cons _ _ _ _ _ (@pe_op _ _ _ _ _ _ _ _ (op_fdivX hr hT) (pv 0) (pv 2)) (@pa_cons _ _ _ _ _ (@pe_op _ _ _ _ _ _ _ _ (op_fdivX hr hT) (pv 1) (pv 2)) pa_nil (by rfl)) (by rfl))))) (by rfl)) (by rfl)) (by rfl)), ?_⟩
 obtain ⟨a, b, rfl, hb, q⟩ := h
 refine ⟨_, rfl, rfl, _, rfl, ?_⟩
 refine iteFc (by rw [decide_eq_false (fun z => hb (V.int.inj z))] <;> rfl) ?_
 refine ⟨_, rfl, _, rfl, a, b, rfl, ?_⟩
 refine ⟨_, rfl, _, _, rfl, rfl, _, rfl, ?_⟩
 have hd : Nm.msr a b ≠ 0 := Nm.msr_ne hb
 have fin : ∀ p, H p = none → Q (.ref p) (upd H p (.tup [.int (a.fdiv (Nm.msr a b)), .int (b.fdiv (Nm.msr a b))])) := fun p hp => by
   rw [Nm.top_msr hb, Nm.bottom_msr hb]; exact q p hp
 by_cases hb0 : b < 0
 · have hd' : Nm.msr a b = -(Int.gcd a b : Int) := by unfold Nm.msr; rw [if_pos hb0]
   rw [hd'] at hd fin
   refine iteTc (by rw [decide_eq_true hb0] <;> rfl) ⟨_, rfl, _, rfl, ?_⟩
   exact ⟨_, rfl, _, rfl, _, _, rfl, rfl, hd, _, rfl, _, rfl, _, _, rfl, rfl, hd, (by decide : 2 ≤ sizeLine), fin⟩
 · have hd' : Nm.msr a b = (Int.gcd a b : Int) := by unfold Nm.msr; rw [if_neg hb0]
   rw [hd'] at hd fin
   refine iteFc (by rw [decide_eq_false hb0] <;> rfl) ?_
   exact ⟨_, rfl, _, rfl, _, _, rfl, rfl, hd, _, rfl, _, rfl, _, _, rfl, rfl, hd, (by decide : 2 ≤ sizeLine), fin⟩
theorem sc_curve_over : FnScope ["tops", "bottom"] ["tops", "bottom"] (defScope (top 16)) := ⟨rfl, rfl, rfl, by decide +kernel, rfl, by decide +kernel, by decide +kernel⟩
set_option maxHeartbeats 4000000 in
theorem ok_curve_over {f : Addr} {fd : FuncData} (F : Fun K "curve_over" "curve_over" (top 16) f fd) (F_curve_of : Fd P w K mg base 33 "curve_of" ["numbers"] (spCurveOf K)) (F_number_of : Fd P w K mg base 34 "number_of" ["top", "bottom"] (spLow)) (hT : P.given.tree = none) :
   FnOk P w K mg base CX0 35 f fd ["tops", "bottom"] (spCurveOver K) := by
 refine F.ok sc_curve_over (fun vs H Q E h => ?_) (fun cdv A outer s H vs Q E hr h => ?_)
 · obtain ⟨_, _, _, rfl, _⟩ := h; rfl
 refine ⟨_, (@pss_one _ _ _ (@ps_ret _ _ _ _ (@pe_fn _ _ _ _ _ _ _ _ _ _ _ F_curve_of hr rfl (@pa_cons _ _ _ _ _ (@pe_lc _ (["top", "bottom"]) 1 ([1]) _ _ _ _ _ _ _ _ _ _ rfl (CompOk.look (NX := ["tops", "bottom"]) (sc := defScope (top 16)) rfl rfl (by decide +kernel)) (@piS _ K _ _ _ (pv 0) (by rfl)) (fun u1 u2 u3 u4 u5 => (@pg_name _ _ 0 _ (show List.Nodup (["top", "bottom"] : List Str) from by decide +kernel) rfl (Or.inl rfl) (by first   | exact .inl rfl   | exact .inr rfl   | assumption))) (stays_name (by decide)) (fun u1 u2 u3 u4 u5 => pts_nil) (fun u1 u2 u3 u4 u5 => (@pe_fn _ _ _ _ _ _ _ _ _ _ _ F_number_of hr rfl (@pa_cons _ _ _ _ _ (pv 0) (@pa_cons _ _ _ _ _ (pv 1) pa_nil (by rfl)) (by rfl)) (by decide) (by decide) (by rfl) (by rfl))) (by intro _; rfl)) pa_nil (by rfl)) (by decide) (by decide) (by rfl) (by rfl)))), ?_⟩
 obtain ⟨l, ts, b, rfl, hS, hb, hz, q⟩ := h
 have ll : (ts.map V.int).length = ts.length := List.length_map _
 refine lc_seq (b := true) (a := l) (xs := ts.map V.int) rfl (L4 H K ts b fun H K ts b i zs H' => Same H H' ∧ zs.length = i ∧ Nums K H' zs ((ts.take i).map fun t => Rat.divInt t b)) ⟨Same.refl _, rfl, .nil⟩ (fun i zs H' _ p => ⟨Same.seq p.1 hS, p.2.1⟩) (by rw [ll]; exact Nat.le_of_lt (small1000 hz)) ?_ ?_
 · rintro i x zs H' hx ⟨sm, hl, hn⟩
   rw [List.getElem?_map] at hx
   cases et : ts[i]? with
   | none => rw [et] at hx; cases hx
   | some t =>
     rw [et] at hx
     cases hx
     refine ⟨_, rfl, _, rfl, t, b, rfl, hb, fun p hp => ⟨sm.trans (Same.new hp), by simp [hl], ?_⟩⟩
     rw [List.take_add_one, et, List.map_append]
     exact Paired.snoc (Nums.same hn (Same.new hp)) (NumV.of upd_same)
 · rintro zs H' ⟨sm, hl, hn⟩ p hp
   rw [ll, List.take_length] at hn
   refine ⟨p, zs, _, rfl, SqL.of upd_same, Nums.same hn (Same.new hp), by rw [List.length_map]; exact hz, fun r H2 s2 c => q r H2 ((sm.trans (Same.new hp)).trans s2) c⟩
theorem sc_whole_product : FnScope ["first", "second", "product", "k", "j"] ["first", "second"] (defScope (top 19)) := ⟨rfl, rfl, rfl, by decide +kernel, rfl, by decide +kernel, by decide +kernel⟩
set_option maxHeartbeats 4000000 in
theorem ok_whole_product {f : Addr} {fd : FuncData} (F : Fun K "whole_product" "whole_product" (top 19) f fd) (b_range : mg "range" = none) (b_len : mg "len" = none) (hT : P.given.tree = none) :
   FnOk P w K mg base CX0 33 f fd ["first", "second"] (spProd K) := by
 refine F.ok sc_whole_product (fun vs H Q E h => ?_) (fun cdv A outer s H vs Q E hr h => ?_)
 · obtain ⟨_, _, _, _, _, _, rfl, _⟩ := h; rfl
 refine ⟨_, (@pss_consC _ _ _ _ _ K _ (@ps_set _ _ 2 _ _ _ _ sc_whole_product.nd rfl (Or.inl rfl) (@pe_op _ _ _ _ _ _ _ _ op_rep (@pe_lst _ _ _ _ (@pa_cons _ _ _ _ _ pe_int pa_nil (by rfl))) (@pe_op _ _ _ _ _ _ _ _ op_sub (@pe_op _ _ _ _ _ _ _ _ op_add (@pe_callB _ _ _ _ _ _ _ _ _ (lenK K) rfl b_len bt_len (@pa_cons _ _ _ _ _ (pv 0) pa_nil (by rfl)) (by decide) (by decide) (by rfl) (by rfl)) (@pe_callB _ _ _ _ _ _ _ _ _ (lenK K) rfl b_len bt_len (@pa_cons _ _ _ _ _ (pv 1) pa_nil (by rfl)) (by decide) (by decide) (by rfl) (by rfl))) pe_int)) (by rfl) (by first   | exact .inl rfl   | exact .inr rfl   | assumption)) (@pss_consC _ _ _ _ _ K _ (@ps_forC _ _ _ _ _ _ _ _ K _ PassesOwn.never rfl (@pi_range1 _ _ _ _ _ _ rfl b_range (@pa_cons _ _ _ _ _ (@pe_callB _ _ _ _ _ _ _ _ _ (lenK K) rfl b_len bt_len (@pa_cons _ _ _ _ _ (pv 0) pa_nil (by rfl)) (by decide) (by decide) (by rfl) (by rfl)) pa_nil (by rfl)) (by rfl)) (@pg_name _ _ 3 _ sc_whole_product.nd rfl (Or.inl rfl) (by first   | exact .inl rfl   | exact .inr rfl   | assumption)) (@pss_one _ _ _ (@ps_forC _ _ _ _ _ _ _ _ K _ PassesOwn.never rfl (@pi_range1 _ _ _ _ _ _ rfl b_range (@pa_cons _ _ _ _ _ (@pe_callB _ _ _ _ _ _ _ _ _ (lenK K) rfl b_len bt_len (@pa_cons _ _ _ _ _ (pv 1) pa_nil (by rfl)) (by decide) (by decide) (by rfl) (by rfl)) pa_nil (by rfl)) (by rfl)) (@pg_name _ _ 4 _ sc_whole_product.nd rfl (Or.inl rfl) (by first   | exact .inl rfl   | exact .inr rfl   | assumption)) (@pss_one _ _ _ (@ps_asg _ _ _ _ _ _ (@pe_op _ _ _ _ _ _ _ _ op_add (@pe_ix _ _ _ _ _ _ _ (ixL K) (pv 2) (@pe_op _ _ _ _ _ _ _ _ op_add (pv 3) (pv 4)) (fun u v => rfl)) (@pe_op _ _ _ _ _ _ _ _ op_mulC (@pe_ix _ _ _ _ _ _ _ (ixL K) (pv 0) (pv 3) (fun u v => rfl)) (@pe_ix _ _ _ _ _ _ _ (ixL K) (pv 1) (pv 4) (fun u v => rfl)))) (@pg_sub _ _ _ _ _ _ _ (pv 2) (@pe_op _ _ _ _ _ _ _ _ op_add (pv 3) (pv 4)) set_list (by intro _; rfl)) (by rfl) (by rfl) (by rfl))) (by rfl) (by intro _; rfl))) (by rfl) (by intro _; rfl)) (@pss_one _ _ _ (@ps_ret _ _ _ _ (pv 2))) (by rfl)) (by rfl)), ?_⟩
 obtain ⟨f, g, fs, gs, m, n, rfl, hf, hg, hg1, hf1000, hg1000, hbf, hbg, hmn, q⟩ := h
 have lf : (fs.map V.int).length = fs.length := List.length_map _
 have lg : (gs.map V.int).length = gs.length := List.length_map _
 have P1 : 1 ≤ sizeLine := by decide
 have hfg : fs.length * gs.length ≤ 1000 * 1000 := Nat.mul_le_mul hf1000 hg1000
 refine ⟨P1, fun o ho => ?_⟩
 have hf0 : SqL K (upd H o (.lst [.int 0])) f (fs.map V.int) := sq_new hf ho
 have hg0 : SqL K (upd H o (.lst [.int 0])) g (gs.map V.int) := sq_new hg ho
 refine ⟨_, rfl, f, _, rfl, .inl hf0, _, rfl, g, _, rfl, .inl hg0, _, _, rfl, rfl, _, _, rfl, rfl, o, _, _, rfl, rfl, upd_same, ?_, ?_, ?_, fun p hp => ?_⟩
 · rw [lf, lg]; lia
 · rw [lf, lg]; lia
 · show 1 * (((fs.map V.int).length : Int) + ((gs.map V.int).length : Int) - 1).toNat ≤ sizeLine
   rw [lf, lg, Nat.one_mul]
   exact Nat.le_trans (nat_sumle hf1000 hg1000) (by decide : 2 * 1000 ≤ sizeLine)
 have hpH : H p = none := by
   cases z : H p with
   | none => rfl
   | some u => rw [(Same.new ho) p u z] at hp; cases hp
 have eL : (((fs.map V.int).length : Int) + ((gs.map V.int).length : Int) - 1).toNat = fs.length + gs.length - 1 := by rw [lf, lg]; exact nat_sum1 hg1
 rw [eL]
 have s0 : Same H (upd (upd H o (.lst [.int 0])) p (.lst (List.replicate (fs.length + gs.length - 1) [V.int 0]).flatten)) := (Same.new ho).trans (Same.new hp)
 have e0 : (List.replicate (fs.length + gs.length - 1) [V.int 0]).flatten = (List.replicate (fs.length + gs.length - 1) (0 : Int)).map V.int := by rw [List.flatten_replicate_singleton, List.map_replicate]
 rw [e0] at s0 ⊢
 refine ⟨_, rfl, f, _, rfl, .inl (Same.seq s0 hf), _, rfl, by rw [lf]; lia, by rw [lf]; lia, ?_⟩
 rw [lf, Int.toNat_natCast]
 refine for_range (n := fs.length) (L8 H f g p fs gs m n fun H f g p fs gs m n i σ H' => Same H H' ∧ ∃ (ps : List Int) (z3 z4 : Option V), σ = [some (.ref f), some (.ref g), some (.ref p), z3, z4] ∧ H' p = some (.lst (ps.map V.int)) ∧ ps.length = fs.length + gs.length - 1 ∧ (∀ x, Cv.evI ps x = Cv.evI (fs.take i) x * Cv.evI gs x) ∧ ∀ t ∈ ps, Up (i * gs.length) (m + n) t)
   ⟨s0, _, none, none, rfl, upd_same, List.length_replicate, fun x => ?_, fun t ht => ?_⟩ ?_ ?_
 · rw [Cv.evI_zeros, List.take_zero]
   show (0 : Rat) = 0 * _
   grind
 · rw [(List.mem_replicate.mp ht).2]; exact Nat.zero_le _
 · rintro i σ H' hi hR1
   refine anE2 hR1 fun sm hz31 => ?_
   refine exE3 hz31 fun ps z3 z4 hz31' => ?_
   clear hz31
   refine anE5 hz31' fun hq30 ep hpl hev hup => ?_
   clear hz31'
   obtain rfl := hq30
   try clear hR1
   have hfi : fs[i]? = some fs[i] := List.getElem?_eq_getElem hi
   refine ⟨_, rfl, g, _, rfl, .inl (Same.seq sm hg), _, rfl, by rw [lg]; lia, by rw [lg]; lia, ?_⟩
   rw [lg, Int.toNat_natCast]
   refine for_range (n := gs.length) (fun j σ H' => Same H H' ∧ ∃ (ps : List Int) (z4 : Option V), σ = [some (.ref f), some (.ref g), some (.ref p), some (.int (0 + (i : Int))), z4] ∧ H' p = some (.lst (ps.map V.int)) ∧ ps.length = fs.length + gs.length - 1 ∧ (∀ x, Cv.evI ps x = Cv.evI (fs.take i) x * Cv.evI gs x + (fs[i] : Rat) * x ^ i * Cv.evI (gs.take j) x) ∧ ∀ t ∈ ps, Up (i * gs.length + j) (m + n) t)
     ⟨sm, ps, z4, rfl, ep, hpl, fun x => ?_, hup⟩ ?_ ?_
   · rw [hev x, List.take_zero]
     show _ = _ + _ * (0 : Rat)
     grind
   · rintro j σ H2 hj hR2
     refine anE2 hR2 fun sm2 hz33 => ?_
     refine exE2 hz33 fun ps2 z4' hz33' => ?_
     clear hz33
     refine anE5 hz33' fun hq32 ep2 hpl2 hev2 hup2 => ?_
     clear hz33'
     obtain rfl := hq32
     try clear hR2
     have hgj : gs[j]? = some gs[j] := List.getElem?_eq_getElem hj
     have hij : i + j < ps2.length := nat_ij hi hj hpl2
     have hpj : ps2[i + j]? = some ps2[i + j] := List.getElem?_eq_getElem hij
     have bm : MulC fs[i] gs[j] := MulC.bd (hbf _ (List.getElem_mem hi)) (hbg _ (List.getElem_mem hj)) (by lia)
     refine ⟨_, rfl, _, rfl, _, rfl, _, _, rfl, rfl, p, _, _, _, rfl, rfl, SqL.of ep2, at_plus hpj (by lia), _, rfl, _, rfl, f, _, _, _, rfl, rfl, Same.seq sm2 hf, at_plus hfi (by lia), _, rfl, _, rfl, g, _, _, _, rfl, rfl, Same.seq sm2 hg, at_plus hgj (by lia), _, _, rfl, rfl, bm, _, _, rfl, rfl, ?_⟩
     refine ⟨_, rfl, _, rfl, _, rfl, _, _, rfl, rfl, p, _, _, i + j, rfl, rfl, ep2, ixN_plus (by rw [List.length_map]; exact hij) (by lia), ?_⟩
     refine ⟨sm2.put hpH, ps2.set (i + j) (ps2[i + j] + fs[i] * gs[j]), _, rfl, ?_, by rw [List.length_set]; exact hpl2, fun x => ?_, fun t ht => ?_⟩
     · rw [upd_same, List.map_set]
     · rw [Cv.evI_set x ps2 (i + j) _ _ hpj, hev2 x, Cv.evI_take_succ x gs j _ hgj, Rat.intCast_mul, Nm.pow_add]
       grind
     · rcases List.mem_or_eq_of_mem_set ht with z | z
       · exact (hup2 t z).mono (by lia)
       · subst z
         exact (hup2 _ (List.getElem_mem hij)).add ((hbf _ (List.getElem_mem hi)).mul (hbg _ (List.getElem_mem hj)))
   · rintro σ H2 hR3
     refine anE2 hR3 fun sm2 hz35 => ?_
     refine exE2 hz35 fun ps2 z4' hz35' => ?_
     clear hz35
     refine anE5 hz35' fun hq34 ep2 hpl2 hev2 hup2 => ?_
     clear hz35'
     obtain rfl := hq34
     try clear hR3
     refine ⟨sm2, ps2, _, _, rfl, ep2, hpl2, fun x => ?_, fun t ht => ?_⟩
     · rw [hev2 x, List.take_length, Cv.evI_take_succ x fs i _ hfi]
       grind
     · have := hup2 t ht
       rw [Nat.add_mul, Nat.one_mul]
       exact this
 · rintro σ H' hR4
   refine anE2 hR4 fun sm hz37 => ?_
   refine exE3 hz37 fun ps z3 z4 hz37' => ?_
   clear hz37
   refine anE5 hz37' fun hq36 ep hpl hev hup => ?_
   clear hz37'
   obtain rfl := hq36
   try clear hR4
   refine ⟨_, rfl, q p H' ps sm hpH ep hpl (fun x => ?_) (fun t ht => ?_)⟩
   · rw [hev x, List.take_length]
   · exact (hup t ht).bd (k := 20) (by lia)
theorem sc_by_steps : FnScope ["knots", "steps", "bottom", "step_tops", "tops", "scale", "k"] ["knots", "steps"] (defScope (top 38)) := ⟨rfl, rfl, rfl, by decide +kernel, rfl, by decide +kernel, by decide +kernel⟩
set_option maxHeartbeats 4000000 in
theorem ok_by_steps {f : Addr} {fd : FuncData} (F : Fun K "by_steps" "by_steps" (top 38) f fd) (F_bottom_of : Fd P w K mg base 34 "bottom_of" ["numbers"] (spBot K)) (F_tops_over : Fd P w K mg base 33 "tops_over" ["numbers", "bottom"] (spTops K)) (F_curve_over : Fd P w K mg base 35 "curve_over" ["tops", "bottom"] (spCurveOver K)) (F_whole_product : Fd P w K mg base 33 "whole_product" ["first", "second"] (spProd K)) (b_range : mg "range" = none) (b_len : mg "len" = none) (hT : P.given.tree = none) :
   FnOk P w K mg base CX0 36 f fd ["knots", "steps"] (spBySteps K) := by
 refine F.ok sc_by_steps (fun vs H Q E h => ?_) (fun cdv A outer s H vs Q E hr h => ?_)
 · obtain ⟨_, _, _, _, _, _, _, rfl, _⟩ := h; rfl
 refine ⟨_, (@pss_consC _ _ _ _ _ K _ (@ps_set _ _ 2 _ _ _ _ sc_by_steps.nd rfl (Or.inl rfl) (@pe_fn _ _ _ _ _ _ _ _ _ _ _ F_bottom_of hr rfl (@pa_cons _ _ _ _ _ (pv 1) pa_nil (by rfl)) (by decide) (by decide) (by rfl) (by rfl)) (by rfl) (by first   | exact .inl rfl   | exact .inr rfl   | assumption)) (@pss_consC _ _ _ _ _ K _ (@ps_set _ _ 3 _ _ _ _ sc_by_steps.nd rfl (Or.inl rfl) (@pe_fn _ _ _ _ _ _ _ _ _ _ _ F_tops_over hr rfl (@pa_cons _ _ _ _ _ (pv 1) (@pa_cons _ _ _ _ _ (pv 2) pa_nil (by rfl)) (by rfl)) (by decide) (by decide) (by rfl) (by rfl)) (by rfl) (by first   | exact .inl rfl   | exact .inr rfl   | assumption)) (@pss_consC _ _ _ _ _ K _ (@ps_set _ _ 4 _ _ _ _ sc_by_steps.nd rfl (Or.inl rfl) (@pe_lst _ _ _ _ pa_nil) (by rfl) (by first   | exact .inl rfl   | exact .inr rfl   | assumption)) (@pss_consC _ _ _ _ _ K _ (@ps_set _ _ 5 _ _ _ _ sc_by_steps.nd rfl (Or.inl rfl) pe_int (by rfl) (by first   | exact .inl rfl   | exact .inr rfl   | assumption)) (@pss_consC _ _ _ _ _ K _ (@ps_forC _ _ _ _ _ _ _ _ K _ PassesOwn.never rfl (@pi_down _ _ _ _ _ _ _ _ rfl b_range (@pa_cons _ _ _ _ _ (@pe_op _ _ _ _ _ _ _ _ op_sub (@pe_callB _ _ _ _ _ _ _ _ _ (lenK K) rfl b_len bt_len (@pa_cons _ _ _ _ _ (pv 0) pa_nil (by rfl)) (by decide) (by decide) (by rfl) (by rfl)) pe_int) (@pa_cons _ _ _ _ _ (@pe_un _ _ _ _ _ _ un_neg pe_int) (@pa_cons _ _ _ _ _ (@pe_un _ _ _ _ _ _ un_neg pe_int) pa_nil (by rfl)) (by rfl)) (by rfl)) (by rfl) (by rfl)) (@pg_name _ _ 6 _ sc_by_steps.nd rfl (Or.inl rfl) (by first   | exact .inl rfl   | exact .inr rfl   | assumption)) (@pss_consC _ _ _ _ _ K _ (@ps_set _ _ 4 _ _ _ _ sc_by_steps.nd rfl (Or.inl rfl) (@pe_fn _ _ _ _ _ _ _ _ _ _ _ F_whole_product hr rfl (@pa_cons _ _ _ _ _ (pv 4) (@pa_cons _ _ _ _ _ (@pe_lst _ _ _ _ (@pa_cons _ _ _ _ _ (@pe_un _ _ _ _ _ _ un_neg (@pe_ix _ _ _ _ _ _ _ (ixT K) (@pe_ix _ _ _ _ _ _ _ (ixL K) (pv 0) (pv 6) (fun u v => rfl)) pe_int (fun u v => rfl))) (@pa_cons _ _ _ _ _ (@pe_ix _ _ _ _ _ _ _ (ixT K) (@pe_ix _ _ _ _ _ _ _ (ixL K) (pv 0) (pv 6) (fun u v => rfl)) pe_int (fun u v => rfl)) pa_nil (by rfl)) (by rfl))) pa_nil (by rfl)) (by rfl)) (by decide) (by decide) (by rfl) (by rfl)) (by rfl) (by first   | exact .inl rfl   | exact .inr rfl   | assumption)) (@pss_consC _ _ _ _ _ K _ (@ps_set _ _ 5 _ _ _ _ sc_by_steps.nd rfl (Or.inl rfl) (@pe_op _ _ _ _ _ _ _ _ op_mulC (pv 5) (@pe_ix _ _ _ _ _ _ _ (ixT K) (@pe_ix _ _ _ _ _ _ _ (ixL K) (pv 0) (pv 6) (fun u v => rfl)) pe_int (fun u v => rfl))) (by rfl) (by first   | exact .inl rfl   | exact .inr rfl   | assumption)) (@pss_one _ _ _ (@ps_asg _ _ _ _ _ _ (@pe_op _ _ _ _ _ _ _ _ op_add (@pe_ix _ _ _ _ _ _ _ (ixL K) (pv 4) pe_int (fun u v => rfl)) (@pe_op _ _ _ _ _ _ _ _ op_mulC (@pe_ix _ _ _ _ _ _ _ (ixL K) (pv 3) (pv 6) (fun u v => rfl)) (pv 5))) (@pg_sub _ _ _ _ _ _ _ (pv 4) pe_int set_list (by intro _; rfl)) (by rfl) (by rfl) (by rfl))) (by rfl)) (by rfl)) (by rfl) (by intro _; rfl)) (@pss_one _ _ _ (@ps_ret _ _ _ _ (@pe_fn _ _ _ _ _ _ _ _ _ _ _ F_curve_over hr rfl (@pa_cons _ _ _ _ _ (pv 4) (@pa_cons _ _ _ _ _ (@pe_op _ _ _ _ _ _ _ _ op_mulC (pv 2) (pv 5)) pa_nil (by rfl)) (by rfl)) (by decide) (by decide) (by rfl) (by rfl)))) (by rfl)) (by rfl)) (by rfl)) (by rfl)) (by rfl)), ?_⟩
 obtain ⟨rk, rst, xs, ys, ks, ss, n, rfl, hk, hnk, hs, hns, hlen, h30, hbk, hbs, hn4, q⟩ := h
 have hlk := hnk.length
 have hls := hns.length
 have P0 : 0 ≤ sizeLine := by decide
 have P2 : 2 ≤ sizeLine := by decide
 have hnq : n * ks.length ≤ 10000 * 30 := Nat.mul_le_mul hn4 h30
 have hnq' : n * ss.length = n * ks.length := by rw [hlen]
 refine ⟨_, rfl, true, rst, ys, ss, n, rfl, hs, hns, (fun c hc => (hbs c hc).2), by rw [Nat.mul_add]; lia, fun B hB0 hdv hbB => ?_⟩
 refine ⟨_, rfl, _, rfl, true, rst, ys, ss, B, n * ss.length + 1, n, rfl, hs, hns, hbB, (fun c hc => (hbs c hc).1), by lia, by lia, fun st h1 => ?_⟩
 refine ⟨P0, fun tp h2 => ?_⟩
 have s2 : Same H (upd (upd H st (.lst ((ss.map (topOf B)).map V.int))) tp (.lst [])) := (Same.new h1).trans (Same.new h2)
 have est : (upd (upd H st (.lst ((ss.map (topOf B)).map V.int))) tp (.lst [])) st = some (.lst ((ss.map (topOf B)).map V.int)) := (Same.new h2) _ _ upd_same
 have etp : (upd (upd H st (.lst ((ss.map (topOf B)).map V.int))) tp (.lst [])) tp = some (.lst (([] : List Int).map V.int)) := upd_same
 generalize upd (upd H st (.lst ((ss.map (topOf B)).map V.int))) tp (.lst []) = H2 at s2 est etp ⊢
 refine ⟨_, rfl, rk, xs, rfl, .inl (Same.seq s2 hk), _, _, rfl, rfl, _, rfl, _, rfl, _, _, rfl, ⟨by lia, by lia, by decide, by decide⟩, ?_⟩
 have eT : ((xs.length : Int) - 1 - -1).toNat = ks.length := nat_all hlk
 rw [eT]
 refine for_down (n := ks.length) (L8 H2 rk rst B st ks ss n fun H2 rk rst B st ks ss n i σ H' => Same H2 H' ∧ ∃ (tp : Addr) (ts : List Int) (s : Int) (z : Option V), σ = [some (.ref rk), some (.ref rst), some (.int B), some (.ref st), some (.ref tp), some (.int s), z] ∧ H' tp = some (.lst (ts.map V.int)) ∧ ts.length = i ∧ s ≠ 0 ∧
   (∀ x, Cv.evI ts x = newton (ks.drop (ks.length - i)) (ss.drop (ks.length - i)) x * ((B : Rat) * (s : Rat))) ∧ (∀ t ∈ ts, Bd (n * ks.length + n * i + 21 * i + 2 * n + 30) t) ∧ Bd (n * i + 1) s)
   ⟨Same.refl _, tp, [], 1, none, rfl, etp, rfl, by decide, fun x => ?_, (fun _ h => nomatch h), ?_⟩ ?_ ?_
 · rw [Nat.sub_zero, List.drop_eq_nil_of_le (Nat.le_refl _)]
   show (0 : Rat) = 0 * _
   grind
 · exact (show Bd 1 1 by unfold Bd; decide).mono (by lia)
 · rintro i σ H' hi hR1
   refine anE2 hR1 fun sm hz39 => ?_
   refine exE4 hz39 fun tp' ts s z hz39' => ?_
   clear hz39
   refine anE7 hz39' fun hq38 etp' htl hs0 he hbt hbsc => ?_
   clear hz39'
   obtain rfl := hq38
   try clear hR1
   have hj : ks.length - 1 - i < ks.length := nat_lt hi
   have hj2 : ks.length - 1 - i < ss.length := by lia
   have hkq : ks[ks.length - 1 - i]? = some ks[ks.length - 1 - i] := List.getElem?_eq_getElem hj
   have hsq : ss[ks.length - 1 - i]? = some ss[ks.length - 1 - i] := List.getElem?_eq_getElem hj2
   have hcm : ks[ks.length - 1 - i] ∈ ks := List.getElem_mem hj
   have hsm : ss[ks.length - 1 - i] ∈ ss := List.getElem_mem hj2
   generalize ks[ks.length - 1 - i] = c at hkq hcm
   generalize ss[ks.length - 1 - i] = d at hsq hsm
   obtain ⟨xk, hxk, rk', rfl, hrk⟩ := (Paired.get' hnk hkq)
   have ei : (xs.length : Int) - 1 - (i : Int) = ((ks.length - 1 - i : Nat) : Int) := nat_back hlk hi
   have hat : atI xs ((xs.length : Int) - 1 - (i : Int)) = some (.ref rk') := by rw [ei]; exact atI_nat hxk
   have hat2 : atI ((ss.map (topOf B)).map V.int) ((xs.length : Int) - 1 - (i : Int)) = some (.int (topOf B d)) := at_plus (by rw [List.getElem?_map, hsq]; rfl) ei
   have hni : n * i ≤ n * ks.length := Nat.mul_le_mul_left n (by lia)
   have hni1 : n * (i + 1) = n * i + n := by rw [Nat.mul_add, Nat.mul_one]
   have bt : Bd (n * ks.length + n + 1) (topOf B d) := ((hbs d hsm).1.mul (hbB.fdiv (y := d.den))).mono (by lia)
   have sH := s2.trans sm
   have hrk1 := hrk.same sH
   refine ⟨_, rfl, _, rfl, _, rfl, rk, xs, _, _, rfl, rfl, Same.seq sH hk, hat, rk', _, _, _, rfl, rfl, hrk1, rfl, _, rfl, _, rfl, _, rfl, rk, xs, _, _, rfl, rfl, Same.seq sH hk, hat, rk', _, _, _, rfl, rfl, hrk1, rfl, P2, fun g hg => ?_⟩
   have sg : Same H' (upd H' g (.lst [.int (-c.num), .int (c.den : Int)])) := Same.new hg
   have eg : (upd H' g (.lst [.int (-c.num), .int (c.den : Int)])) g = some (.lst ([-c.num, (c.den : Int)].map V.int)) := upd_same
   generalize upd H' g (.lst [.int (-c.num), .int (c.den : Int)]) = Hg at sg eg ⊢
   have blin : ∀ t ∈ [-c.num, (c.den : Int)], Bd n t := fun t ht => by
     rcases List.mem_cons.mp ht with z | z
     · subst z; exact (hbk c hcm).1.neg
     · rw [List.mem_singleton.mp z]; exact (hbk c hcm).2
   refine ⟨tp', g, ts, [-c.num, (c.den : Int)], n * ks.length + n * i + 21 * i + 2 * n + 30, n, rfl, SqL.of (sg _ _ etp'), SqL.of eg, (show 1 ≤ 2 by decide), by lia, (show 2 ≤ 1000 by decide), hbt, blin, by lia, fun pr H6 ps s6 hpr epr hpl hpe hpb => ?_⟩
   have hpl' : ps.length = i + 1 := by rw [hpl, htl]; rfl
   have hp0 : 0 < ps.length := by rw [hpl']; exact Nat.succ_pos i
   have h0 : ps[0]? = some ps[0] := List.getElem?_eq_getElem hp0
   have sg6 := sg.trans s6
   have s06 := sH.trans sg6
   have ms : MulC s (c.den : Int) := MulC.bd hbsc (hbk c hcm).2 (by lia)
   have bs' : Bd (n * (i + 1) + 1) (s * (c.den : Int)) := (hbsc.mul (hbk c hcm).2).mono (by lia)
   refine ⟨_, rfl, _, rfl, _, rfl, rk, xs, _, _, rfl, rfl, Same.seq s06 hk, hat, rk', _, _, _, rfl, rfl, hrk.same s06, rfl, _, _, rfl, rfl, ms, ?_⟩
   refine ⟨_, rfl, pr, _, _, _, rfl, rfl, SqL.of epr, at_plus h0 rfl, _, rfl, _, rfl, st, _, _, _, rfl, rfl, SqL.of (sg6 _ _ (sm _ _ est)), hat2, _, rfl, _, _, rfl, rfl, MulC.bd bt bs' (by lia), _, _, rfl, rfl, ?_⟩
   refine ⟨_, rfl, pr, _, _, 0, rfl, rfl, epr, ixN_plus (by rw [List.length_map]; lia) rfl, ?_⟩
   have sm2 : Same H2 (upd H6 pr (.lst ((ps.map V.int).set 0 (.int (ps[0] + topOf B d * (s * (c.den : Int))))))) := fun bb u zz => by
     have z1 := sg _ _ (sm bb u zz)
     rw [upd_ne (ne_of_none z1 hpr)]
     exact s6 bb u z1
   refine ⟨sm2, pr, ps.set 0 (ps[0] + topOf B d * (s * (c.den : Int))), s * (c.den : Int), _, rfl, ?_, by rw [List.length_set]; exact hpl', Int.mul_ne_zero hs0 (Nm.den_ne c), fun x => ?_, fun t ht => ?_, bs'⟩
   · rw [upd_same, List.map_set]
   · rw [Cv.evI_set x ps 0 _ _ h0, hpe x, evI_line, he x, Rat.pow_zero, drop_at rfl hi hkq, drop_at hlen.symm hi hsq]
     show _ = (d + (x - c) * newton _ _ x) * _
     rw [Rat.intCast_mul, Rat.intCast_mul, topOf_rat (hdv d hsm)]
     grind
   · rcases List.mem_or_eq_of_mem_set ht with zz | zz
     · exact (hpb t zz).mono (by lia)
     · subst zz
       have b1 := (hpb _ (List.getElem_mem hp0)).mono (n := n * ks.length + n * i + 21 * i + 2 * n + 30 + n + 20) (by lia)
       have b2 := (bt.mul bs').mono (n := n * ks.length + n * i + 21 * i + 2 * n + 30 + n + 20) (by lia)
       exact (Bd.add b1 b2).mono (by lia)
 · rintro σ H' hR2
   refine anE2 hR2 fun sm hz43 => ?_
   refine exE4 hz43 fun tp' ts s z hz43' => ?_
   clear hz43
   refine anE7 hz43' fun hq42 etp' htl hs0 he hbt hbsc => ?_
   clear hz43'
   obtain rfl := hq42
   try clear hR2
   have hb0 : B * s ≠ 0 := Int.mul_ne_zero (by lia) hs0
   refine ⟨_, rfl, _, rfl, _, rfl, _, _, rfl, rfl, MulC.bd hbB hbsc (by lia), tp', ts, B * s, rfl, SqL.of etp', hb0, by lia, fun p H6 s6 c6 => ?_⟩
   refine q p H6 _ ((s2.trans sm).trans s6) c6 (by have := Cv.strip_length (ts.map fun t => Rat.divInt t (B * s)); rw [List.length_map] at this; lia) (good_strip _) (fun c hc => ?_) fun x => ?_
   · have hc' := Cv.strip_mem _ c hc
     obtain ⟨t, ht, rfl⟩ := (List.mem_map.mp hc')
     exact RB.div (m := 0) ((hbt t ht).mono (by lia)) ((hbB.mul hbsc).mono (by lia)) hb0
   rw [Cv.ev_strip]
   have h7 := ev_over hb0 x ts
   rw [he x, Nat.sub_self, List.drop_zero, List.drop_zero, ← Rat.intCast_mul] at h7
   exact rcancel (Nm.cast_ne hb0) h7
theorem sc_nought_at : FnScope ["places"] ["places"] (defScope (top 40)) := ⟨rfl, rfl, rfl, by decide +kernel, rfl, by decide +kernel, by decide +kernel⟩
set_option maxHeartbeats 4000000 in
theorem ok_nought_at {f : Addr} {fd : FuncData} (F : Fun K "nought_at" "nought_at" (top 40) f fd) (F_by_steps : Fd P w K mg base 36 "by_steps" ["knots", "steps"] (spBySteps K)) (b_len : mg "len" = none) {a_NOUGHT : Addr} (c_NOUGHT : mg "NOUGHT" = some (.ref a_NOUGHT)) (n_NOUGHT : ∀ H : Hp, NumV K H (.ref a_NOUGHT) (0)) (hT : P.given.tree = none) :
   FnOk P w K mg base CX0 37 f fd ["places"] (spNoughtAt K) := by
 refine F.ok sc_nought_at (fun vs H Q E h => ?_) (fun cdv A outer s H vs Q E hr h => ?_)
 · obtain ⟨_, _, _, _, rfl, _⟩ := h; rfl
 refine ⟨_, (@pss_one _ _ _ (@ps_ret _ _ _ _ (@pe_fn _ _ _ _ _ _ _ _ _ _ _ F_by_steps hr rfl (@pa_cons _ _ _ _ _ (@pe_op _ _ _ _ _ _ _ _ op_cat (pv 0) (@pe_lst _ _ _ _ (@pa_cons _ _ _ _ _ (@pe_glob _ _ (.ref a_NOUGHT) _ _ rfl c_NOUGHT rfl (by decide)) pa_nil (by rfl)))) (@pa_cons _ _ _ _ _ (@pe_op _ _ _ _ _ _ _ _ op_cat (@pe_op _ _ _ _ _ _ _ _ op_rep (@pe_lst _ _ _ _ (@pa_cons _ _ _ _ _ (@pe_glob _ _ (.ref a_NOUGHT) _ _ rfl c_NOUGHT rfl (by decide)) pa_nil (by rfl))) (@pe_callB _ _ _ _ _ _ _ _ _ (lenK K) rfl b_len bt_len (@pa_cons _ _ _ _ _ (pv 0) pa_nil (by rfl)) (by decide) (by decide) (by rfl) (by rfl))) (@pe_lst _ _ _ _ (@pa_cons _ _ _ _ _ (@pe_tup _ _ _ _ _ (@pa_cons _ _ _ _ _ pe_int (@pa_cons _ _ _ _ _ pe_int pa_nil (by rfl)) (by rfl))) pa_nil (by rfl)))) pa_nil (by rfl)) (by rfl)) (by decide) (by decide) (by rfl) (by rfl)))), ?_⟩
 obtain ⟨l, zs, qs, n, rfl, hl, hN, hb, hn1, hn, h12, q⟩ := h
 have P1 : 1 ≤ sizeLine := by decide
 have P2 : 2 ≤ sizeLine := by decide
 have P60 : 60 ≤ sizeLine := by decide
 have hzl := hN.length
 refine ⟨_, rfl, P1, fun o1 h1 => ?_⟩
 have n1 := Same.new (o := .lst [.ref a_NOUGHT]) h1
 refine ⟨l, o1, zs, [.ref a_NOUGHT], rfl, rfl, n1 _ _ hl, upd_same, Nat.le_trans (show _ ≤ 60 by rw [List.length_singleton]; lia) P60, fun o2 h2 => ?_⟩
 have n2 := Same.new (o := .lst (zs ++ [.ref a_NOUGHT])) h2
 have s2 := n1.trans n2
 have e2 := upd_same (H := upd H o1 (.lst [.ref a_NOUGHT])) (a := o2) (o := .lst (zs ++ [.ref a_NOUGHT]))
 generalize upd (upd H o1 (.lst [.ref a_NOUGHT])) o2 (.lst (zs ++ [.ref a_NOUGHT])) = H2 at s2 e2 ⊢
 refine ⟨P1, fun o3 h3 => ?_⟩
 have n3 := Same.new (o := .lst [.ref a_NOUGHT]) h3
 refine ⟨_, rfl, l, zs, rfl, .inl (SqL.of (n3 _ _ (s2 _ _ hl))), o3, _, [.ref a_NOUGHT], rfl, rfl, upd_same, by lia, by lia, Nat.le_trans (show _ ≤ 60 by show 1 * _ ≤ 60; lia) P60, fun o4 h4 => ?_⟩
 rw [Int.toNat_natCast, repA]
 have n4 := n3.trans (Same.new (o := .lst (List.replicate zs.length (.ref a_NOUGHT))) h4)
 have e4 := upd_same (H := upd H2 o3 (.lst [.ref a_NOUGHT])) (a := o4) (o := .lst (List.replicate zs.length (.ref a_NOUGHT)))
 generalize upd (upd H2 o3 (.lst [.ref a_NOUGHT])) o4 (.lst (List.replicate zs.length (.ref a_NOUGHT))) = H4 at n4 e4 ⊢
 refine ⟨P2, fun t5 h5 => ⟨P1, fun o6 h6 => ?_⟩⟩
 have n5 := Same.new (o := .tup [.int 1, .int 1]) h5
 have n6 := Same.new (o := .lst [.ref t5]) h6
 have e5 := n6 _ _ (upd_same (H := H4) (a := t5) (o := .tup [.int 1, .int 1]))
 refine ⟨o4, o6, _, _, rfl, rfl, n6 _ _ (n5 _ _ e4), upd_same, Nat.le_trans (show _ ≤ 60 by rw [List.length_singleton, List.length_replicate]; lia) P60, fun o7 h7 => ?_⟩
 have n7 := Same.new (o := .lst (List.replicate zs.length (.ref a_NOUGHT) ++ [.ref t5])) h7
 have s47 := (n5.trans n6).trans n7
 have s27 := n4.trans s47
 have e7 := upd_same (H := upd (upd H4 t5 (.tup [.int 1, .int 1])) o6 (.lst [.ref t5])) (a := o7) (o := .lst (List.replicate zs.length (.ref a_NOUGHT) ++ [.ref t5]))
 have e5 := n7 _ _ e5
 generalize upd (upd (upd H4 t5 (.tup [.int 1, .int 1])) o6 (.lst [.ref t5])) o7 (.lst (List.replicate zs.length (.ref a_NOUGHT) ++ [.ref t5])) = H7 at s27 e7 e5 ⊢
 have hrb0 : RB n (0 : Rat) := ⟨(show Bd 1 0 by unfold Bd; decide).mono hn1, (show Bd 1 1 by unfold Bd; decide).mono hn1⟩
 have hrb1 : RB n (1 : Rat) := ⟨(show Bd 1 1 by unfold Bd; decide).mono hn1, (show Bd 1 1 by unfold Bd; decide).mono hn1⟩
 refine ⟨o2, o7, _, _, qs ++ [0], List.replicate qs.length 0 ++ [1], n, rfl, SqL.of (s27 _ _ e2), Paired.append (Nums.same hN (s2.trans s27)) (.cons (n_NOUGHT _) .nil), SqL.of e7, ?_, by rw [List.length_append, List.length_append, List.length_replicate]; rfl, by rw [List.length_append, List.length_singleton]; lia, ?_, ?_, by lia, fun p H' cs s8 cC hcl hg hrb hev => ?_⟩
 · rw [← hzl]
   exact Paired.append (nums_rep (n_NOUGHT _) _) (.cons ⟨t5, rfl, SqT.of e5⟩ .nil)
 · intro c hc
   rcases List.mem_append.mp hc with z | z
   · exact hb c z
   · rw [List.mem_singleton.mp z]; exact hrb0
 · intro c hc
   rcases List.mem_append.mp hc with z | z
   · rw [List.eq_of_mem_replicate z]; exact hrb0
   · rw [List.mem_singleton.mp z]; exact hrb1
 have ecs : cs = prL qs := good_one hg (good_prL qs) fun x => by rw [hev x, newton_lines, prL_ev]
 rw [ecs] at cC hrb
 refine q p H' ((s2.trans s27).trans s8) cC fun c hc => (hrb c hc).mono ?_
 have e : (qs ++ [(0 : Rat)]).length = qs.length + 1 := by rw [List.length_append, List.length_singleton]
 have := Nat.mul_le_mul_left n (show qs.length + 1 ≤ 13 by lia)
 rw [e]
 lia
theorem sc_over : FnScope ["a", "b"] ["a", "b"] (defScope (top 10)) := ⟨rfl, rfl, rfl, by decide +kernel, rfl, by decide +kernel, by decide +kernel⟩
set_option maxHeartbeats 4000000 in
theorem ok_over {f : Addr} {fd : FuncData} (F : Fun K "over" "over" (top 10) f fd) (F_number_of : Fd P w K mg base 34 "number_of" ["top", "bottom"] (spLow)) (hT : P.given.tree = none) :
   FnOk P w K mg base CX0 35 f fd ["a", "b"] (spOver K) := by
 refine F.ok sc_over (fun vs H Q E h => ?_) (fun cdv A outer s H vs Q E hr h => ?_)
 · obtain ⟨_, _, _, _, _, _, rfl, _⟩ := h; rfl
 refine ⟨_, (@pss_one _ _ _ (@ps_ret _ _ _ _ (@pe_fn _ _ _ _ _ _ _ _ _ _ _ F_number_of hr rfl (@pa_cons _ _ _ _ _ (@pe_op _ _ _ _ _ _ _ _ op_mulC (@pe_ix _ _ _ _ _ _ _ (ixT K) (pv 0) pe_int (fun u v => rfl)) (@pe_ix _ _ _ _ _ _ _ (ixT K) (pv 1) pe_int (fun u v => rfl))) (@pa_cons _ _ _ _ _ (@pe_op _ _ _ _ _ _ _ _ op_mulC (@pe_ix _ _ _ _ _ _ _ (ixT K) (pv 0) pe_int (fun u v => rfl)) (@pe_ix _ _ _ _ _ _ _ (ixT K) (pv 1) pe_int (fun u v => rfl))) pa_nil (by rfl)) (by rfl)) (by decide) (by decide) (by rfl) (by rfl)))), ?_⟩
 obtain ⟨x, y, p, q, m, n, rfl, ⟨r, rfl, hr'⟩, ⟨u, rfl, hu⟩, q0, hp, hq, hmn, k⟩ := h
 have hn : q.num ≠ 0 := fun z => q0 (Rat.num_eq_zero.mp z)
 refine ⟨_, rfl, r, _, _, _, rfl, rfl, hr', rfl, _, rfl, u, _, _, _, rfl, rfl, hu, rfl, _, _, rfl, rfl, MulC.bd hp.1 hq.2, ?_⟩
 refine ⟨_, rfl, r, _, _, _, rfl, rfl, hr', rfl, _, rfl, u, _, _, _, rfl, rfl, hu, rfl, _, _, rfl, rfl, MulC.bd hp.2 hq.1, ?_⟩
 refine ⟨_, _, rfl, Int.mul_ne_zero (Nm.den_ne p) hn, fun z hz => ?_⟩
 have e := k z hz
 rw [← over_eq p q q0] at e
 exact e
theorem sc_whole_division : FnScope ["first", "second", "lead", "often", "rest", "shift", "top", "k"] ["first", "second"] (defScope (top 23)) := ⟨rfl, rfl, rfl, by decide +kernel, rfl, by decide +kernel, by decide +kernel⟩
set_option maxHeartbeats 4000000 in
theorem ok_whole_division {f : Addr} {fd : FuncData} (F : Fun K "whole_division" "whole_division" (top 23) f fd) (b_list : mg "list" = none) (b_range : mg "range" = none) (b_len : mg "len" = none) (hT : P.given.tree = none) :
   FnOk P w K mg base CX0 33 f fd ["first", "second"] (spDiv K) := by
 refine F.ok sc_whole_division (fun vs H Q E h => ?_) (fun cdv A outer s H vs Q E hr h => ?_)
 · obtain ⟨_, _, _, _, _, _, _, rfl, _⟩ := h; rfl
 refine ⟨_, (@pss_consC _ _ _ _ _ K _ (@ps_set _ _ 2 _ _ _ _ sc_whole_division.nd rfl (Or.inr rfl) (@pe_ix _ _ _ _ _ _ _ (ixL K) (pv 1) (@pe_un _ _ _ _ _ _ un_neg pe_int) (fun u v => rfl)) (by rfl) (by first   | exact .inl rfl   | exact .inr rfl   | assumption)) (@pss_consC _ _ _ _ _ K _ (@ps_set _ _ 3 _ _ _ _ sc_whole_division.nd rfl (Or.inl rfl) (@pe_lst _ _ _ _ pa_nil) (by rfl) (by first   | exact .inl rfl   | exact .inr rfl   | assumption)) (@pss_consC _ _ _ _ _ K _ (@ps_set _ _ 4 _ _ _ _ sc_whole_division.nd rfl (Or.inl rfl) (@pe_callTy _ _ _ _ _ _ _ _ _ (listK K) rfl b_list bt_list (@pa_cons _ _ _ _ _ (pv 0) pa_nil (by rfl)) (by decide) (by decide) (by rfl) (by rfl)) (by rfl) (by first   | exact .inl rfl   | exact .inr rfl   | assumption)) (@pss_consC _ _ _ _ _ K _ (@ps_forC _ _ _ _ _ _ _ _ K _ PassesOwn.never rfl (@pi_down _ _ _ _ _ _ _ _ rfl b_range (@pa_cons _ _ _ _ _ (@pe_op _ _ _ _ _ _ _ _ op_sub (@pe_callB _ _ _ _ _ _ _ _ _ (lenK K) rfl b_len bt_len (@pa_cons _ _ _ _ _ (pv 0) pa_nil (by rfl)) (by decide) (by decide) (by rfl) (by rfl)) (@pe_callB _ _ _ _ _ _ _ _ _ (lenK K) rfl b_len bt_len (@pa_cons _ _ _ _ _ (pv 1) pa_nil (by rfl)) (by decide) (by decide) (by rfl) (by rfl))) (@pa_cons _ _ _ _ _ (@pe_un _ _ _ _ _ _ un_neg pe_int) (@pa_cons _ _ _ _ _ (@pe_un _ _ _ _ _ _ un_neg pe_int) pa_nil (by rfl)) (by rfl)) (by rfl)) (by rfl) (by rfl)) (@pg_name _ _ 5 _ sc_whole_division.nd rfl (Or.inl rfl) (by first   | exact .inl rfl   | exact .inr rfl   | assumption)) (@pss_consC _ _ _ _ _ K _ (@ps_set _ _ 6 _ _ _ _ sc_whole_division.nd rfl (Or.inl rfl) (@pe_ix _ _ _ _ _ _ _ (ixL K) (pv 4) (@pe_un _ _ _ _ _ _ un_neg pe_int) (fun u v => rfl)) (by rfl) (by first   | exact .inl rfl   | exact .inr rfl   | assumption)) (@pss_consC _ _ _ _ _ K _ (@ps_set _ _ 3 _ _ _ _ sc_whole_division.nd rfl (Or.inl rfl) (@pe_op _ _ _ _ _ _ _ _ op_cat (@pe_lst _ _ _ _ (@pa_cons _ _ _ _ _ (pv 6) pa_nil (by rfl))) (@pe_lc _ (["number", "lead"]) 1 ([2]) _ _ _ _ _ _ _ _ _ _ rfl (CompOk.look (NX := ["first", "second", "lead", "often", "rest", "shift", "top", "k"]) (sc := defScope (top 23)) rfl rfl (by decide +kernel)) (@piL _ K _ _ _ (pv 3) (by rfl)) (fun u1 u2 u3 u4 u5 => (@pg_name _ _ 0 _ (show List.Nodup (["number", "lead"] : List Str) from by decide +kernel) rfl (Or.inl rfl) (by first   | exact .inl rfl   | exact .inr rfl   | assumption))) (stays_name (by decide)) (fun u1 u2 u3 u4 u5 => pts_nil) (fun u1 u2 u3 u4 u5 => (@pe_op _ _ _ _ _ _ _ _ op_mulC (pv 1) (pv 0))) (by intro _; rfl))) (by rfl) (by first   | exact .inl rfl   | exact .inr rfl   | assumption)) (@pss_consC _ _ _ _ _ K _ (@ps_lc _ (["number", "lead"]) 1 ([2]) _ _ _ _ _ _ _ _ _ _ 4 _ _ _ rfl sc_whole_division.nd rfl rfl (CompOk.look (NX := ["first", "second", "lead", "often", "rest", "shift", "top", "k"]) (sc := defScope (top 23)) rfl rfl (by decide +kernel)) (@piL _ K _ _ _ (@pe_slice _ _ _ _ _ _ _ _ _ _ (slL K) (pv 4) po_none (@po_some _ _ _ (@pe_un _ _ _ _ _ _ un_neg pe_int))) (by rfl)) (fun u1 u2 u3 u4 u5 => (@pg_name _ _ 0 _ (show List.Nodup (["number", "lead"] : List Str) from by decide +kernel) rfl (Or.inl rfl) (by first   | exact .inl rfl   | exact .inr rfl   | assumption))) (stays_name (by decide)) (fun u1 u2 u3 u4 u5 => pts_nil) (fun u1 u2 u3 u4 u5 => (@pe_op _ _ _ _ _ _ _ _ op_mulC (pv 1) (pv 0))) rfl (by intro _; rfl)) (@pss_one _ _ _ (@ps_forC _ _ _ _ _ _ _ _ K _ PassesOwn.never rfl (@pi_range1 _ _ _ _ _ _ rfl b_range (@pa_cons _ _ _ _ _ (@pe_op _ _ _ _ _ _ _ _ op_sub (@pe_callB _ _ _ _ _ _ _ _ _ (lenK K) rfl b_len bt_len (@pa_cons _ _ _ _ _ (pv 1) pa_nil (by rfl)) (by decide) (by decide) (by rfl) (by rfl)) pe_int) pa_nil (by rfl)) (by rfl)) (@pg_name _ _ 7 _ sc_whole_division.nd rfl (Or.inl rfl) (by first   | exact .inl rfl   | exact .inr rfl   | assumption)) (@pss_one _ _ _ (@ps_asg _ _ _ _ _ _ (@pe_op _ _ _ _ _ _ _ _ op_sub (@pe_ix _ _ _ _ _ _ _ (ixL K) (pv 4) (@pe_op _ _ _ _ _ _ _ _ op_add (pv 7) (pv 5)) (fun u v => rfl)) (@pe_op _ _ _ _ _ _ _ _ op_mulC (pv 6) (@pe_ix _ _ _ _ _ _ _ (ixL K) (pv 1) (pv 7) (fun u v => rfl)))) (@pg_sub _ _ _ _ _ _ _ (pv 4) (@pe_op _ _ _ _ _ _ _ _ op_add (pv 7) (pv 5)) set_list (by intro _; rfl)) (by rfl) (by rfl) (by rfl))) (by rfl) (by intro _; rfl))) (by rfl)) (by rfl)) (by rfl)) (by rfl) (by intro _; rfl)) (@pss_one _ _ _ (@ps_ret _ _ _ _ (@pe_tup _ _ _ _ _ (@pa_cons _ _ _ _ _ (pv 3) (@pa_cons _ _ _ _ _ (pv 4) pa_nil (by rfl)) (by rfl))))) (by rfl)) (by rfl)) (by rfl)) (by rfl)), ?_⟩
 obtain ⟨f, g, fs, gs, lead, M, L, rfl, hf, hg, hlead, hf1000, hg1000, hbf, hbg, hM, hL, q⟩ := h
 have P0 : 0 ≤ sizeLine := by decide
 have P1 : 1 ≤ sizeLine := by decide
 have P2 : 2 ≤ sizeLine := by decide
 have lf : (fs.map V.int).length = fs.length := List.length_map _
 have lg : (gs.map V.int).length = gs.length := List.length_map _
 have hg1 : 1 ≤ gs.length := by have := (List.getElem?_eq_some_iff.mp hlead).1; lia
 have hlv : (gs.map V.int)[(gs.map V.int).length - 1]? = some (V.int lead) := by rw [lg, List.getElem?_map, hlead]; rfl
 have bl : Bd L lead := hbg _ (List.mem_of_getElem? hlead)
 refine ⟨_, rfl, _, rfl, g, _, _, _, rfl, rfl, hg, atI_back hlv, ?_⟩
 refine ⟨P0, fun oa hoa => ?_⟩
 have s1 : Same H (upd H oa (.lst [])) := Same.new hoa
 refine ⟨_, rfl, f, _, rfl, .inl (Same.seq s1 hf), fun ra hra => ?_⟩
 have s2 := s1.trans (Same.new (o := .lst (fs.map V.int)) hra)
 have hraH : H ra = none := by
   cases z : H ra with
   | none => rfl
   | some u => rw [s1 ra u z] at hra; cases hra
 refine ⟨_, rfl, f, _, rfl, .inl (Same.seq s2 hf), _, rfl, g, _, rfl, .inl (Same.seq s2 hg), _, _, rfl, rfl, _, rfl, _, rfl, _, _, rfl, ⟨by rw [lf, lg]; lia, by rw [lf, lg]; lia, by decide, by decide⟩, ?_⟩
 have eT : (((fs.map V.int).length : Int) - ((gs.map V.int).length : Int) - -1).toNat = fs.length + 1 - gs.length := by rw [lf, lg]; lia
 rw [eT]
 have ra0 : (upd (upd H oa (.lst [])) ra (.lst (fs.map V.int))) ra = some (.lst (fs.map V.int)) := upd_same
 have oa0 : (upd (upd H oa (.lst [])) ra (.lst (fs.map V.int))) oa = some (.lst (([] : List Int).map V.int)) := (Same.new hra) _ _ upd_same
 refine for_down (n := fs.length + 1 - gs.length) (L8 H f g lead fs gs M L fun H f g lead fs gs M L j σ H' => Same H H' ∧ ∃ (oa ra : Addr) (os rs : List Int) (z5 z6 z7 : Option V), σ = [some (.ref f), some (.ref g), some (.int lead), some (.ref oa), some (.ref ra), z5, z6, z7] ∧ H' oa = some (.lst (os.map V.int)) ∧ H' ra = some (.lst (rs.map V.int)) ∧ os.length = j ∧ rs.length = fs.length - j ∧
   (∀ x, Cv.evI fs x * ((lead ^ j : Int) : Rat) = Cv.evI os x * x ^ (fs.length + 1 - gs.length - j) * Cv.evI gs x + Cv.evI rs x) ∧ (∀ t ∈ os, Bd (M + j * (L + 1)) t) ∧ (∀ t ∈ rs, Bd (M + j * (L + 1)) t) ∧ (j = 0 → rs = fs) ∧ (os ≠ [] → ∃ t, fs[fs.length - 1]? = some t ∧ os[os.length - 1]? = some (lead ^ (os.length - 1) * t)))
   ⟨s2, oa, ra, [], fs, none, none, none, rfl, oa0, ra0, rfl, rfl, fun x => ?_, (fun _ h => nomatch h), (fun t ht => (hbf t ht).mono (by lia)), fun _ => rfl, fun h => absurd rfl h⟩ ?_ ?_
 · rw [Int.pow_zero]
   show Cv.evI fs x * ((1 : Int) : Rat) = 0 * _ * _ + _
   rw [Rat.intCast_one]; grind
 · rintro j σ H' hj hR1
   refine anE2 hR1 fun sm hz45 => ?_
   refine exE7 hz45 fun oa ra os rs z5 z6 z7 hz45' => ?_
   clear hz45
   refine anE10 hz45' fun hq44 eo er hol hrl hev hbo hbr hfs htop => ?_
   clear hz45'
   obtain rfl := hq44
   try clear hR1
   have hjL : j * (L + 1) ≤ fs.length * (L + 1) := Nat.mul_le_mul_right _ (by lia)
   have hjL1 : (j + 1) * (L + 1) = j * (L + 1) + L + 1 := by rw [Nat.add_mul]; lia
   have hrp : rs.length - 1 < rs.length := by lia
   have hr0 : rs[rs.length - 1]? = some rs[rs.length - 1] := List.getElem?_eq_getElem hrp
   generalize htp : rs[rs.length - 1] = tp at hr0
   have btp : Bd (M + j * (L + 1)) tp := by rw [← htp]; exact hbr _ (List.getElem_mem hrp)
   have hrv : (rs.map V.int)[(rs.map V.int).length - 1]? = some (V.int tp) := by rw [List.length_map, List.getElem?_map, hr0]; rfl
   refine ⟨_, rfl, _, rfl, ra, _, _, _, rfl, rfl, SqL.of er, atI_back hrv, ?_⟩
   refine ⟨_, rfl, P1, fun t1 ht1 => ?_⟩
   have sa : Same H' (upd H' t1 (.lst [.int tp])) := Same.new ht1
   refine lc_of ⟨_, rfl, oa, rfl, ⟨_, SqL.of (sa _ _ eo)⟩, ?_⟩
   refine lc_lst (xs := os.map V.int) (L5 H' t1 tp os lead fun H' t1 tp os lead i zs H2 => H2 = upd H' t1 (.lst [.int tp]) ∧ zs = ((os.take i).map (lead * ·)).map V.int) ⟨rfl, rfl⟩ (fun i zs H2 hi p => ⟨by rw [p.1]; exact SqL.of (sa _ _ eo), by rw [p.2, List.length_map, List.length_map, List.length_take]; rw [List.length_map] at hi; lia⟩) (by rw [List.length_map]; exact Nat.le_of_lt (small1000 (by lia))) ?_ ?_
   · rintro i v zs H2 hv ⟨rfl, rfl⟩
     rw [List.getElem?_map] at hv
     cases et : os[i]? with
     | none => rw [et] at hv; cases hv
     | some t =>
       rw [et] at hv
       cases hv
       exact ⟨_, rfl, _, rfl, _, _, rfl, rfl, MulC.bd bl (hbo t (List.mem_of_getElem? et)) (by lia), rfl, ints_scale i et⟩
   rintro zs H2 ⟨rfl, rfl⟩ l1 hl1
   rw [show os.take (os.map V.int).length = os by rw [List.length_map, List.take_length]]
   have sb := sa.trans (Same.new (o := .lst ((os.map (lead * ·)).map V.int)) hl1)
   have et1 := (Same.new (o := .lst ((os.map (lead * ·)).map V.int)) hl1) _ _ (upd_same (H := H') (a := t1) (o := .lst [.int tp]))
   refine ⟨t1, l1, _, _, rfl, rfl, et1, upd_same, by rw [List.length_map, List.length_map]; exact Nat.le_of_lt (small1000 (by show 1 + os.length ≤ 1000; lia)), fun o2 ho2 => ?_⟩
   have sc := sb.trans (Same.new (o := .lst ([V.int tp] ++ (os.map (lead * ·)).map V.int)) ho2)
   have eo2 : (upd (upd (upd H' t1 (.lst [.int tp])) l1 (.lst ((os.map (lead * ·)).map V.int))) o2 (.lst ([V.int tp] ++ (os.map (lead * ·)).map V.int))) o2 = some (.lst ((tp :: os.map (lead * ·)).map V.int)) := upd_same
   generalize upd (upd (upd H' t1 (.lst [.int tp])) l1 (.lst ((os.map (lead * ·)).map V.int))) o2 (.lst ([V.int tp] ++ (os.map (lead * ·)).map V.int)) = H3 at sc eo2 ⊢
   have er3 := sc _ _ er
   have smc := sm.trans sc
   have rt : (rs.map V.int).take ((rs.map V.int).length - 1) = (rs.take (rs.length - 1)).map V.int := by rw [List.length_map, List.map_take]
   refine lc_of ⟨_, rfl, _, rfl, _, rfl, ra, _, rfl, SqL.of er3, fun c hc => ?_⟩
   rw [cut_back, rt]
   have sd : Same H3 (upd H3 c (.lst ((rs.take (rs.length - 1)).map V.int))) := Same.new hc
   refine ⟨c, rfl, ⟨_, SqL.of upd_same⟩, ?_⟩
   refine lc_lst (xs := (rs.take (rs.length - 1)).map V.int) (L4 H3 c rs lead fun H3 c rs lead i zs H2 => H2 = upd H3 c (.lst ((rs.take (rs.length - 1)).map V.int)) ∧ zs = (((rs.take (rs.length - 1)).take i).map (lead * ·)).map V.int) ⟨rfl, rfl⟩ (fun i zs H2 hi p => ⟨by rw [p.1]; exact SqL.of upd_same, by rw [p.2, List.length_map, List.length_map, List.length_take]; rw [List.length_map] at hi; lia⟩) (by rw [List.length_map, List.length_take]; exact Nat.le_of_lt (small1000 (by lia))) ?_ ?_
   · rintro i v zs H2 hv ⟨rfl, rfl⟩
     rw [List.getElem?_map] at hv
     cases et : (rs.take (rs.length - 1))[i]? with
     | none => rw [et] at hv; cases hv
     | some t =>
       rw [et] at hv
       cases hv
       exact ⟨_, rfl, _, rfl, _, _, rfl, rfl, MulC.bd bl (hbr t (List.mem_of_mem_take (List.mem_of_getElem? et))) (by lia), rfl, ints_scale i et⟩
   rintro zs H2 ⟨rfl, rfl⟩ r2 hr2
   have ez : (rs.take (rs.length - 1)).take ((rs.take (rs.length - 1)).map V.int).length = rs.take (rs.length - 1) := by rw [List.length_map, List.take_length]
   rw [ez]
   have se := sd.trans (Same.new (o := .lst (((rs.take (rs.length - 1)).map (lead * ·)).map V.int)) hr2)
   have er2 : (upd (upd H3 c (.lst ((rs.take (rs.length - 1)).map V.int))) r2 (.lst (((rs.take (rs.length - 1)).map (lead * ·)).map V.int))) r2 = some (.lst (((rs.take (rs.length - 1)).map (lead * ·)).map V.int)) := upd_same
   have hr2H : H r2 = none := by
     cases z : H r2 with
     | none => rfl
     | some u => rw [sd r2 u (smc r2 u z)] at hr2; cases hr2
   have r2o : r2 ≠ o2 := fun z => by rw [z, sd _ _ eo2] at hr2; cases hr2
   have eo4 := se _ _ eo2
   have sm4 := smc.trans se
   generalize upd (upd H3 c (.lst ((rs.take (rs.length - 1)).map V.int))) r2 (.lst (((rs.take (rs.length - 1)).map (lead * ·)).map V.int)) = H4 at er2 eo4 sm4 ⊢
   have rl4 : ((rs.take (rs.length - 1)).map (lead * ·)).length = fs.length - (j + 1) := by rw [List.length_map, List.length_take]; lia
   have ev4 : ∀ x, Cv.evI ((rs.take (rs.length - 1)).map (lead * ·)) x = (lead : Rat) * (Cv.evI rs x - (tp : Rat) * x ^ (rs.length - 1)) := fun x => by
     rw [Cv.evI_scale, Cv.evI_last x rs tp hr0]; grind
   have br4 : ∀ t ∈ (rs.take (rs.length - 1)).map (lead * ·), Bd (M + j * (L + 1) + L) t := fun t ht => by
     obtain ⟨u, hu, rfl⟩ := (List.mem_map.mp ht)
     exact (bl.mul (hbr u (List.mem_of_mem_take hu))).mono (by lia)
   generalize (rs.take (rs.length - 1)).map (lead * ·) = r4 at er2 rl4 ev4 br4
   refine ⟨_, rfl, g, _, rfl, .inl (Same.seq sm4 hg), _, _, rfl, rfl, _, rfl, by rw [lg]; lia, by rw [lg]; lia, ?_⟩
   have eN : (((gs.map V.int).length : Int) - 1).toNat = gs.length - 1 := by rw [lg]; lia
   rw [eN]
   have hsh : ((fs.map V.int).length : Int) - ((gs.map V.int).length : Int) - (j : Int) = ((fs.length - gs.length - j : Nat) : Int) := by rw [lf, lg]; lia
   rw [hsh]
   generalize hS : fs.length - gs.length - j = S at hsh ⊢
   refine for_range (n := gs.length - 1) (L15 H o2 tp os lead f g r2 S fs j rs gs M L fun H o2 tp os lead f g r2 S fs j rs gs M L i σ H5 => Same H H5 ∧ H5 o2 = some (.lst ((tp :: os.map (lead * ·)).map V.int)) ∧ ∃ (ps : List Int) (z7 : Option V), σ = [some (.ref f), some (.ref g), some (.int lead), some (.ref o2), some (.ref r2), some (.int (S : Int)), some (.int tp), z7] ∧ H5 r2 = some (.lst (ps.map V.int)) ∧ ps.length = fs.length - (j + 1) ∧
     (∀ x, Cv.evI ps x = (lead : Rat) * (Cv.evI rs x - (tp : Rat) * x ^ (rs.length - 1)) - (tp : Rat) * x ^ S * Cv.evI (gs.take i) x) ∧ (∀ k t, ps[k]? = some t → Bd (if k < S + i then M + j * (L + 1) + L + 1 else M + j * (L + 1) + L) t))
     ⟨sm4, eo4, r4, _, rfl, er2, rl4, fun x => ?_, fun k t ht => ?_⟩ ?_ ?_
   · rw [ev4 x, List.take_zero]
     show _ = _ - _ * (0 : Rat)
     grind
   · split
     · exact (br4 t (List.mem_of_getElem? ht)).mono (by lia)
     · exact br4 t (List.mem_of_getElem? ht)
   · rintro i σ H5 hi hR2
     refine anE3 hR2 fun sm5 eo5 hz47 => ?_
     refine exE2 hz47 fun ps z7' hz47' => ?_
     clear hz47
     refine anE5 hz47' fun hq46 ep hpl hev5 hbp => ?_
     clear hz47'
     obtain rfl := hq46
     try clear hR2
     have hgi : gs[i]? = some gs[i] := List.getElem?_eq_getElem (by lia)
     have hik : i + S < ps.length := by lia
     have hpk : ps[i + S]? = some ps[i + S] := List.getElem?_eq_getElem hik
     have bm : MulC tp gs[i] := MulC.bd btp (hbg _ (List.getElem_mem (by lia))) (by lia)
     refine ⟨_, rfl, _, rfl, _, rfl, _, _, rfl, rfl, r2, _, _, _, rfl, rfl, SqL.of ep, at_plus hpk (by lia), _, rfl, _, rfl, _, rfl, g, _, _, _, rfl, rfl, Same.seq sm5 hg, at_plus hgi (by lia), _, _, rfl, rfl, bm, _, _, rfl, rfl, ?_⟩
     refine ⟨_, rfl, _, rfl, _, rfl, _, _, rfl, rfl, r2, _, _, i + S, rfl, rfl, ep, ixN_plus (by rw [List.length_map]; exact hik) (by lia), ?_⟩
     refine ⟨sm5.put hr2H, by rw [upd_ne (Ne.symm r2o)]; exact eo5, ps.set (i + S) (ps[i + S] + -(tp * gs[i])), _, rfl, ?_, by rw [List.length_set]; exact hpl, fun x => ?_, fun k t ht => ?_⟩
     · rw [upd_same, List.map_set, ← Int.sub_eq_add_neg]
     · rw [Cv.evI_set x ps (i + S) _ _ hpk, hev5 x, Cv.evI_take_succ x gs i _ hgi, Rat.intCast_neg, Rat.intCast_mul, Nm.pow_add]
       grind
     · by_cases hk : k = i + S
       · subst hk
         rw [List.getElem?_set_self hik] at ht
         cases ht
         rw [if_pos (by lia), ← Int.sub_eq_add_neg]
         have b1 := hbp _ _ hpk
         rw [if_neg (by lia)] at b1
         exact Bd.sub b1 ((btp.mul (hbg _ (List.getElem_mem (by lia)))).mono (by lia))
       · rw [List.getElem?_set_ne (fun z => hk z.symm)] at ht
         have b1 := hbp k t ht
         split
         · split at b1
           · exact b1
           · exact b1.mono (by lia)
         · rw [if_neg (by lia)] at b1; exact b1
   · rintro σ H5 hR3
     refine anE3 hR3 fun sm5 eo5 hz49 => ?_
     refine exE2 hz49 fun ps z7' hz49' => ?_
     clear hz49
     refine anE5 hz49' fun hq48 ep hpl hev5 hbp => ?_
     clear hz49'
     obtain rfl := hq48
     try clear hR3
     have hgl : gs.take (gs.length - 1) = gs.take (gs.length - 1) := rfl
     refine ⟨sm5, o2, r2, tp :: os.map (lead * ·), ps, _, _, _, rfl, eo5, ep, by rw [List.length_cons, List.length_map]; lia, hpl, fun x => ?_, fun t ht => ?_, fun t ht => ?_, fun z => absurd z (by lia), fun _ => ?_⟩
     · have h1 := hev x
       have h2 := hev5 x
       have h3 := Cv.evI_last x gs lead hlead
       have e1 : fs.length + 1 - gs.length - j = S + 1 := by lia
       have e2 : fs.length + 1 - gs.length - (j + 1) = S := by lia
       have e3 : rs.length - 1 = S + (gs.length - 1) := by lia
       rw [e1] at h1
       rw [e2, h2, Cv.evI_cons, Cv.evI_scale, Int.pow_succ, Rat.intCast_mul, ← Rat.mul_assoc, h1, h3, e3, Nm.pow_add, Rat.pow_succ]
       grind
     · rcases List.mem_cons.mp ht with z | z
       · rw [z]; exact btp.mono (by lia)
       · obtain ⟨u, hu, rfl⟩ := (List.mem_map.mp z)
         exact (bl.mul (hbo u hu)).mono (by lia)
     · obtain ⟨k, hk⟩ := (List.getElem?_of_mem ht)
       have := hbp k t hk
       split at this <;> exact this.mono (by lia)
     · by_cases hj0 : j = 0
       · have ho : os = [] := List.eq_nil_of_length_eq_zero (by lia)
         rw [hfs hj0] at hr0
         refine ⟨tp, hr0, ?_⟩
         rw [ho]
         show some tp = some (lead ^ 0 * tp)
         rw [Int.pow_zero, Int.one_mul]
       · obtain ⟨t, ht, ho⟩ := htop (fun z => by rw [z] at hol; exact hj0 hol.symm)
         refine ⟨t, ht, ?_⟩
         rw [List.length_cons, List.length_map, Nat.add_sub_cancel]
         have e : os.length = (os.length - 1) + 1 := by lia
         rw [e, List.getElem?_cons_succ, List.getElem?_map, ho]
         show some (lead * (lead ^ (os.length - 1) * t)) = some (lead ^ (os.length - 1 + 1) * t)
         rw [Int.pow_succ]
         congr 1
         grind
 · rintro σ H' hR4
   refine anE2 hR4 fun sm hz51 => ?_
   refine exE7 hz51 fun oa ra os rs z5 z6 z7 hz51' => ?_
   clear hz51
   refine anE10 hz51' fun hq50 eo er hol hrl hev hbo hbr hfs htop => ?_
   clear hz51'
   obtain rfl := hq50
   try clear hR4
   refine ⟨_, rfl, _, rfl, P2, fun p hp => ?_⟩
   have s9 : Same H' (upd H' p (.tup [.ref oa, .ref ra])) := Same.new hp
   refine q p oa ra _ os rs (sm.trans s9) upd_same (s9 _ _ eo) (s9 _ _ er) ⟨hol, ?_, fun x => ?_, (fun t ht => by rw [hol]; exact hbo t ht), (fun t ht => by rw [hol]; exact hbr t ht), htop⟩
   · rw [hrl]; lia
   · have := hev x
     rw [Nat.sub_self, Rat.pow_zero, Rat.mul_one] at this
     rw [hol]
     exact this
theorem sc_raised : FnScope ["base", "many", "power", "turn"] ["base", "many"] (defScope (top 22)) := ⟨rfl, rfl, rfl, by decide +kernel, rfl, by decide +kernel, by decide +kernel⟩
set_option maxHeartbeats 4000000 in
theorem ok_raised {f : Addr} {fd : FuncData} (F : Fun K "raised" "raised" (top 22) f fd) (b_range : mg "range" = none) (hT : P.given.tree = none) :
   FnOk P w K mg base CX0 33 f fd ["base", "many"] (spRaised) := by
 refine F.ok sc_raised (fun vs H Q E h => ?_) (fun cdv A outer s H vs Q E hr h => ?_)
 · obtain ⟨_, _, _, rfl, _⟩ := h; rfl
 refine ⟨_, (@pss_consC _ _ _ _ _ K _ (@ps_set _ _ 2 _ _ _ _ sc_raised.nd rfl (Or.inl rfl) pe_int (by rfl) (by first   | exact .inl rfl   | exact .inr rfl   | assumption)) (@pss_consC _ _ _ _ _ K _ (@ps_forC _ _ _ _ _ _ _ _ K _ PassesOwn.never rfl (@pi_range1 _ _ _ _ _ _ rfl b_range (@pa_cons _ _ _ _ _ (pv 1) pa_nil (by rfl)) (by rfl)) (@pg_name _ _ 3 _ sc_raised.nd rfl (Or.inl rfl) (by first   | exact .inl rfl   | exact .inr rfl   | assumption)) (@pss_one _ _ _ (@ps_set _ _ 2 _ _ _ _ sc_raised.nd rfl (Or.inl rfl) (@pe_op _ _ _ _ _ _ _ _ op_mulC (pv 2) (pv 0)) (by rfl) (by first   | exact .inl rfl   | exact .inr rfl   | assumption))) (by rfl) (by intro _; rfl)) (@pss_one _ _ _ (@ps_ret _ _ _ _ (pv 2))) (by rfl)) (by rfl)), ?_⟩
 obtain ⟨b, n, L, rfl, hn, hb, hL, q⟩ := h
 refine ⟨_, rfl, _, rfl, by lia, by lia, ?_⟩
 rw [Int.toNat_natCast]
 refine for_range (n := n) (L3 H b n fun H b n i σ H' => H' = H ∧ ∃ z, σ = [some (.int b), some (.int n), some (.int (b ^ i)), z]) ⟨rfl, none, by rw [Int.pow_zero]; rfl⟩ ?_ ?_
 · rintro i σ H' hi ⟨rfl, z, rfl⟩
   have hLi : L * i ≤ L * n := Nat.mul_le_mul_left _ (by lia)
   exact ⟨_, rfl, _, rfl, _, _, rfl, rfl, MulC.bd (Bd.pow hb i) hb (by lia), rfl, some (.int (0 + (i : Int))), by rw [Int.pow_succ]; rfl⟩
 · rintro σ H' ⟨rfl, z, rfl⟩
   exact ⟨_, rfl, q⟩
theorem sc_divided : FnScope ["one", "other", "bottom", "under", "second", "parts", "scale", "often"] ["one", "other"] (defScope (top 24)) := ⟨rfl, rfl, rfl, by decide +kernel, rfl, by decide +kernel, by decide +kernel⟩
set_option maxHeartbeats 4000000 in
theorem ok_divided {f : Addr} {fd : FuncData} (F : Fun K "divided" "divided" (top 24) f fd) (F_bottom_of : Fd P w K mg base 34 "bottom_of" ["numbers"] (spBot K)) (F_tops_over : Fd P w K mg base 33 "tops_over" ["numbers", "bottom"] (spTops K)) (F_whole_division : Fd P w K mg base 33 "whole_division" ["first", "second"] (spDiv K)) (F_curve_over : Fd P w K mg base 35 "curve_over" ["tops", "bottom"] (spCurveOver K)) (F_raised : Fd P w K mg base 33 "raised" ["base", "many"] (spRaised)) (b_len : mg "len" = none) (hT : P.given.tree = none) :
   FnOk P w K mg base CX0 36 f fd ["one", "other"] (spDivd3 K) := by
 refine F.ok sc_divided (fun vs H Q E h => ?_) (fun cdv A outer s H vs Q E hr h => ?_)
 · obtain ⟨_, _, _, _, _, _, _, rfl, _⟩ := h; rfl
 refine ⟨_, (@pss_consC _ _ _ _ _ K _ (@ps_ifC _ _ _ _ _ _ _ _ K _ _ (@pt_cmpR _ _ _ _ _ _ _ _ op_eq (@pe_callB _ _ _ _ _ _ _ _ _ (lenK K) rfl b_len bt_len (@pa_cons _ _ _ _ _ (pv 1) pa_nil (by rfl)) (by decide) (by decide) (by rfl) (by rfl)) pe_int (nomark _)) (@pss_one _ _ _ ps_never) pss_nil (by rfl) (by rfl)) (@pss_consC _ _ _ _ _ K _ (@ps_set _ _ 2 _ _ _ _ sc_divided.nd rfl (Or.inl rfl) (@pe_fn _ _ _ _ _ _ _ _ _ _ _ F_bottom_of hr rfl (@pa_cons _ _ _ _ _ (pv 0) pa_nil (by rfl)) (by decide) (by decide) (by rfl) (by rfl)) (by rfl) (by first   | exact .inl rfl   | exact .inr rfl   | assumption)) (@pss_consC _ _ _ _ _ K _ (@ps_set _ _ 3 _ _ _ _ sc_divided.nd rfl (Or.inr rfl) (@pe_fn _ _ _ _ _ _ _ _ _ _ _ F_bottom_of hr rfl (@pa_cons _ _ _ _ _ (pv 1) pa_nil (by rfl)) (by decide) (by decide) (by rfl) (by rfl)) (by rfl) (by first   | exact .inl rfl   | exact .inr rfl   | assumption)) (@pss_consC _ _ _ _ _ K _ (@ps_set _ _ 4 _ _ _ _ sc_divided.nd rfl (Or.inl rfl) (@pe_fn _ _ _ _ _ _ _ _ _ _ _ F_tops_over hr rfl (@pa_cons _ _ _ _ _ (pv 1) (@pa_cons _ _ _ _ _ (pv 3) pa_nil (by rfl)) (by rfl)) (by decide) (by decide) (by rfl) (by rfl)) (by rfl) (by first   | exact .inl rfl   | exact .inr rfl   | assumption)) (@pss_consC _ _ _ _ _ K _ (@ps_set _ _ 5 _ _ _ _ sc_divided.nd rfl (Or.inl rfl) (@pe_fn _ _ _ _ _ _ _ _ _ _ _ F_whole_division hr rfl (@pa_cons _ _ _ _ _ (@pe_fn _ _ _ _ _ _ _ _ _ _ _ F_tops_over hr rfl (@pa_cons _ _ _ _ _ (pv 0) (@pa_cons _ _ _ _ _ (pv 2) pa_nil (by rfl)) (by rfl)) (by decide) (by decide) (by rfl) (by rfl)) (@pa_cons _ _ _ _ _ (pv 4) pa_nil (by rfl)) (by rfl)) (by decide) (by decide) (by rfl) (by rfl)) (by rfl) (by first   | exact .inl rfl   | exact .inr rfl   | assumption)) (@pss_consC _ _ _ _ _ K _ (@ps_set _ _ 6 _ _ _ _ sc_divided.nd rfl (Or.inl rfl) (@pe_op _ _ _ _ _ _ _ _ op_mulC (pv 2) (@pe_fn _ _ _ _ _ _ _ _ _ _ _ F_raised hr rfl (@pa_cons _ _ _ _ _ (@pe_ix _ _ _ _ _ _ _ (ixL K) (pv 4) (@pe_un _ _ _ _ _ _ un_neg pe_int) (fun u v => rfl)) (@pa_cons _ _ _ _ _ (@pe_callB _ _ _ _ _ _ _ _ _ (lenK K) rfl b_len bt_len (@pa_cons _ _ _ _ _ (@pe_ix _ _ _ _ _ _ _ (ixT K) (pv 5) pe_int (fun u v => rfl)) pa_nil (by rfl)) (by decide) (by decide) (by rfl) (by rfl)) pa_nil (by rfl)) (by rfl)) (by decide) (by decide) (by rfl) (by rfl))) (by rfl) (by first   | exact .inl rfl   | exact .inr rfl   | assumption)) (@pss_consC _ _ _ _ _ K _ (@ps_set _ _ 7 _ _ _ _ sc_divided.nd rfl (Or.inl rfl) (@pe_fn _ _ _ _ _ _ _ _ _ _ _ F_curve_over hr rfl (@pa_cons _ _ _ _ _ (@pe_lc _ (["top", "under"]) 1 ([3]) _ _ _ _ _ _ _ _ _ _ rfl (CompOk.look (NX := ["one", "other", "bottom", "under", "second", "parts", "scale", "often"]) (sc := defScope (top 24)) rfl rfl (by decide +kernel)) (@piL _ K _ _ _ (@pe_ix _ _ _ _ _ _ _ (ixT K) (pv 5) pe_int (fun u v => rfl)) (by rfl)) (fun u1 u2 u3 u4 u5 => (@pg_name _ _ 0 _ (show List.Nodup (["top", "under"] : List Str) from by decide +kernel) rfl (Or.inl rfl) (by first   | exact .inl rfl   | exact .inr rfl   | assumption))) (stays_name (by decide)) (fun u1 u2 u3 u4 u5 => pts_nil) (fun u1 u2 u3 u4 u5 => (@pe_op _ _ _ _ _ _ _ _ op_mulC (pv 0) (pv 1))) (by intro _; rfl)) (@pa_cons _ _ _ _ _ (pv 6) pa_nil (by rfl)) (by rfl)) (by decide) (by decide) (by rfl) (by rfl)) (by rfl) (by first   | exact .inl rfl   | exact .inr rfl   | assumption)) (@pss_one _ _ _ (@ps_ret _ _ _ _ (@pe_tup _ _ _ _ _ (@pa_cons _ _ _ _ _ (pv 7) (@pa_cons _ _ _ _ _ (@pe_fn _ _ _ _ _ _ _ _ _ _ _ F_curve_over hr rfl (@pa_cons _ _ _ _ _ (@pe_ix _ _ _ _ _ _ _ (ixT K) (pv 5) pe_int (fun u v => rfl)) (@pa_cons _ _ _ _ _ (pv 6) pa_nil (by rfl)) (by rfl)) (by decide) (by decide) (by rfl) (by rfl)) pa_nil (by rfl)) (by rfl))))) (by rfl)) (by rfl)) (by rfl)) (by rfl)) (by rfl)) (by rfl)) (by rfl)), ?_⟩
 obtain ⟨r, u, qs, ps, g, d, L, rfl, ⟨xs, hS, hn⟩, ⟨ys, hT', hm⟩, gq, hne, gp, hB, hC, hn1, hq8, hp8, q⟩ := h
 have P2 : 2 ≤ sizeLine := by decide
 have hl := hn.length
 have hly := hm.length
 have hp1 : 1 ≤ ps.length := List.length_pos_iff.mpr hne
 have nq : d * qs.length ≤ d * 13 := Nat.mul_le_mul_left _ hq8
 have np : L * ps.length ≤ L * 13 := Nat.mul_le_mul_left _ hp8
 refine ⟨_, rfl, u, ys, rfl, .inr hT', rfl, _, rfl, ?_⟩
 refine iteFc (by rw [decide_eq_false (fun z => by have := V.int.inj z; lia)] <;> rfl) ?_
 refine ⟨_, rfl, false, r, xs, qs, d, rfl, hS, hn, (fun c hc => (hB c hc).2), by rw [Nat.mul_add]; lia, fun B hB0 hdB hbB => ?_⟩
 refine ⟨_, rfl, false, u, ys, ps, L, rfl, hT', hm, (fun c hc => (hC c hc).2), by rw [Nat.mul_add]; lia, fun U hU0 hdU hbU => ?_⟩
 refine ⟨_, rfl, _, rfl, false, u, ys, ps, U, L * ps.length + 1, L, rfl, hT', hm, hbU, (fun c hc => (hC c hc).1), by lia, by lia, fun se hse => ?_⟩
 have s1 : Same H (upd H se (.lst ((ps.map (topOf U)).map V.int))) := Same.new hse
 refine ⟨_, rfl, _, rfl, false, r, xs, qs, B, d * qs.length + 1, g, rfl, SqT.same hS s1, Nums.same hn s1, hbB, (fun c hc => (hB c hc).1), by lia, by lia, fun fa hfa => ?_⟩
 have s2 := s1.trans (Same.new (o := .lst ((qs.map (topOf B)).map V.int)) hfa)
 have ese := (Same.new (o := .lst ((qs.map (topOf B)).map V.int)) hfa) _ _ (upd_same (H := H) (a := se) (o := .lst ((ps.map (topOf U)).map V.int)))
 have efa : (upd (upd H se (.lst ((ps.map (topOf U)).map V.int))) fa (.lst ((qs.map (topOf B)).map V.int))) fa = some (.lst ((qs.map (topOf B)).map V.int)) := upd_same
 generalize upd (upd H se (.lst ((ps.map (topOf U)).map V.int))) fa (.lst ((qs.map (topOf B)).map V.int)) = H2 at s2 ese efa ⊢
 obtain ⟨lead, hlead, hl0⟩ := (tops_last gp hne hU0 hdU)
 have bF : ∀ t ∈ qs.map (topOf B), Bd (g + d * 13 + 1) t := fun t ht => by
   obtain ⟨c, hc, rfl⟩ := (List.mem_map.mp ht)
   exact ((hB c hc).1.mul (hbB.fdiv (y := c.den))).mono (by lia)
 have bG : ∀ t ∈ ps.map (topOf U), Bd (L * 14 + 1) t := fun t ht => by
   obtain ⟨c, hc, rfl⟩ := (List.mem_map.mp ht)
   exact ((hC c hc).1.mul (hbU.fdiv (y := c.den))).mono (by lia)
 refine ⟨_, rfl, fa, se, qs.map (topOf B), ps.map (topOf U), lead, g + d * 13 + 1, L * 14 + 1, rfl, SqL.of efa, SqL.of ese, hlead, by rw [List.length_map]; lia, by rw [List.length_map]; lia, bF, bG, by rw [List.length_map]; have := Nat.mul_le_mul_right (L * 14 + 1 + 1) hq8; lia, by lia, fun pt pa pb H3 os rs s3 ept epa epb dv => ?_⟩
 have ese3 := s3 _ _ ese
 have hol : os.length = qs.length + 1 - ps.length := by have := dv.ol; rw [List.length_map, List.length_map] at this; exact this
 have hk8 : os.length ≤ 13 := by lia
 have hkb : os.length * (L * 14 + 1 + 1) ≤ 13 * (L * 14 + 1 + 1) := Nat.mul_le_mul_right _ hk8
 have hkc : (L * 14 + 1) * os.length ≤ (L * 14 + 1) * 13 := Nat.mul_le_mul_left _ hk8
 have hlv : ((ps.map (topOf U)).map V.int)[((ps.map (topOf U)).map V.int).length - 1]? = some (V.int lead) := by rw [List.length_map, List.getElem?_map, hlead]; rfl
 have blead : Bd (L * 14 + 1) lead := bG _ (List.mem_of_getElem? hlead)
 have lo : (os.map V.int).length = os.length := List.length_map _
 have bpow : Bd ((L * 14 + 1) * os.length + 1) (lead ^ os.length) := Bd.pow blead _
 refine ⟨_, rfl, _, rfl, _, rfl, se, _, _, _, rfl, rfl, SqL.of ese3, atI_back hlv, _, rfl, pt, _, _, _, rfl, rfl, SqT.of ept, rfl, pa, _, rfl, .inl (SqL.of epa), lead, os.length, L * 14 + 1, by rw [lo]; rfl, by lia, blead, by lia, _, _, rfl, rfl, MulC.bd hbB bpow (by lia), ?_⟩
 have hsc : B * lead ^ os.length ≠ 0 := Int.mul_ne_zero (by lia) (Int.pow_ne_zero hl0)
 refine lc_of ⟨_, rfl, pt, _, _, _, rfl, rfl, SqT.of ept, rfl, pa, rfl, ⟨_, SqL.of epa⟩, ?_⟩
 refine lc_lst (xs := os.map V.int) (fun i zs H4 => H4 = H3 ∧ zs = ((os.take i).map (· * U)).map V.int) ⟨rfl, rfl⟩ (fun i zs H4 hi p => ⟨by rw [p.1]; exact SqL.of epa, by rw [p.2, List.length_map, List.length_map, List.length_take]; rw [List.length_map] at hi; lia⟩) (by rw [lo]; exact Nat.le_of_lt (small1000 (by lia))) ?_ ?_
 · rintro i v zs H4 hv ⟨rfl, rfl⟩
   rw [List.getElem?_map] at hv
   cases et : os[i]? with
   | none => rw [et] at hv; cases hv
   | some t =>
     rw [et] at hv
     cases hv
     refine ⟨_, rfl, _, rfl, _, _, rfl, rfl, MulC.bd (dv.ob t (List.mem_of_getElem? et)) hbU (by lia), rfl, ?_⟩
     rw [List.take_add_one, et, List.map_append, List.map_append]
     rfl
 rintro zs H4 ⟨rfl, rfl⟩ l1 hl1
 rw [show os.take (os.map V.int).length = os by rw [lo, List.take_length]]
 have s4 : Same H4 (upd H4 l1 (.lst ((os.map (· * U)).map V.int))) := Same.new hl1
 refine ⟨_, rfl, l1, os.map (· * U), _, rfl, SqL.of upd_same, hsc, by rw [List.length_map]; lia, fun a H5 s5 ca => ?_⟩
 have s45 := s4.trans s5
 refine ⟨_, rfl, _, rfl, pt, _, _, _, rfl, rfl, SqT.of (s45 _ _ ept), rfl, _, rfl, pb, rs, _, rfl, SqL.of (s45 _ _ epb), hsc, by rw [dv.rl, List.length_map, List.length_map]; lia, fun b H6 s6 cb => ?_⟩
 refine ⟨P2, fun p hp => ?_⟩
 have s7 : Same H6 (upd H6 p (.tup [.ref a, .ref b])) := Same.new hp
 have go : Good ((os.map (· * U)).map fun t => Rat.divInt t (B * lead ^ os.length)) := by
   by_cases h0 : os = []
   · left; rw [h0]; rfl
   · obtain ⟨t, ht, ho⟩ := (dv.top h0)
     have hqn : qs ≠ [] := fun z => by rw [z] at ht; cases ht
     obtain ⟨t', ht', h0'⟩ := (tops_last gq hqn hB0 hdB)
     rw [ht] at ht'
     cases ht'
     right
     refine ⟨_, by rw [List.length_map, List.length_map, List.getElem?_map, List.getElem?_map, ho]; rfl, fun z => ?_⟩
     have z2 : (lead ^ (os.length - 1) * t * U) ≠ 0 := Int.mul_ne_zero (Int.mul_ne_zero (Int.pow_ne_zero hl0) h0') (by lia)
     exact div_ne z2 hsc z
 rw [strip_good go] at ca
 have hsl := Cv.strip_length (rs.map fun t => Rat.divInt t (B * lead ^ os.length))
 refine q p a b _ _ _ (((((s2.trans s3).trans s45).trans s6).trans s7)) upd_same (ca.same (s6.trans s7)) (cb.same s7) go (good_strip _) (by rw [List.length_map, List.length_map]; exact hol) ?_ (fun x => ?_) fun c hc => ?_
 · rw [List.length_map, dv.rl, List.length_map, List.length_map] at hsl
   lia
 · rw [Cv.ev_strip]
   have h1 := dv.ev x
   have h2 := ev_divs (os.map (· * U)) _ hsc x
   have h3 := ev_divs rs _ hsc x
   have h4 : Cv.evI (os.map (· * U)) x = Cv.evI os x * (U : Rat) := by
     have := Cv.evI_scale x U os
     rw [show os.map (· * U) = os.map (U * ·) from List.map_congr_left fun t _ => Int.mul_comm t U, this, Rat.mul_comm]
   have h5 : Cv.evI (qs.map (topOf B)) x = Cv.ev qs x * (B : Rat) := tops_ev hdB x
   have h6 : Cv.evI (ps.map (topOf U)) x = Cv.ev ps x * (U : Rat) := tops_ev hdU x
   have hc : ((B * lead ^ os.length : Int) : Rat) ≠ 0 := Nm.cast_ne hsc
   have h7 : ((B * lead ^ os.length : Int) : Rat) = (B : Rat) * ((lead ^ os.length : Int) : Rat) := Rat.intCast_mul ..
   generalize Cv.ev ((os.map (· * U)).map fun t => Rat.divInt t (B * lead ^ os.length)) x = X at h2 ⊢
   generalize Cv.ev (rs.map fun t => Rat.divInt t (B * lead ^ os.length)) x = Y at h3 ⊢
   generalize ((B * lead ^ os.length : Int) : Rat) = C at *
   have h8 : (Cv.ev qs x - (X * Cv.ev ps x + Y)) * C = 0 := by
     rw [h5, h6] at h1
     rw [h4] at h2
     have : Cv.ev qs x * C = (X * C) * Cv.ev ps x + Y * C := by rw [h2, h3, h7]; grind
     grind
   rcases Rat.mul_eq_zero.mp h8 with z | z
   · grind
   · exact absurd z hc
 · obtain ⟨t', ht', rfl⟩ := (List.mem_map.mp hc)
   obtain ⟨t, ht, rfl⟩ := (List.mem_map.mp ht')
   exact RB.div (m := 0) (((dv.ob t ht).mul hbU).mono (by lia)) ((hbB.mul bpow).mono (by lia)) hsc
theorem sc_times : FnScope ["a", "b"] ["a", "b"] (defScope (top 9)) := ⟨rfl, rfl, rfl, by decide +kernel, rfl, by decide +kernel, by decide +kernel⟩
set_option maxHeartbeats 4000000 in
theorem ok_times {f : Addr} {fd : FuncData} (F : Fun K "times" "times" (top 9) f fd) (F_number_of : Fd P w K mg base 34 "number_of" ["top", "bottom"] (spLow)) (hT : P.given.tree = none) :
   FnOk P w K mg base CX0 35 f fd ["a", "b"] (spBin K (· * ·)) := by
 refine F.ok sc_times (fun vs H Q E h => ?_) (fun cdv A outer s H vs Q E hr h => ?_)
 · obtain ⟨_, _, _, _, _, _, rfl, _⟩ := h; rfl
 refine ⟨_, (@pss_one _ _ _ (@ps_ret _ _ _ _ (@pe_fn _ _ _ _ _ _ _ _ _ _ _ F_number_of hr rfl (@pa_cons _ _ _ _ _ (@pe_op _ _ _ _ _ _ _ _ op_mulC (@pe_ix _ _ _ _ _ _ _ (ixT K) (pv 0) pe_int (fun u v => rfl)) (@pe_ix _ _ _ _ _ _ _ (ixT K) (pv 1) pe_int (fun u v => rfl))) (@pa_cons _ _ _ _ _ (@pe_op _ _ _ _ _ _ _ _ op_mulC (@pe_ix _ _ _ _ _ _ _ (ixT K) (pv 0) pe_int (fun u v => rfl)) (@pe_ix _ _ _ _ _ _ _ (ixT K) (pv 1) pe_int (fun u v => rfl))) pa_nil (by rfl)) (by rfl)) (by decide) (by decide) (by rfl) (by rfl)))), ?_⟩
 obtain ⟨x, y, p, q, m, n, rfl, ⟨r, rfl, hr⟩, ⟨u, rfl, hu⟩, hp, hq, hmn, k⟩ := h
 refine ⟨_, rfl, r, _, _, _, rfl, rfl, hr, rfl, _, rfl, u, _, _, _, rfl, rfl, hu, rfl, _, _, rfl, rfl, MulC.bd hp.1 hq.1, ?_⟩
 refine ⟨_, rfl, r, _, _, _, rfl, rfl, hr, rfl, _, rfl, u, _, _, _, rfl, rfl, hu, rfl, _, _, rfl, rfl, MulC.bd hp.2 hq.2, ?_⟩
 refine ⟨_, _, rfl, Int.mul_ne_zero (Nm.den_ne p) (Nm.den_ne q), fun z hz => ?_⟩
 have e := k z hz
 try dsimp only at e
 rw [← Nm.times_eq] at e
 exact e
theorem sc_scaled : FnScope ["curve", "number"] ["curve", "number"] (defScope (top 20)) := ⟨rfl, rfl, rfl, by decide +kernel, rfl, by decide +kernel, by decide +kernel⟩
set_option maxHeartbeats 4000000 in
theorem ok_scaled {f : Addr} {fd : FuncData} (F : Fun K "scaled" "scaled" (top 20) f fd) (F_curve_of : Fd P w K mg base 33 "curve_of" ["numbers"] (spCurveOf K)) (F_times : Fd P w K mg base 35 "times" ["a", "b"] (spBin K (· * ·))) (hT : P.given.tree = none) :
   FnOk P w K mg base CX0 36 f fd ["curve", "number"] (spScaled K) := by
 refine F.ok sc_scaled (fun vs H Q E h => ?_) (fun cdv A outer s H vs Q E hr h => ?_)
 · obtain ⟨_, _, _, _, _, _, rfl, _⟩ := h; rfl
 refine ⟨_, (@pss_one _ _ _ (@ps_ret _ _ _ _ (@pe_fn _ _ _ _ _ _ _ _ _ _ _ F_curve_of hr rfl (@pa_cons _ _ _ _ _ (@pe_lc _ (["each", "number"]) 1 ([1]) _ _ _ _ _ _ _ _ _ _ rfl (CompOk.look (NX := ["curve", "number"]) (sc := defScope (top 20)) rfl rfl (by decide +kernel)) (@piT _ K _ _ _ (pv 0) (by rfl)) (fun u1 u2 u3 u4 u5 => (@pg_name _ _ 0 _ (show List.Nodup (["each", "number"] : List Str) from by decide +kernel) rfl (Or.inl rfl) (by first   | exact .inl rfl   | exact .inr rfl   | assumption))) (stays_name (by decide)) (fun u1 u2 u3 u4 u5 => pts_nil) (fun u1 u2 u3 u4 u5 => (@pe_fn _ _ _ _ _ _ _ _ _ _ _ F_times hr rfl (@pa_cons _ _ _ _ _ (pv 0) (@pa_cons _ _ _ _ _ (pv 1) pa_nil (by rfl)) (by rfl)) (by decide) (by decide) (by rfl) (by rfl))) (by intro _; rfl)) pa_nil (by rfl)) (by decide) (by decide) (by rfl) (by rfl)))), ?_⟩
 obtain ⟨r, u, qs, y, m, n, rfl, ⟨xs, hS, hn⟩, hy, hB, hb, hmn, hz, q⟩ := h
 have hl := hn.length
 refine lc_of ⟨_, rfl, r, rfl, ⟨_, hS⟩, ?_⟩
 refine lc_tup (xs := xs) (L4 H K qs y fun H K qs y i zs H' => Same H H' ∧ zs.length = i ∧ Nums K H' zs ((qs.take i).map (· * y))) ⟨Same.refl _, rfl, .nil⟩ (fun i zs H' _ p => ⟨hS.same p.1, p.2.1⟩) (by rw [hl]; exact Nat.le_of_lt (small1000 hz)) ?_ ?_
 · rintro i x zs H' hx ⟨sm, hzl, hzn⟩
   obtain ⟨c, hc, hxn⟩ := (Paired.get hn hx)
   refine ⟨_, rfl, _, rfl, _, _, c, y, m, n, rfl, hxn.same sm, hy.same sm, hB c (List.mem_of_getElem? hc), hb, by lia, fun p hp => ⟨sm.trans (Same.new hp), by simp [hzl], ?_⟩⟩
   rw [List.take_add_one, hc, List.map_append]
   exact Paired.snoc (Nums.same hzn (Same.new hp)) (NumV.of upd_same)
 · rintro zs H' ⟨sm, hzl, hzn⟩ p hp
   rw [hl, List.take_length] at hzn
   exact ⟨p, zs, _, rfl, SqL.of upd_same, Nums.same hzn (Same.new hp), by rw [List.length_map]; exact hz, fun r H2 s2 c => q r H2 ((sm.trans (Same.new hp)).trans s2) c⟩
theorem sc_whole_height : FnScope ["tops", "x", "height", "scale", "top"] ["tops", "x"] (defScope (top 17)) := ⟨rfl, rfl, rfl, by decide +kernel, rfl, by decide +kernel, by decide +kernel⟩
set_option maxHeartbeats 4000000 in
theorem ok_whole_height {f : Addr} {fd : FuncData} (F : Fun K "whole_height" "whole_height" (top 17) f fd) (b_reversed : mg "reversed" = none) (hT : P.given.tree = none) :
   FnOk P w K mg base CX0 33 f fd ["tops", "x"] (spWH K) := by
 refine F.ok sc_whole_height (fun vs H Q E h => ?_) (fun cdv A outer s H vs Q E hr h => ?_)
 · obtain ⟨_, _, _, _, _, _, rfl, _⟩ := h; rfl
 refine ⟨_, (@pss_consC _ _ _ _ _ K _ (@ps_set _ _ 2 _ _ _ _ sc_whole_height.nd rfl (Or.inl rfl) pe_int (by rfl) (by first   | exact .inl rfl   | exact .inr rfl   | assumption)) (@pss_consC _ _ _ _ _ K _ (@ps_set _ _ 3 _ _ _ _ sc_whole_height.nd rfl (Or.inl rfl) pe_int (by rfl) (by first   | exact .inl rfl   | exact .inr rfl   | assumption)) (@pss_consC _ _ _ _ _ K _ (@ps_forC _ _ _ _ _ _ _ _ K _ PassesOwn.never rfl (piRev K rfl b_reversed (pv 0)) (@pg_name _ _ 4 _ sc_whole_height.nd rfl (Or.inl rfl) (by first   | exact .inl rfl   | exact .inr rfl   | assumption)) (@pss_consC _ _ _ _ _ K _ (@ps_set _ _ 2 _ _ _ _ sc_whole_height.nd rfl (Or.inl rfl) (@pe_op _ _ _ _ _ _ _ _ op_add (@pe_op _ _ _ _ _ _ _ _ op_mulC (pv 2) (@pe_ix _ _ _ _ _ _ _ (ixT K) (pv 1) pe_int (fun u v => rfl))) (@pe_op _ _ _ _ _ _ _ _ op_mulC (pv 4) (pv 3))) (by rfl) (by first   | exact .inl rfl   | exact .inr rfl   | assumption)) (@pss_one _ _ _ (@ps_set _ _ 3 _ _ _ _ sc_whole_height.nd rfl (Or.inl rfl) (@pe_op _ _ _ _ _ _ _ _ op_mulC (pv 3) (@pe_ix _ _ _ _ _ _ _ (ixT K) (pv 1) pe_int (fun u v => rfl))) (by rfl) (by first   | exact .inl rfl   | exact .inr rfl   | assumption))) (by rfl)) (by rfl) (by intro _; rfl)) (@pss_one _ _ _ (@ps_ret _ _ _ _ (@pe_tup _ _ _ _ _ (@pa_cons _ _ _ _ _ (@pe_op _ _ _ _ _ _ _ _ op_mulC (pv 2) (@pe_ix _ _ _ _ _ _ _ (ixT K) (pv 1) pe_int (fun u v => rfl))) (@pa_cons _ _ _ _ _ (pv 3) pa_nil (by rfl)) (by rfl))))) (by rfl)) (by rfl)) (by rfl)), ?_⟩
 obtain ⟨l, rx, ts, x, m, n, rfl, hS, ⟨_, erx, hx⟩, hB, hbx, hz, q⟩ := h
 cases erx
 have tl : (ts.map V.int).length = ts.length := List.length_map _
 have hz2 : m + n * ts.length + 4 * n + ts.length + 4 ≤ 100000000 := by
   have e : (n + 1) * (ts.length + 4) = n * ts.length + 4 * n + ts.length + 4 := by rw [Nat.add_mul, Nat.mul_add]; lia
   lia
 have P2 : 2 ≤ sizeLine := by decide
 refine ⟨_, rfl, _, rfl, l, _, rfl, hS, ?_⟩
 refine for_rev (L7 H l rx x ts m n fun H l rx x ts m n i σ H' => H' = H ∧ ∃ (h s : Int) (z : Option V), σ = [some (.ref l), some (.ref rx), some (.int h), some (.int s), z] ∧ s = (x.den : Int) ^ i ∧ s ≠ 0 ∧
   (h : Rat) * ((x.den : Int) : Rat) = Cv.evI (ts.drop (ts.length - i)) x * (s : Rat) ∧ Bd (m + n * i + i + 2) h ∧ Bd (n * i + 1) s)
   ⟨rfl, 0, 1, none, rfl, rfl, by decide, ?_, ?_, ?_⟩ (fun i σ H' _ p => by rw [p.1]; exact hS) ?_ ?_
 · rw [Nat.sub_zero, List.drop_eq_nil_of_le (Nat.le_refl _)]
   show ((0 : Int) : Rat) * _ = 0 * _
   rw [Rat.intCast_zero]; grind
 · exact (show Bd 1 0 by unfold Bd; decide).mono (by lia)
 · exact (show Bd 1 1 by unfold Bd; decide).mono (by lia)
 · rintro i v σ H' hi hv hR1
   refine anE2 hR1 fun hq52 hz54 => ?_
   refine exE3 hz54 fun h s z hz54' => ?_
   clear hz54
   refine anE6 hz54' fun hq53 es hs0 he hbh hbs => ?_
   clear hz54'
   obtain rfl := hq52
   obtain rfl := hq53
   try clear hR1
   rw [tl] at hi hv
   have hj : ts.length - 1 - i < ts.length := by lia
   have htq : ts[ts.length - 1 - i]? = some ts[ts.length - 1 - i] := List.getElem?_eq_getElem hj
   have htm : ts[ts.length - 1 - i] ∈ ts := List.getElem_mem hj
   rw [List.getElem?_map, htq] at hv
   cases hv
   generalize ts[ts.length - 1 - i] = t at htq htm
   have bt := hB _ htm
   have hni : n * i ≤ n * ts.length := Nat.mul_le_mul_left n (by lia)
   have hni1 : n * (i + 1) = n * i + n := by rw [Nat.mul_add, Nat.mul_one]
   refine ⟨_, rfl, _, rfl, rx, _, _, _, rfl, rfl, hx, rfl, _, _, rfl, rfl, MulC.bd hbh hbx.1 (by lia), _, rfl, _, rfl, _, _, rfl, rfl, MulC.bd bt hbs (by lia), _, _, rfl, rfl, ?_⟩
   refine ⟨_, rfl, _, rfl, rx, _, _, _, rfl, rfl, hx, rfl, _, _, rfl, rfl, MulC.bd hbs hbx.2 (by lia), ⟨rfl, _, _, _, rfl, ?_, Int.mul_ne_zero hs0 (Nm.den_ne x), ?_, ?_, ?_⟩⟩
   · rw [es, Int.pow_succ]
   · rw [drop_at rfl hi htq, Cv.evI_cons, Rat.intCast_add, Rat.intCast_mul, Rat.intCast_mul, Rat.intCast_mul, Nm.num_mul x]
     grind
   · have b1 := hbh.mul hbx.1
     have b2 := bt.mul hbs
     exact (Bd.add (b1.mono (n := m + n * i + i + 2 + n) (by lia)) (b2.mono (by lia))).mono (by lia)
   · exact (hbs.mul hbx.2).mono (by lia)
 · rintro σ H' hR2
   refine anE2 hR2 fun hq55 hz57 => ?_
   refine exE3 hz57 fun h s z hz57' => ?_
   clear hz57
   refine anE6 hz57' fun hq56 es hs0 he hbh hbs => ?_
   clear hz57'
   obtain rfl := hq55
   obtain rfl := hq56
   try clear hR2
   rw [tl] at es he hbh hbs
   rw [Nat.sub_self, List.drop_zero] at he
   refine ⟨_, rfl, _, rfl, rx, _, _, _, rfl, rfl, hx, rfl, _, _, rfl, rfl, MulC.bd hbh hbx.2 (by lia), _, rfl, P2, fun p hp => ?_⟩
   exact q _ _ p es hs0 (by rw [Rat.intCast_mul]; exact he) ((hbh.mul hbx.2).mono (by rw [Nat.add_mul, Nat.mul_add]; lia)) hbs hp
theorem sc_height_at : FnScope ["curve", "x", "bottom", "told"] ["curve", "x"] (defScope (top 18)) := ⟨rfl, rfl, rfl, by decide +kernel, rfl, by decide +kernel, by decide +kernel⟩
set_option maxHeartbeats 4000000 in
theorem ok_height_at {f : Addr} {fd : FuncData} (F : Fun K "height_at" "height_at" (top 18) f fd) (F_bottom_of : Fd P w K mg base 34 "bottom_of" ["numbers"] (spBot K)) (F_whole_height : Fd P w K mg base 33 "whole_height" ["tops", "x"] (spWH K)) (F_number_of : Fd P w K mg base 34 "number_of" ["top", "bottom"] (spLow)) (F_tops_over : Fd P w K mg base 33 "tops_over" ["numbers", "bottom"] (spTops K)) (hT : P.given.tree = none) :
   FnOk P w K mg base CX0 35 f fd ["curve", "x"] (spHeight2 K) := by
 refine F.ok sc_height_at (fun vs H Q E h => ?_) (fun cdv A outer s H vs Q E hr h => ?_)
 · obtain ⟨_, _, _, _, _, _, _, rfl, _⟩ := h; rfl
 refine ⟨_, (@pss_consC _ _ _ _ _ K _ (@ps_set _ _ 2 _ _ _ _ sc_height_at.nd rfl (Or.inl rfl) (@pe_fn _ _ _ _ _ _ _ _ _ _ _ F_bottom_of hr rfl (@pa_cons _ _ _ _ _ (pv 0) pa_nil (by rfl)) (by decide) (by decide) (by rfl) (by rfl)) (by rfl) (by first   | exact .inl rfl   | exact .inr rfl   | assumption)) (@pss_consC _ _ _ _ _ K _ (@ps_set _ _ 3 _ _ _ _ sc_height_at.nd rfl (Or.inl rfl) (@pe_fn _ _ _ _ _ _ _ _ _ _ _ F_whole_height hr rfl (@pa_cons _ _ _ _ _ (@pe_fn _ _ _ _ _ _ _ _ _ _ _ F_tops_over hr rfl (@pa_cons _ _ _ _ _ (pv 0) (@pa_cons _ _ _ _ _ (pv 2) pa_nil (by rfl)) (by rfl)) (by decide) (by decide) (by rfl) (by rfl)) (@pa_cons _ _ _ _ _ (pv 1) pa_nil (by rfl)) (by rfl)) (by decide) (by decide) (by rfl) (by rfl)) (by rfl) (by first   | exact .inl rfl   | exact .inr rfl   | assumption)) (@pss_one _ _ _ (@ps_ret _ _ _ _ (@pe_fn _ _ _ _ _ _ _ _ _ _ _ F_number_of hr rfl (@pa_cons _ _ _ _ _ (@pe_ix _ _ _ _ _ _ _ (ixT K) (pv 3) pe_int (fun u v => rfl)) (@pa_cons _ _ _ _ _ (@pe_op _ _ _ _ _ _ _ _ op_mulC (pv 2) (@pe_ix _ _ _ _ _ _ _ (ixT K) (pv 3) pe_int (fun u v => rfl))) pa_nil (by rfl)) (by rfl)) (by decide) (by decide) (by rfl) (by rfl)))) (by rfl)) (by rfl)), ?_⟩
 obtain ⟨r, rx, qs, x, g, d, m, rfl, ⟨xs, hS, hn⟩, ⟨_, erx, hx⟩, hB, hbx, hz, h1000, q⟩ := h
 cases erx
 have hl := hn.length
 have e1 : d * (qs.length + 2) = d * qs.length + d * 2 := Nat.mul_add ..
 have e2 : (m + 1) * (qs.length + 4) = m * qs.length + qs.length + (m + 1) * 4 := by rw [Nat.mul_add, Nat.add_mul, Nat.one_mul]
 refine ⟨_, rfl, false, r, xs, qs, d, rfl, hS, hn, (fun q hq => (hB q hq).2), by lia, fun B hB0 hdv hbB => ?_⟩
 refine ⟨_, rfl, _, rfl, false, r, xs, qs, B, d * qs.length + 1, g, rfl, hS, hn, hbB, (fun q hq => (hB q hq).1), by lia, h1000, fun l hl0 => ?_⟩
 have tl : (qs.map (topOf B)).length = qs.length := List.length_map _
 have hx1 : SqT K (upd H l (.lst ((qs.map (topOf B)).map V.int))) rx [.int x.num, .int x.den] := SqT.same hx (Same.new hl0)
 have tB : ∀ t ∈ qs.map (topOf B), Bd (g + (d * qs.length + 1)) t := fun t ht => by
   obtain ⟨c, hc, rfl⟩ := (List.mem_map.mp ht)
   exact ((hB c hc).1.mul (hbB.fdiv (y := c.den))).mono (by lia)
 refine ⟨_, rfl, l, rx, qs.map (topOf B), x, g + (d * qs.length + 1), m, rfl, SqL.of upd_same, ⟨rx, rfl, hx1⟩, tB, hbx, by rw [tl]; lia, fun h s p es hs0 he hbh hbs hp => ?_⟩
 rw [tl] at hbs
 have ep : SqT K (upd (upd H l (.lst ((qs.map (topOf B)).map V.int))) p (.tup [.int h, .int s])) p [.int h, .int s] := SqT.of upd_same
 have hb0 : B * s ≠ 0 := Int.mul_ne_zero (by lia) hs0
 refine ⟨_, rfl, p, _, _, _, rfl, rfl, ep, rfl, _, rfl, _, rfl, p, _, _, _, rfl, rfl, ep, rfl, _, _, rfl, rfl, MulC.bd hbB hbs (by lia), _, _, rfl, hb0, fun u hu => ?_⟩
 have ev := tops_ev hdv x
 have e : Rat.divInt h (B * s) = Cv.ev qs x := Nm.div_eq hb0 (by
   have he' : (h : Rat) = Cv.ev ((qs.map (topOf B)).map fun t : Int => (t : Rat)) x * (s : Rat) := he
   rw [he', ev, Rat.intCast_mul]; grind)
 rw [tl] at hbh
 have e3 : (m + 1) * (qs.length + 2) = m * qs.length + qs.length + (m + 1) * 2 := by rw [Nat.mul_add, Nat.add_mul, Nat.one_mul]
 have d1 : 1 ≤ d ∨ qs.length = 0 := by
   cases qs with
   | nil => exact .inr rfl
   | cons c r =>
     left
     have := (hB c (List.mem_cons_self ..)).2
     unfold Bd at this
     rcases Nat.eq_zero_or_pos d with z | z
     · rw [z] at this
       have := c.den_pos
       lia
     · exact z
 refine q u _ (((Same.new hl0).trans (Same.new hp)).trans (Same.new hu)) ?_ ?_
 · rw [← e]; exact upd_same
 · rw [← e]
   exact RB.div (m := 0) (hbh.mono (by lia)) ((hbB.mul hbs).mono (by lia)) hb0
theorem sc_lowest_terms : FnScope ["pair", "places", "common", "under", "turned"] ["pair", "places"] (defScope (top 41)) := ⟨rfl, rfl, rfl, by decide +kernel, rfl, by decide +kernel, by decide +kernel⟩
set_option maxHeartbeats 4000000 in
theorem ok_lowest_terms {f : Addr} {fd : FuncData} (F : Fun K "lowest_terms" "lowest_terms" (top 41) f fd) (F_nought_at : Fd P w K mg base 37 "nought_at" ["places"] (spNoughtAt K)) (F_over : Fd P w K mg base 35 "over" ["a", "b"] (spOver K)) (F_divided : Fd P w K mg base 36 "divided" ["one", "other"] (spDivd3 K)) (F_scaled : Fd P w K mg base 36 "scaled" ["curve", "number"] (spScaled K)) (F_height_at : Fd P w K mg base 35 "height_at" ["curve", "x"] (spHeight2 K)) {a_NOUGHT : Addr} (c_NOUGHT : mg "NOUGHT" = some (.ref a_NOUGHT)) (n_NOUGHT : ∀ H : Hp, NumV K H (.ref a_NOUGHT) (0)) (hT : P.given.tree = none) :
   FnOk P w K mg base CX0 38 f fd ["pair", "places"] (spLowest K) := by
 refine F.ok sc_lowest_terms (fun vs H Q E h => ?_) (fun cdv A outer s H vs Q E hr h => ?_)
 · obtain ⟨_, _, _, _, _, _, _, _, _, _, rfl, _⟩ := h; rfl
 refine ⟨_, (@pss_consC _ _ _ _ _ K _ (@ps_set _ _ 2 _ _ _ _ sc_lowest_terms.nd rfl (Or.inl rfl) (@pe_fn _ _ _ _ _ _ _ _ _ _ _ F_nought_at hr rfl (@pa_cons _ _ _ _ _ (@pe_lc _ (["x", "pair"]) 1 ([0]) _ _ _ _ _ _ _ _ _ _ rfl (CompOk.look (NX := ["pair", "places", "common", "under", "turned"]) (sc := defScope (top 41)) rfl rfl (by decide +kernel)) (@piL _ K _ _ _ (pv 1) (by rfl)) (fun u1 u2 u3 u4 u5 => (@pg_name _ _ 0 _ (show List.Nodup (["x", "pair"] : List Str) from by decide +kernel) rfl (Or.inl rfl) (by first   | exact .inl rfl   | exact .inr rfl   | assumption))) (stays_name (by decide)) (fun u1 u2 u3 u4 u5 => pts_one (@pt_cmpR _ _ _ _ _ _ _ _ (eqD K hr.units) (@pe_fn _ _ _ _ _ _ _ _ _ _ _ F_height_at hr rfl (@pa_cons _ _ _ _ _ (@pe_ix _ _ _ _ _ _ _ (ixT K) (pv 1) pe_int (fun u v => rfl)) (@pa_cons _ _ _ _ _ (pv 0) pa_nil (by rfl)) (by rfl)) (by decide) (by decide) (by rfl) (by rfl)) (@pe_glob _ _ (.ref a_NOUGHT) _ _ rfl c_NOUGHT rfl (by decide)) (nomark _))) (fun u1 u2 u3 u4 u5 => (pv 0)) (by intro _; rfl)) pa_nil (by rfl)) (by decide) (by decide) (by rfl) (by rfl)) (by rfl) (by first   | exact .inl rfl   | exact .inr rfl   | assumption)) (@pss_consC _ _ _ _ _ K _ (@ps_set _ _ 3 _ _ _ _ sc_lowest_terms.nd rfl (Or.inl rfl) (@pe_ix _ _ _ _ _ _ _ (ixT K) (@pe_fn _ _ _ _ _ _ _ _ _ _ _ F_divided hr rfl (@pa_cons _ _ _ _ _ (@pe_ix _ _ _ _ _ _ _ (ixT K) (pv 0) pe_int (fun u v => rfl)) (@pa_cons _ _ _ _ _ (pv 2) pa_nil (by rfl)) (by rfl)) (by decide) (by decide) (by rfl) (by rfl)) pe_int (fun u v => rfl)) (by rfl) (by first   | exact .inl rfl   | exact .inr rfl   | assumption)) (@pss_consC _ _ _ _ _ K _ (@ps_set _ _ 4 _ _ _ _ sc_lowest_terms.nd rfl (Or.inl rfl) (@pe_fn _ _ _ _ _ _ _ _ _ _ _ F_over hr rfl (@pa_cons _ _ _ _ _ (@pe_tup _ _ _ _ _ (@pa_cons _ _ _ _ _ pe_int (@pa_cons _ _ _ _ _ pe_int pa_nil (by rfl)) (by rfl))) (@pa_cons _ _ _ _ _ (@pe_ix _ _ _ _ _ _ _ (ixT K) (pv 3) (@pe_un _ _ _ _ _ _ un_neg pe_int) (fun u v => rfl)) pa_nil (by rfl)) (by rfl)) (by decide) (by decide) (by rfl) (by rfl)) (by rfl) (by first   | exact .inl rfl   | exact .inr rfl   | assumption)) (@pss_one _ _ _ (@ps_ret _ _ _ _ (@pe_tup _ _ _ _ _ (@pa_cons _ _ _ _ _ (@pe_fn _ _ _ _ _ _ _ _ _ _ _ F_scaled hr rfl (@pa_cons _ _ _ _ _ (@pe_ix _ _ _ _ _ _ _ (ixT K) (@pe_fn _ _ _ _ _ _ _ _ _ _ _ F_divided hr rfl (@pa_cons _ _ _ _ _ (@pe_ix _ _ _ _ _ _ _ (ixT K) (pv 0) pe_int (fun u v => rfl)) (@pa_cons _ _ _ _ _ (pv 2) pa_nil (by rfl)) (by rfl)) (by decide) (by decide) (by rfl) (by rfl)) pe_int (fun u v => rfl)) (@pa_cons _ _ _ _ _ (pv 4) pa_nil (by rfl)) (by rfl)) (by decide) (by decide) (by rfl) (by rfl)) (@pa_cons _ _ _ _ _ (@pe_fn _ _ _ _ _ _ _ _ _ _ _ F_scaled hr rfl (@pa_cons _ _ _ _ _ (pv 3) (@pa_cons _ _ _ _ _ (pv 4) pa_nil (by rfl)) (by rfl)) (by decide) (by decide) (by rfl) (by rfl)) pa_nil (by rfl)) (by rfl))))) (by rfl)) (by rfl)) (by rfl)), ?_⟩
 obtain ⟨t, lp, pN, pD, zs, qs, N, D, G, nx, rfl, hT, cN, cD, gN, gD, hD0, hS, hZ, hnd, h12, hNl, hDl, bN, bD, bq, hnx1, hnx, hG, hz, q⟩ := h
 have P2 : 2 ≤ sizeLine := by decide
 have hzl := hZ.length
 obtain ⟨L, hL⟩ : ∃ L, L = 28 * nx + 400 := ⟨_, rfl⟩
 obtain ⟨E0, hE⟩ : ∃ E0, E0 = G + 13 + 400 * L + 1000 := ⟨_, rfl⟩
 have hx17 : (nx + 1) * (D.length + 4) ≤ 1001 * 17 := Nat.mul_le_mul (by lia) (by lia)
 refine lc_of ⟨_, rfl, lp, rfl, ⟨_, hS⟩, ?_⟩
 refine lc_filt (xs := zs) (L4 H K qs D fun H K qs D i us W => Same H W ∧ us.length ≤ i ∧ Nums K W us ((qs.take i).filter fun q => decide (Cv.ev D q = 0))) ⟨Same.refl _, Nat.le_refl _, .nil⟩ (fun i us W _ h => ⟨Same.seq h.1 hS, h.2.1⟩) (Nat.le_of_lt (small1000 (by lia))) ?_ ?_
 · rintro i v us W hv ⟨sw, hul, hun⟩
   obtain ⟨x, hx, rx, rfl, hrx⟩ := (Paired.get hZ hv)
   refine ⟨_, rfl, t, _, _, _, rfl, rfl, hT.same sw, rfl, _, rfl, pD, rx, D, x, G, 1, nx, rfl, cD.same sw, NumV.same ⟨rx, rfl, hrx⟩ sw, bD, bq x (List.mem_of_getElem? hx), by lia, by lia, fun p1 W1 s1 e1 _ => ?_⟩
   refine eqN (NumV.of e1) (n_NOUGHT _) ?_
   refine ⟨_, rfl, ?_⟩
   have et : (qs.take (i + 1)).filter (fun q => decide (Cv.ev D q = 0)) = (qs.take i).filter (fun q => decide (Cv.ev D q = 0)) ++ [x].filter (fun q => decide (Cv.ev D q = 0)) := by rw [List.take_add_one, hx, List.filter_append]; rfl
   by_cases h0 : Cv.ev D x = 0
   · refine iteTc (decide_eq_true h0) ⟨_, rfl, sw.trans s1, by rw [List.length_append, List.length_singleton]; lia, ?_⟩
     rw [et, List.filter_cons_of_pos (by exact decide_eq_true h0)]
     exact Paired.snoc (Nums.same hun s1) (NumV.same ⟨rx, rfl, hrx⟩ (sw.trans s1))
   · refine iteFc (decide_eq_false h0) ⟨sw.trans s1, by lia, ?_⟩
     rw [et, List.filter_cons_of_neg (by simpa using h0), List.filter_nil, List.append_nil]
     exact Nums.same hun s1
 rintro us W ⟨sw, hul, hun⟩ l1 hl1
 rw [hzl, List.take_length] at hun
 generalize hSS : qs.filter (fun q => decide (Cv.ev D q = 0)) = S at hun q
 have hSn : S.Nodup := by rw [← hSS]; exact hnd.filter _
 have hSq : ∀ x ∈ S, x ∈ qs ∧ Cv.ev D x = 0 := fun x hx => by
   rw [← hSS] at hx
   exact ⟨(List.mem_filter.mp hx).1, by simpa using (List.mem_filter.mp hx).2⟩
 have hSl : S.length ≤ 12 := by rw [← hSS]; exact Nat.le_trans (List.length_filter_le ..) h12
 have n1 := Same.new (o := .lst us) hl1
 refine ⟨l1, us, S, nx, rfl, upd_same, Nums.same hun n1, fun x hx => bq x (hSq x hx).1, hnx1, hnx, hSl, fun pc H2 s2 cC bC => ?_⟩
 have sA := (sw.trans n1).trans s2
 have hpl := prL_length S
 have hpn : prL S ≠ [] := fun z => by rw [z] at hpl; cases hpl
 rw [← hL] at bC
 clear n1 s2 hl1 hul hun sw
 refine ⟨_, rfl, t, _, _, _, rfl, rfl, hT.same sA, rfl, _, rfl, pD, pc, D, prL S, G, 1, L, rfl, cD.same sA, cC, gD, hpn, good_prL S, bD, bC, by lia, hDl, by lia, fun p1 a1 b1 H3 os rs s3 e3 ca cb go gr hol hrl hev hrb => ?_⟩
 have hdv := exact_div gD go gr hrl hev hSn fun x hx => (hSq x hx).2
 have hos0 : os ≠ [] := fun z => hD0 (by
   have := good_one gD (.inl rfl) fun x => by rw [hdv x, z]; show _ * 0 = (0 : Rat); rw [Rat.mul_zero]
   exact this)
 obtain ⟨u, hu, hu0⟩ : ∃ u, os[os.length - 1]? = some u ∧ u ≠ 0 := by
   rcases go with h | h
   · exact absurd h hos0
   · exact h
 have sB := sA.trans s3
 refine ⟨p1, _, _, _, rfl, rfl, SqT.of e3, rfl, P2, fun t5 h5 => ?_⟩
 have n5 := Same.new (o := .tup [.int 1, .int 1]) h5
 obtain ⟨vs1, hva, hvn⟩ := (ca.same n5)
 obtain ⟨vu, hvu, hnu⟩ := (Paired.get' hvn hu)
 have hvl := hvn.length
 rw [← hvl] at hvu
 have bu := hrb u (List.mem_of_getElem? hu)
 refine ⟨_, rfl, _, rfl, a1, vs1, _, _, rfl, rfl, hva, atI_back hvu, ?_⟩
 refine ⟨_, _, 1, u, 1, E0, rfl, ⟨t5, rfl, SqT.of upd_same⟩, hnu, hu0, RB.one (by decide), bu.mono (by lia), by lia, fun tw htw => ?_⟩
 have n6 := Same.new (o := nT (1 / u)) htw
 have etw := upd_same (H := upd H3 t5 (.tup [.int 1, .int 1])) (a := tw) (o := nT (1 / u))
 have sC := sB.trans (n5.trans n6)
 have ca6 := (ca.same n5).same n6
 have cC6 := ((cC.same s3).same n5).same n6
 generalize upd (upd H3 t5 (.tup [.int 1, .int 1])) tw (nT (1 / u)) = H6 at etw sC ca6 cC6 ⊢
 clear n5 n6 hva hvn hvu hnu h5 htw hvl
 refine ⟨_, rfl, t, _, _, _, rfl, rfl, hT.same sC, rfl, _, rfl, pN, pc, N, prL S, G, 1, L, rfl, cN.same sC, cC6, gN, hpn, good_prL S, bN, bC, by lia, hNl, by lia, fun p2 a2 b2 H7 ot rt s7 e7 ca2 cb2 go2 gr2 hol2 hrl2 hev2 hrb2 => ?_⟩
 have hdv2 := exact_div gN go2 gr2 hrl2 hev2 hSn fun x hx => hz x (hSq x hx).1 (hSq x hx).2
 have hw0 : (1 / u : Rat) ≠ 0 := fun z => by
   have : (1 / u) * u = 1 := Rat.div_mul_cancel hu0
   rw [z, Rat.zero_mul] at this
   exact absurd this (by decide)
 have bw : RB (E0 + 1) (1 / u) := (RB.over (RB.one (n := 1) (by decide)) (bu.mono (Nat.le_of_eq hE.symm)) hu0).mono (by lia)
 refine ⟨p2, _, _, _, rfl, rfl, SqT.of e7, rfl, _, rfl, a2, tw, ot, 1 / u, E0, E0 + 1, rfl, ca2, NumV.of (s7 _ _ etw), fun c hc => (hrb2 c hc).mono (by lia), bw, by lia, by lia, fun pa H8 s8 cA => ?_⟩
 refine ⟨_, rfl, _, rfl, a1, tw, os, 1 / u, E0, E0 + 1, rfl, (ca6.same s7).same s8, NumV.of (s8 _ _ (s7 _ _ etw)), fun c hc => (hrb c hc).mono (by lia), bw, by lia, by lia, fun pb H9 s9 cB => ⟨P2, fun pf hpf => ?_⟩⟩
 have nf := Same.new (o := .tup [.ref pa, .ref pb]) hpf
 have e1 := strip_good (good_scale go2 hw0)
 have e2 := strip_good (good_scale go hw0)
 rw [e1] at cA
 rw [e2] at cB
 have huw : u * (1 / u) = 1 := by rw [Rat.mul_comm]; exact Rat.div_mul_cancel hu0
 refine q pf pa pb _ _ _ u ((((sC.trans s7).trans s8).trans s9).trans nf) upd_same ((cA.same s9).same nf) (cB.same nf) (good_scale go2 hw0) (good_scale go hw0) ?_ hu0 (fun x => ?_) (fun x => ?_) ?_ ?_ (fun c hc => ?_) fun c hc => ?_
 · rw [List.length_map, List.getElem?_map, hu]
   exact congrArg some huw
 · rw [hdv2 x, Cv.ev_scale]
   have : u * prV x S * (Cv.ev ot x * (1 / u)) = (u * (1 / u)) * (prV x S * Cv.ev ot x) := by grind
   rw [this, huw, Rat.one_mul]
 · rw [hdv x, Cv.ev_scale]
   have : u * prV x S * (Cv.ev os x * (1 / u)) = (u * (1 / u)) * (prV x S * Cv.ev os x) := by grind
   rw [this, huw, Rat.one_mul]
 · rw [List.length_map, hol2]; lia
 · rw [List.length_map, hol]; lia
 · obtain ⟨y, hy, rfl⟩ := (List.mem_map.mp hc)
   exact (((hrb2 y hy).mono (Nat.le_of_eq hE.symm)).times bw).mono (by lia)
 · obtain ⟨y, hy, rfl⟩ := (List.mem_map.mp hc)
   exact (((hrb y hy).mono (Nat.le_of_eq hE.symm)).times bw).mono (by lia)
theorem sc_lack_at : FnScope ["pair", "x", "y", "room"] ["pair", "x", "y"] (defScope (top 32)) := ⟨rfl, rfl, rfl, by decide +kernel, rfl, by decide +kernel, by decide +kernel⟩
set_option maxHeartbeats 4000000 in
theorem ok_lack_at {f : Addr} {fd : FuncData} (F : Fun K "lack_at" "lack_at" (top 32) f fd) (F_whole_height : Fd P w K mg base 33 "whole_height" ["tops", "x"] (spWH K)) (b_len : mg "len" = none) (hT : P.given.tree = none) :
   FnOk P w K mg base CX0 34 f fd ["pair", "x", "y"] (spLack K) := by
 refine F.ok sc_lack_at (fun vs H Q E h => ?_) (fun cdv A outer s H vs Q E hr h => ?_)
 · obtain ⟨_, _, _, _, _, _, _, _, _, _, rfl, _⟩ := h; rfl
 refine ⟨_, (@pss_consC _ _ _ _ _ K _ (@ps_set _ _ 3 _ _ _ _ sc_lack_at.nd rfl (Or.inl rfl) (@pe_op _ _ _ _ _ _ _ _ (op_fdivX hr hT) (@pe_callB _ _ _ _ _ _ _ _ _ (lenK K) rfl b_len bt_len (@pa_cons _ _ _ _ _ (pv 0) pa_nil (by rfl)) (by decide) (by decide) (by rfl) (by rfl)) pe_int) (by rfl) (by first   | exact .inl rfl   | exact .inr rfl   | assumption)) (@pss_one _ _ _ (@ps_ret _ _ _ _ (@pe_op _ _ _ _ _ _ _ _ op_sub (@pe_op _ _ _ _ _ _ _ _ op_mulC (@pe_ix _ _ _ _ _ _ _ (ixT K) (pv 2) pe_int (fun u v => rfl)) (@pe_ix _ _ _ _ _ _ _ (ixT K) (@pe_fn _ _ _ _ _ _ _ _ _ _ _ F_whole_height hr rfl (@pa_cons _ _ _ _ _ (@pe_slice _ _ _ _ _ _ _ _ _ _ (slL K) (pv 0) po_none (@po_some _ _ _ (pv 3))) (@pa_cons _ _ _ _ _ (pv 1) pa_nil (by rfl)) (by rfl)) (by decide) (by decide) (by rfl) (by rfl)) pe_int (fun u v => rfl))) (@pe_op _ _ _ _ _ _ _ _ op_mulC (@pe_ix _ _ _ _ _ _ _ (ixT K) (pv 2) pe_int (fun u v => rfl)) (@pe_ix _ _ _ _ _ _ _ (ixT K) (@pe_fn _ _ _ _ _ _ _ _ _ _ _ F_whole_height hr rfl (@pa_cons _ _ _ _ _ (@pe_slice _ _ _ _ _ _ _ _ _ _ (slL K) (pv 0) (@po_some _ _ _ (pv 3)) po_none) (@pa_cons _ _ _ _ _ (pv 1) pa_nil (by rfl)) (by rfl)) (by decide) (by decide) (by rfl) (by rfl)) pe_int (fun u v => rfl)))))) (by rfl)), ?_⟩
 obtain ⟨l, rx, ry, ts, x, y, R, m, nx, ny, rfl, hS, hl, hx, ⟨_, ery, hy⟩, hB, bx, by_, hz, q⟩ := h
 cases ery
 have hz1 : (nx + 1) * (R + 4) = (nx + 1) * (R + 2) + (nx + 1) * 2 := by rw [← Nat.mul_add]
 generalize hP : (nx + 1) * (R + 2) = P at *
 refine ⟨_, rfl, l, _, rfl, .inl hS, _, _, rfl, rfl, by decide, ?_⟩
 have eR : (((ts.map V.int).length : Nat) : Int).fdiv 2 = (R : Int) := by
   rw [List.length_map, hl, Int.fdiv_eq_ediv_of_nonneg _ (by decide)]; lia
 rw [eR]
 have ht1 : (ts.take R).length = R := by rw [List.length_take]; lia
 have ht2 : (ts.drop R).length = R := by rw [List.length_drop]; lia
 refine ⟨_, rfl, ry, _, _, _, rfl, rfl, hy, rfl, _, rfl, _, rfl, _, rfl, l, _, rfl, hS, fun p1 h1 => ?_⟩
 have c1 : cutV (ts.map V.int) none (some (R : Int)) = (ts.take R).map V.int := by rw [cut_to, List.map_take]
 rw [c1]
 have n1 := Same.new (o := .lst ((ts.take R).map V.int)) h1
 have e1 : (upd H p1 (.lst ((ts.take R).map V.int))) p1 = some (.lst ((ts.take R).map V.int)) := upd_same
 generalize upd H p1 (.lst ((ts.take R).map V.int)) = H1 at n1 e1 ⊢
 refine ⟨_, rfl, p1, rx, ts.take R, x, m, nx, rfl, SqL.of e1, hx.same n1, fun t ht => hB t (List.mem_of_mem_take ht), bx, by rw [ht1]; lia, fun hN s p2 es hs0 ehN bN bs hp2 => ?_⟩
 rw [ht1] at es bN bs
 have n2 := Same.new (o := .tup [.int hN, .int s]) hp2
 refine ⟨p2, _, _, _, rfl, rfl, SqT.of upd_same, rfl, _, _, rfl, rfl, MulC.bd by_.2 bN (by lia), ?_⟩
 have s2 := n1.trans n2
 generalize upd H1 p2 (.tup [.int hN, .int s]) = H2 at s2 ⊢
 refine ⟨_, rfl, ry, _, _, _, rfl, rfl, hy.same s2, rfl, _, rfl, _, rfl, _, rfl, l, _, rfl, Same.seq s2 hS, fun p3 h3 => ?_⟩
 have c2 : cutV (ts.map V.int) (some (R : Int)) none = (ts.drop R).map V.int := by rw [cut_from, List.map_drop]
 rw [c2]
 have n3 := s2.trans (Same.new (o := .lst ((ts.drop R).map V.int)) h3)
 have e3 : (upd H2 p3 (.lst ((ts.drop R).map V.int))) p3 = some (.lst ((ts.drop R).map V.int)) := upd_same
 generalize upd H2 p3 (.lst ((ts.drop R).map V.int)) = H3 at n3 e3 ⊢
 refine ⟨_, rfl, p3, rx, ts.drop R, x, m, nx, rfl, SqL.of e3, hx.same n3, fun t ht => hB t (List.mem_of_mem_drop ht), bx, by rw [ht2]; lia, fun hD s' p4 es' hs0' ehD bD bs' hp4 => ?_⟩
 rw [ht2] at es' bD bs'
 have n4 := Same.new (o := .tup [.int hD, .int s']) hp4
 refine ⟨p4, _, _, _, rfl, rfl, SqT.of upd_same, rfl, _, _, rfl, rfl, MulC.bd by_.1 bD (by lia), _, _, rfl, rfl, ?_⟩
 refine q _ _ (n3.trans n4) ?_ ?_
 · rw [Rat.intCast_sub, Rat.intCast_mul, Rat.intCast_mul, ehN, ehD, es', ← es, Rat.intCast_mul, Nm.num_mul y]
   grind
 · exact Bd.sub (n := m + P + ny) ((by_.2.mul bN).mono (by lia)) ((by_.1.mul bD).mono (by lia))
theorem sc_with_nought_at : FnScope ["pair", "x"] ["pair", "x"] (defScope (top 33)) := ⟨rfl, rfl, rfl, by decide +kernel, rfl, by decide +kernel, by decide +kernel⟩
set_option maxHeartbeats 4000000 in
theorem ok_with_nought_at {f : Addr} {fd : FuncData} (F : Fun K "with_nought_at" "with_nought_at" (top 33) f fd) (b_range : mg "range" = none) (b_len : mg "len" = none) (hT : P.given.tree = none) :
   FnOk P w K mg base CX0 33 f fd ["pair", "x"] (spShift K) := by
 refine F.ok sc_with_nought_at (fun vs H Q E h => ?_) (fun cdv A outer s H vs Q E hr h => ?_)
 · obtain ⟨_, _, _, _, _, _, rfl, _⟩ := h; rfl
 refine ⟨_, (@pss_one _ _ _ (@ps_ret _ _ _ _ (@pe_lc _ (["k", "pair", "x"]) 1 ([0, 1]) _ _ _ _ _ _ _ _ _ _ rfl (CompOk.look (NX := ["pair", "x"]) (sc := defScope (top 33)) rfl rfl (by decide +kernel)) (@pi_range1 _ _ _ _ _ _ rfl b_range (@pa_cons _ _ _ _ _ (@pe_callB _ _ _ _ _ _ _ _ _ (lenK K) rfl b_len bt_len (@pa_cons _ _ _ _ _ (pv 0) pa_nil (by rfl)) (by decide) (by decide) (by rfl) (by rfl)) pa_nil (by rfl)) (by rfl)) (fun u1 u2 u3 u4 u5 => (@pg_name _ _ 0 _ (show List.Nodup (["k", "pair", "x"] : List Str) from by decide +kernel) rfl (Or.inl rfl) (by first   | exact .inl rfl   | exact .inr rfl   | assumption))) (stays_name (by decide)) (fun u1 u2 u3 u4 u5 => pts_nil) (fun u1 u2 u3 u4 u5 => (@pe_op _ _ _ _ _ _ _ _ op_sub (@pe_op _ _ _ _ _ _ _ _ op_mulC (@pe_ix _ _ _ _ _ _ _ (ixT K) (pv 2) pe_int (fun u v => rfl)) (@pe_ix _ _ _ _ _ _ _ (ixL K) (pv 1) (@pe_op _ _ _ _ _ _ _ _ op_sub (pv 0) pe_int) (fun u v => rfl))) (@pe_op _ _ _ _ _ _ _ _ op_mulC (@pe_ix _ _ _ _ _ _ _ (ixT K) (pv 2) pe_int (fun u v => rfl)) (@pe_ix _ _ _ _ _ _ _ (ixL K) (pv 1) (pv 0) (fun u v => rfl))))) (by intro _; rfl)))), ?_⟩
 obtain ⟨l, rx, ts, x, m, n, rfl, hS, ⟨_, erx, hx⟩, h1, h100, hlast, hB, bx, hz, q⟩ := h
 cases erx
 have tl : (ts.map V.int).length = ts.length := List.length_map _
 refine lc_of ⟨_, rfl, l, _, rfl, .inl hS, _, rfl, by rw [tl]; lia, by rw [tl]; lia, ?_⟩
 rw [Int.toNat_natCast, tl]
 refine lc_itr (L3 H x ts fun H x ts i zs G => G = H ∧ zs = ((List.range i).map fun k => (x.den : Int) * (if k = 0 then 0 else ts.getD (k - 1) 0) - x.num * ts.getD k 0).map V.int) ⟨rfl, rfl⟩ (fun i zs G _ h => by rw [h.2, List.length_map, List.length_map, List.length_range]) (Nat.le_of_lt (small1000 (by lia))) ?_ ?_
 · rintro i zs G hi ⟨rfl, rfl⟩
   have at_i : atI (ts.map V.int) (0 + (i : Int)) = some (.int (ts.getD i 0)) := by
     rw [Int.zero_add]
     refine atI_nat ?_
     rw [List.getElem?_map, List.getElem?_eq_getElem hi, List.getD_eq_getElem?_getD, List.getElem?_eq_getElem hi]; rfl
   have at_p : atI (ts.map V.int) (0 + (i : Int) - 1) = some (.int (if i = 0 then 0 else ts.getD (i - 1) 0)) := by
     by_cases z : i = 0
     · subst z
       rw [if_pos rfl]
       have : atI (ts.map V.int) (-1) = some (.int 0) := atI_back (by
         rw [tl, List.getElem?_map, List.getElem?_eq_getElem (by lia)]
         rw [List.getD_eq_getElem?_getD, List.getElem?_eq_getElem (by lia)] at hlast
         exact congrArg (fun t => some (V.int t)) hlast)
       exact this
     · rw [if_neg z, show (0 : Int) + (i : Int) - 1 = ((i - 1 : Nat) : Int) by lia]
       refine atI_nat ?_
       rw [List.getElem?_map, List.getElem?_eq_getElem (by lia), List.getD_eq_getElem?_getD, List.getElem?_eq_getElem (by lia)]; rfl
   have bp : Bd m (if i = 0 then 0 else ts.getD (i - 1) 0) := by
     split
     · exact (show Bd 0 0 by unfold Bd; decide).mono (by lia)
     · exact getD_bd hB _
   refine ⟨_, rfl, rx, _, _, _, rfl, rfl, hx, rfl, _, rfl, _, rfl, _, _, rfl, rfl, l, _, _, _, rfl, rfl, hS, at_p, _, _, rfl, rfl, MulC.bd bx.2 bp (by lia), ?_⟩
   refine ⟨_, rfl, rx, _, _, _, rfl, rfl, hx, rfl, _, rfl, _, rfl, l, _, _, _, rfl, rfl, hS, at_i, _, _, rfl, rfl, MulC.bd bx.1 (getD_bd hB i) (by lia), _, _, rfl, rfl, rfl, ?_⟩
   rw [List.range_succ, List.map_append, List.map_append]
   rfl
 rintro zs G ⟨hG, rfl⟩ p hp
 obtain rfl : H = G := hG.symm
 refine q p _ (Same.new hp) upd_same fun t ht => ?_
 unfold shI at ht
 obtain ⟨k, _, rfl⟩ := (List.mem_map.mp ht)
 have bp : Bd m (if k = 0 then 0 else ts.getD (k - 1) 0) := by
   split
   · exact (show Bd 0 0 by unfold Bd; decide).mono (by lia)
   · exact getD_bd hB _
 exact Bd.sub (n := m + n) ((bx.2.mul bp).mono (by lia)) ((bx.1.mul (getD_bd hB k)).mono (by lia))
theorem sc_without_common : FnScope ["tops", "measure", "top"] ["tops"] (defScope (top 34)) := ⟨rfl, rfl, rfl, by decide +kernel, rfl, by decide +kernel, by decide +kernel⟩
set_option maxHeartbeats 4000000 in
theorem ok_without_common {f : Addr} {fd : FuncData} (F : Fun K "without_common" "without_common" (top 34) f fd) (F_common_measure : Fd P w K mg base 33 "common_measure" ["one", "other"] (spGcd)) (hT : P.given.tree = none) :
   FnOk P w K mg base CX0 34 f fd ["tops"] (spWoC K) := by
 refine F.ok sc_without_common (fun vs H Q E h => ?_) (fun cdv A outer s H vs Q E hr h => ?_)
 · obtain ⟨_, _, _, rfl, _⟩ := h; rfl
 refine ⟨_, (@pss_consC _ _ _ _ _ K _ (@ps_set _ _ 1 _ _ _ _ sc_without_common.nd rfl (Or.inr rfl) pe_int (by rfl) (by first   | exact .inl rfl   | exact .inr rfl   | assumption)) (@pss_consC _ _ _ _ _ K _ (@ps_forC _ _ _ _ _ _ _ _ K _ PassesOwn.never rfl (@piL _ K _ _ _ (pv 0) (by rfl)) (@pg_name _ _ 2 _ sc_without_common.nd rfl (Or.inl rfl) (by first   | exact .inl rfl   | exact .inr rfl   | assumption)) (@pss_one _ _ _ (@ps_set _ _ 1 _ _ _ _ sc_without_common.nd rfl (Or.inr rfl) (@pe_fn _ _ _ _ _ _ _ _ _ _ _ F_common_measure hr rfl (@pa_cons _ _ _ _ _ (pv 1) (@pa_cons _ _ _ _ _ (pv 2) pa_nil (by rfl)) (by rfl)) (by decide) (by decide) (by rfl) (by rfl)) (by rfl) (by first   | exact .inl rfl   | exact .inr rfl   | assumption))) (by rfl) (by intro _; rfl)) (@pss_one _ _ _ (@ps_ret _ _ _ _ (@pe_lc _ (["top", "measure"]) 1 ([1]) _ _ _ _ _ _ _ _ _ _ rfl (CompOk.look (NX := ["tops", "measure", "top"]) (sc := defScope (top 34)) rfl rfl (by decide +kernel)) (@piL _ K _ _ _ (pv 0) (by rfl)) (fun u1 u2 u3 u4 u5 => (@pg_name _ _ 0 _ (show List.Nodup (["top", "measure"] : List Str) from by decide +kernel) rfl (Or.inl rfl) (by first   | exact .inl rfl   | exact .inr rfl   | assumption))) (stays_name (by decide)) (fun u1 u2 u3 u4 u5 => pts_nil) (fun u1 u2 u3 u4 u5 => (@pe_op _ _ _ _ _ _ _ _ (op_fdivX hr hT) (pv 0) (pv 1))) (by intro _; rfl)))) (by rfl)) (by rfl)), ?_⟩
 obtain ⟨l, ts, m, rfl, hS, hne, h100, hB, q⟩ := h
 have tl : (ts.map V.int).length = ts.length := List.length_map _
 refine ⟨_, rfl, l, rfl, ⟨_, hS⟩, for_list (xs := ts.map V.int) (L3 H l ts fun H l ts i σ G => G = H ∧ ∃ (g : Int) (z : Option V), σ = [some (.ref l), some (.int g), z] ∧ 0 ≤ g ∧ (∀ t ∈ ts.take i, g ∣ t) ∧ (g = 0 → ∀ t ∈ ts.take i, t = 0)) ⟨rfl, 0, none, rfl, by decide, (fun _ h => nomatch h), fun _ _ h => nomatch h⟩ (fun i σ G _ h => by rw [h.1]; exact hS) ?_ ?_⟩
 · rintro i v σ G hv hR1
   refine anE2 hR1 fun hq60 hz62 => ?_
   refine exE2 hz62 fun g z hz62' => ?_
   clear hz62
   refine anE4 hz62' fun hq61 g0 hg hg0 => ?_
   clear hz62'
   obtain rfl := hq60
   obtain rfl := hq61
   try clear hR1
   rw [List.getElem?_map] at hv
   cases ht : ts[i]? with
   | none => rw [ht] at hv; cases hv
   | some t =>
     rw [ht] at hv
     cases hv
     refine ⟨_, rfl, _, rfl, g, t, rfl, rfl, _, _, rfl, by lia, fun u hu => ?_, fun z u hu => ?_⟩
     · rw [List.take_add_one, ht] at hu
       rcases List.mem_append.mp hu with w | w
       · exact Int.dvd_trans (Int.gcd_dvd_left ..) (hg u w)
       · rw [show u = t from List.mem_singleton.mp w]; exact Int.gcd_dvd_right ..
     · have z' : Int.gcd g t = 0 := by lia
       rw [Int.gcd_eq_zero_iff] at z'
       rw [List.take_add_one, ht] at hu
       rcases List.mem_append.mp hu with w | w
       · exact hg0 z'.1 u w
       · rw [show u = t from List.mem_singleton.mp w]; exact z'.2
 rintro σ G hR2
 refine anE2 hR2 fun hG hz64 => ?_
 refine exE2 hz64 fun g z hz64' => ?_
 clear hz64
 refine anE4 hz64' fun hq63 g0 hg hg0 => ?_
 clear hz64'
 obtain rfl := hq63
 try clear hR2
 obtain rfl : H = G := hG.symm
 rw [tl, List.take_length] at hg hg0
 have gne : g ≠ 0 := fun z => by
   obtain ⟨t, ht, hn⟩ := hne
   exact hn (hg0 z t ht)
 refine lc_of ⟨_, rfl, l, rfl, ⟨_, hS⟩, ?_⟩
 refine lc_lst (xs := ts.map V.int) (fun i zs G => G = H ∧ zs = ((ts.take i).map fun t => t.fdiv g).map V.int) ⟨rfl, rfl⟩ (fun i zs G hi h => ⟨by rw [h.1]; exact hS, by rw [h.2, List.length_map, List.length_map, List.length_take]; lia⟩) (Nat.le_of_lt (small1000 (by lia))) ?_ ?_
 · rintro i v zs G hv ⟨rfl, rfl⟩
   rw [List.getElem?_map] at hv
   cases ht : ts[i]? with
   | none => rw [ht] at hv; cases hv
   | some t =>
     rw [ht] at hv
     cases hv
     refine ⟨_, rfl, _, rfl, _, _, rfl, rfl, gne, rfl, ?_⟩
     rw [List.take_add_one, ht, List.map_append, List.map_append]
     rfl
 rintro zs G ⟨hG, rfl⟩ p hp
 obtain rfl : H = G := hG.symm
 rw [tl, List.take_length]
 refine q p _ g _ (Same.new hp) upd_same gne (by rw [List.length_map]) (fun j => ?_) fun t ht => ?_
 · rw [List.getD_eq_getElem?_getD, List.getD_eq_getElem?_getD, List.getElem?_map]
   cases ht : ts[j]? with
   | none => exact Int.mul_zero _
   | some t =>
     show g * t.fdiv g = t
     rw [Int.fdiv_eq_ediv_of_nonneg _ g0]
     exact Int.mul_ediv_cancel' (hg t (List.mem_of_getElem? ht))
 · obtain ⟨u, hu, rfl⟩ := (List.mem_map.mp ht)
   rw [Int.fdiv_eq_ediv_of_nonneg _ g0]
   have b := hB u hu
   unfold Bd at b ⊢
   exact Nat.lt_of_le_of_lt (Int.natAbs_ediv_le_natAbs ..) b
theorem sc_both_with : FnScope ["both", "x", "y", "low", "high", "lack", "other"] ["both", "x", "y"] (defScope (top 35)) := ⟨rfl, rfl, rfl, by decide +kernel, rfl, by decide +kernel, by decide +kernel⟩
set_option maxHeartbeats 4000000 in
theorem ok_both_with {f : Addr} {fd : FuncData} (F : Fun K "both_with" "both_with" (top 35) f fd) (F_lack_at : Fd P w K mg base 34 "lack_at" ["pair", "x", "y"] (spLack K)) (F_with_nought_at : Fd P w K mg base 33 "with_nought_at" ["pair", "x"] (spShift K)) (F_without_common : Fd P w K mg base 34 "without_common" ["tops"] (spWoC K)) (b_zip : mg "zip" = none) (hT : P.given.tree = none) :
   FnOk P w K mg base CX0 35 f fd ["both", "x", "y"] (spBoth K) := by
 refine F.ok sc_both_with (fun vs H Q E h => ?_) (fun cdv A outer s H vs Q E hr h => ?_)
 · obtain ⟨_, _, _, _, _, _, _, _, _, _, _, _, _, _, _, _, _, _, _, _, _, rfl, _⟩ := h; rfl
 refine ⟨_, (@pss_consC _ _ _ _ _ K _ (@ps_set _ _ 3 _ _ _ _ sc_both_with.nd rfl (Or.inl rfl) (@pe_ix _ _ _ _ _ _ _ (ixT K) (pv 0) pe_int (fun u v => rfl)) (by rfl) (by first   | exact .inl rfl   | exact .inr rfl   | assumption)) (@pss_consC _ _ _ _ _ K _ (@ps_set _ _ 4 _ _ _ _ sc_both_with.nd rfl (Or.inl rfl) (@pe_ix _ _ _ _ _ _ _ (ixT K) (pv 0) pe_int (fun u v => rfl)) (by rfl) (by first   | exact .inl rfl   | exact .inr rfl   | assumption)) (@pss_consC _ _ _ _ _ K _ (@ps_set _ _ 5 _ _ _ _ sc_both_with.nd rfl (Or.inr rfl) (@pe_fn _ _ _ _ _ _ _ _ _ _ _ F_lack_at hr rfl (@pa_cons _ _ _ _ _ (@pe_ix _ _ _ _ _ _ _ (ixT K) (pv 3) pe_int (fun u v => rfl)) (@pa_cons _ _ _ _ _ (pv 1) (@pa_cons _ _ _ _ _ (pv 2) pa_nil (by rfl)) (by rfl)) (by rfl)) (by decide) (by decide) (by rfl) (by rfl)) (by rfl) (by first   | exact .inl rfl   | exact .inr rfl   | assumption)) (@pss_consC _ _ _ _ _ K _ (@ps_set _ _ 6 _ _ _ _ sc_both_with.nd rfl (Or.inr rfl) (@pe_fn _ _ _ _ _ _ _ _ _ _ _ F_lack_at hr rfl (@pa_cons _ _ _ _ _ (@pe_ix _ _ _ _ _ _ _ (ixT K) (pv 4) pe_int (fun u v => rfl)) (@pa_cons _ _ _ _ _ (pv 1) (@pa_cons _ _ _ _ _ (pv 2) pa_nil (by rfl)) (by rfl)) (by rfl)) (by decide) (by decide) (by rfl) (by rfl)) (by rfl) (by first   | exact .inl rfl   | exact .inr rfl   | assumption)) (@pss_consC _ _ _ _ _ K _ (@ps_ifC _ _ _ _ _ _ _ _ K _ _ (@PW.pt _ _ _ (@pw_and _ _ _ _ _ _ _ (@pt_cmpR _ _ _ _ _ _ _ _ op_eq (pv 5) pe_int (nomark _)) (@pw_and1 _ _ _ _ (@pt_cmpR _ _ _ _ _ _ _ _ op_ne (pv 6) pe_int (nomark _))))) (@pss_one _ _ _ (@ps_set _ _ 4 _ _ _ _ sc_both_with.nd rfl (Or.inl rfl) (@pe_tup _ _ _ _ _ (@pa_cons _ _ _ _ _ (@pe_op _ _ _ _ _ _ _ _ op_add (@pe_ix _ _ _ _ _ _ _ (ixT K) (pv 4) pe_int (fun u v => rfl)) pe_int) (@pa_cons _ _ _ _ _ (@pe_fn _ _ _ _ _ _ _ _ _ _ _ F_with_nought_at hr rfl (@pa_cons _ _ _ _ _ (@pe_ix _ _ _ _ _ _ _ (ixT K) (pv 4) pe_int (fun u v => rfl)) (@pa_cons _ _ _ _ _ (pv 1) pa_nil (by rfl)) (by rfl)) (by decide) (by decide) (by rfl) (by rfl)) pa_nil (by rfl)) (by rfl))) (by rfl) (by first   | exact .inl rfl   | exact .inr rfl   | assumption))) pss_nil (by rfl) (by rfl)) (@pss_consC _ _ _ _ _ K _ (@ps_ifC _ _ _ _ _ _ _ _ K _ _ (@PW.pt _ _ _ (@pw_and _ _ _ _ _ _ _ (@pt_cmpR _ _ _ _ _ _ _ _ op_ne (pv 5) pe_int (nomark _)) (@pw_and1 _ _ _ _ (@pt_cmpR _ _ _ _ _ _ _ _ op_ne (pv 6) pe_int (nomark _))))) (@pss_one _ _ _ (@ps_set _ _ 4 _ _ _ _ sc_both_with.nd rfl (Or.inl rfl) (@pe_tup _ _ _ _ _ (@pa_cons _ _ _ _ _ (@pe_ix _ _ _ _ _ _ _ (ixT K) (pv 4) pe_int (fun u v => rfl)) (@pa_cons _ _ _ _ _ (@pe_fn _ _ _ _ _ _ _ _ _ _ _ F_without_common hr rfl (@pa_cons _ _ _ _ _ (@pe_lc _ (["a", "b", "lack", "other"]) 2 ([5, 6]) _ _ _ _ _ _ _ _ _ _ rfl (CompOk.look (NX := ["both", "x", "y", "low", "high", "lack", "other"]) (sc := defScope (top 35)) rfl rfl (by decide +kernel)) (@piZip _ K _ _ _ _ _ _ _ _ rfl b_zip (@pa_cons _ _ _ _ _ (@pe_ix _ _ _ _ _ _ _ (ixT K) (pv 3) pe_int (fun u v => rfl)) (@pa_cons _ _ _ _ _ (@pe_ix _ _ _ _ _ _ _ (ixT K) (pv 4) pe_int (fun u v => rfl)) pa_nil (by rfl)) (by rfl)) (by rfl) (by rfl) (by rfl)) (fun u1 u2 u3 u4 u5 => (@pgT _ K _ _ _ 2 _ rfl (pgs_cons (@pg_name _ _ 0 _ (show List.Nodup (["a", "b", "lack", "other"] : List Str) from by decide +kernel) rfl (Or.inl rfl) (by first   | exact .inl rfl   | exact .inr rfl   | assumption)) (pgs_cons (@pg_name _ _ 1 _ (show List.Nodup (["a", "b", "lack", "other"] : List Str) from by decide +kernel) rfl (Or.inl rfl) (by first   | exact .inl rfl   | exact .inr rfl   | assumption)) pgs_nil)) (by rfl) (by rfl) (by rfl))) (stays_tup (stays_consS (by decide) (stays_consS (by decide) stays_nilS))) (fun u1 u2 u3 u4 u5 => pts_nil) (fun u1 u2 u3 u4 u5 => (@pe_op _ _ _ _ _ _ _ _ op_sub (@pe_op _ _ _ _ _ _ _ _ op_mulC (pv 2) (pv 1)) (@pe_op _ _ _ _ _ _ _ _ op_mulC (pv 3) (pv 0)))) (by intro _; rfl)) pa_nil (by rfl)) (by decide) (by decide) (by rfl) (by rfl)) pa_nil (by rfl)) (by rfl))) (by rfl) (by first   | exact .inl rfl   | exact .inr rfl   | assumption))) pss_nil (by rfl) (by rfl)) (@pss_consC _ _ _ _ _ K _ (@ps_ifC _ _ _ _ _ _ _ _ K _ _ (@pt_cmpR _ _ _ _ _ _ _ _ op_ne (pv 5) pe_int (nomark _)) (@pss_one _ _ _ (@ps_set _ _ 3 _ _ _ _ sc_both_with.nd rfl (Or.inl rfl) (@pe_tup _ _ _ _ _ (@pa_cons _ _ _ _ _ (@pe_op _ _ _ _ _ _ _ _ op_add (@pe_ix _ _ _ _ _ _ _ (ixT K) (pv 3) pe_int (fun u v => rfl)) pe_int) (@pa_cons _ _ _ _ _ (@pe_fn _ _ _ _ _ _ _ _ _ _ _ F_with_nought_at hr rfl (@pa_cons _ _ _ _ _ (@pe_ix _ _ _ _ _ _ _ (ixT K) (pv 3) pe_int (fun u v => rfl)) (@pa_cons _ _ _ _ _ (pv 1) pa_nil (by rfl)) (by rfl)) (by decide) (by decide) (by rfl) (by rfl)) pa_nil (by rfl)) (by rfl))) (by rfl) (by first   | exact .inl rfl   | exact .inr rfl   | assumption))) pss_nil (by rfl) (by rfl)) (@pss_one _ _ _ (@ps_ret _ _ _ _ (@pe_ifExp _ _ _ _ _ _ _ _ (@pt_cmpR _ _ _ _ _ _ _ _ op_lt (@pe_ix _ _ _ _ _ _ _ (ixT K) (pv 3) pe_int (fun u v => rfl)) (@pe_ix _ _ _ _ _ _ _ (ixT K) (pv 4) pe_int (fun u v => rfl)) (nomark _)) (@pe_tup _ _ _ _ _ (@pa_cons _ _ _ _ _ (pv 3) (@pa_cons _ _ _ _ _ (pv 4) pa_nil (by rfl)) (by rfl))) (@pe_tup _ _ _ _ _ (@pa_cons _ _ _ _ _ (pv 4) (@pa_cons _ _ _ _ _ (pv 3) pa_nil (by rfl)) (by rfl)))))) (by rfl)) (by rfl)) (by rfl)) (by rfl)) (by rfl)) (by rfl)) (by rfl)), ?_⟩
 obtain ⟨b, rx, ry, v1, v2, r1, r2, ts1, ts2, w, v, n, R, ps, A, S, C, nx, ny, x, y, rfl, hb, ⟨p1, l1, rfl, hp1, hl1⟩, ⟨p2, l2, rfl, hp2, hl2⟩, I, eR, hw, hx, hy, bx, by_, hnd, hk, hn12, hC, hA, hSz, q⟩ := h
 have P2 : 2 ≤ sizeLine := by decide
 refine exE2 I.bd fun a1 a2 hz65' => ?_
 refine anE5 hz65' fun ba1 ba2 hA1 hA2 hAS => ?_
 clear hz65'
 have hz1 : (nx + 1) * (R + 4) = (nx + 1) * (R + 2) + (nx + 1) * 2 := by rw [← Nat.mul_add]
 have hz2 : (nx + 1) * 2 ≤ (nx + 1) * (R + 2) := Nat.mul_le_mul_left _ (by lia)
 obtain ⟨c0, hc0⟩ : ∃ c0, c0 = (nx + 1) * (R + 2) + ny := ⟨_, rfl⟩
 have hcC : c0 + 2 ≤ C := by lia
 have hnx : nx + 1 ≤ C := by lia
 have hR1 : 1 ≤ R := by lia
 have z1a : ts1.getD (R - 1) 0 = 0 := (I.z1 (R - 1) (by lia) (by lia)).1
 have z1b : ts1.getD (R + (R - 1)) 0 = 0 := (I.z1 (R - 1) (by lia) (by lia)).2
 have z2a : ts2.getD (R - 1) 0 = 0 := (I.z2 (R - 1) (by lia) (by lia)).1
 have z2b : ts2.getD (R + (R - 1)) 0 = 0 := (I.z2 (R - 1) (by lia) (by lia)).2
 have last1 : ts1.getD (ts1.length - 1) 0 = 0 := by rw [I.l1, show 2 * R - 1 = R + (R - 1) by lia]; exact z1b
 have last2 : ts2.getD (ts2.length - 1) 0 = 0 := by rw [I.l2, show 2 * R - 1 = R + (R - 1) by lia]; exact z2b
 have den0 : (((x.den : Int)) : Rat) ≠ 0 := ic_ne (Nm.den_ne x)
 have denx : (((x.den : Int)) : Rat) * x = ((x.num : Int) : Rat) := by rw [Nm.num_mul x]; grind
 have hs : (((y.den : Int) * (x.den : Int) ^ R : Int) : Rat) ≠ 0 := ic_ne (Int.mul_ne_zero (Nm.den_ne y) (Int.pow_ne_zero (Nm.den_ne x)))
 refine ⟨_, rfl, b, _, _, _, rfl, rfl, hb, rfl, _, rfl, b, _, _, _, rfl, rfl, hb, rfl, ?_⟩
 refine ⟨_, rfl, p1, _, _, _, rfl, rfl, hp1, rfl, _, rfl, _, rfl, l1, rx, ry, ts1, x, y, R, a1, nx, ny, rfl, hl1, I.l1, hx, hy, ba1, bx, by_, by lia, fun L1 H1 s1 eL1 bL1 => ?_⟩
 refine ⟨_, rfl, p2, _, _, _, rfl, rfl, hp2.same s1, rfl, _, rfl, _, rfl, l2, rx, ry, ts2, x, y, R, a2, nx, ny, rfl, Same.seq s1 hl2, I.l2, hx.same s1, hy.same s1, ba2, bx, by_, by lia, fun L2 H2 s2 eL2 bL2 => ?_⟩
 have s2 := s1.trans s2
 have bL1 : Bd (a1 + (c0 + 1)) L1 := bL1.mono (by lia)
 have bL2 : Bd (a2 + (c0 + 1)) L2 := bL2.mono (by lia)
 have eL1 : (L1 : Rat) = (((y.den : Int) * (x.den : Int) ^ R : Int) : Rat) * (Cv.ev (ic (ts1.take R)) x - y * Cv.ev (ic (ts1.drop R)) x) := eL1
 have eL2 : (L2 : Rat) = (((y.den : Int) * (x.den : Int) ^ R : Int) : Rat) * (Cv.ev (ic (ts2.take R)) x - y * Cv.ev (ic (ts2.drop R)) x) := eL2
 clear hz1 hz2 s1 hC hc0 hb
 by_cases h1 : L1 = 0
 · by_cases h2 : L2 = 0
   · exact absurd ⟨sub0 ((lack_iff hs eL1).mp h1), sub0 ((lack_iff hs eL2).mp h2)⟩ (I.inv.some hw hnd)
   · -- lack = 0, other ≠ 0
     have hN1 : Cv.ev (ic (ts1.take R)) x = y * Cv.ev (ic (ts1.drop R)) x := by have := (lack_iff hs eL1).mp h1; exact sub0 this
     refine ⟨_, rfl, rfl, _, rfl, iteTc (decide_eq_true (by rw [h1])) ⟨_, rfl, rfl, _, rfl, iteTc (by rw [decide_eq_false fun z => h2 (V.int.inj z)]; rfl) ?_⟩⟩
     refine ⟨_, rfl, p2, _, _, _, rfl, rfl, hp2.same s2, rfl, _, _, rfl, rfl, _, rfl, p2, _, _, _, rfl, rfl, hp2.same s2, rfl, _, rfl, ?_⟩
     refine ⟨l2, rx, ts2, x, a2, nx, rfl, Same.seq s2 hl2, hx.same s2, by rw [I.l2]; lia, by rw [I.l2]; lia, last2, ba2, bx, by lia, fun l9 G9 s9 e9 b9 => ⟨P2, fun p9 hp9 => ?_⟩⟩
     have s9 := s2.trans s9
     have n9 := Same.new (o := .tup [.int (r2 + 2), .ref l9]) hp9
     have ep9 : (upd G9 p9 (.tup [.int (r2 + 2), .ref l9])) p9 = some (.tup [.int (r2 + 2), .ref l9]) := upd_same
     have e9 := n9 _ _ e9
     have s9 := s9.trans n9
     generalize upd G9 p9 (.tup [.int (r2 + 2), .ref l9]) = G at ep9 e9 s9 ⊢
     clear n9 hp9
     refine ⟨_, rfl, rfl, _, rfl, iteFc (by rw [decide_eq_true (by rw [h1])]; rfl) (iteF ?_)⟩
     refine ⟨_, rfl, rfl, _, rfl, iteFc (by rw [decide_eq_true (by rw [h1])]; rfl) ?_⟩
     have un := I.inv.stepA (y := y) den0 denx hN1 (shf_take I.l2 hR1 z2a) (shf_drop I.l2 hR1 z2a z2b)
     have len1 := I.l1
     have len2 := (shI_length x.num x.den ts2).trans I.l2
     have zer1 : ∀ j, (ps ++ [(x, y)]).length + 1 ≤ j → j < R → ts1.getD j 0 = 0 ∧ ts1.getD (R + j) 0 = 0 := fun j h => I.z1 j (by rw [List.length_append] at h; lia)
     have zer2 : ∀ j, (ps ++ [(x, y)]).length + 1 ≤ j → j < R → (shI x.num x.den ts2).getD j 0 = 0 ∧ (shI x.num x.den ts2).getD (R + j) 0 = 0 := by rw [List.length_append]; exact shI_zero (c := x.num) (d := x.den) I.z2
     have bda := ba1
     have bdb := b9
     refine ⟨_, rfl, p1, _, _, _, rfl, rfl, hp1.same s9, rfl, _, rfl, p9, _, _, _, rfl, rfl, SqT.of ep9, rfl, _, _, rfl, rfl, _, rfl, ?_⟩
     by_cases hlt : r1 < r2 + 2
     · refine iteTc (decide_eq_true hlt) ⟨_, rfl, _, rfl, P2, fun t9 ht9 => ?_⟩
       have n9 := Same.new (o := .tup [.ref p1, .ref p9]) ht9
       exact q t9 _ _ _ _ _ _ _ (s9.trans n9) (SqT.of upd_same) ⟨p1, _, rfl, (hp1.same s9).same n9, Same.seq n9 (Same.seq s9 hl1)⟩ ⟨p9, _, rfl, (SqT.of ep9).same n9, Same.seq n9 (SqL.of e9)⟩ ⟨un.inv hlt, len1, len2, zer1, zer2, _, _, bda, bdb, by lia, by lia, by lia⟩
     · refine iteFc (decide_eq_false hlt) ⟨_, rfl, _, rfl, P2, fun t9 ht9 => ?_⟩
       have n9 := Same.new (o := .tup [.ref p9, .ref p1]) ht9
       exact q t9 _ _ _ _ _ _ _ (s9.trans n9) (SqT.of upd_same) ⟨p9, _, rfl, (SqT.of ep9).same n9, Same.seq n9 (SqL.of e9)⟩ ⟨p1, _, rfl, (hp1.same s9).same n9, Same.seq n9 (Same.seq s9 hl1)⟩ ⟨un.turn hlt, len2, len1, zer2, zer1, _, _, bdb, bda, by lia, by lia, by lia⟩
 · by_cases h2 : L2 = 0
   · -- lack ≠ 0, other = 0
     have hN2 : Cv.ev (ic (ts2.take R)) x = y * Cv.ev (ic (ts2.drop R)) x := by have := (lack_iff hs eL2).mp h2; exact sub0 this
     refine ⟨_, rfl, rfl, _, rfl, iteFc (decide_eq_false fun z => h1 (V.int.inj z)) (iteF ?_)⟩
     refine ⟨_, rfl, rfl, _, rfl, iteTc (by rw [decide_eq_false fun z => h1 (V.int.inj z)]; rfl) ⟨_, rfl, rfl, _, rfl, iteFc (by rw [decide_eq_true (by rw [h2])]; rfl) ?_⟩⟩
     refine ⟨_, rfl, rfl, _, rfl, iteTc (by rw [decide_eq_false fun z => h1 (V.int.inj z)]; rfl) ?_⟩
     refine ⟨_, rfl, p1, _, _, _, rfl, rfl, hp1.same s2, rfl, _, _, rfl, rfl, _, rfl, p1, _, _, _, rfl, rfl, hp1.same s2, rfl, _, rfl, ?_⟩
     refine ⟨l1, rx, ts1, x, a1, nx, rfl, Same.seq s2 hl1, hx.same s2, by rw [I.l1]; lia, by rw [I.l1]; lia, last1, ba1, bx, by lia, fun l9 G9 s9 e9 b9 => ⟨P2, fun p9 hp9 => ?_⟩⟩
     have s9 := s2.trans s9
     have n9 := Same.new (o := .tup [.int (r1 + 2), .ref l9]) hp9
     have ep9 : (upd G9 p9 (.tup [.int (r1 + 2), .ref l9])) p9 = some (.tup [.int (r1 + 2), .ref l9]) := upd_same
     have e9 := n9 _ _ e9
     have s9 := s9.trans n9
     generalize upd G9 p9 (.tup [.int (r1 + 2), .ref l9]) = G at ep9 e9 s9 ⊢
     clear n9 hp9
     have un := I.inv.stepB (y := y) den0 denx hN2 (shf_take I.l1 hR1 z1a) (shf_drop I.l1 hR1 z1a z1b)
     have len1 := (shI_length x.num x.den ts1).trans I.l1
     have len2 := I.l2
     have zer2 : ∀ j, (ps ++ [(x, y)]).length + 1 ≤ j → j < R → ts2.getD j 0 = 0 ∧ ts2.getD (R + j) 0 = 0 := fun j h => I.z2 j (by rw [List.length_append] at h; lia)
     have zer1 : ∀ j, (ps ++ [(x, y)]).length + 1 ≤ j → j < R → (shI x.num x.den ts1).getD j 0 = 0 ∧ (shI x.num x.den ts1).getD (R + j) 0 = 0 := by rw [List.length_append]; exact shI_zero (c := x.num) (d := x.den) I.z1
     have bda := b9
     have bdb := ba2
     refine ⟨_, rfl, p9, _, _, _, rfl, rfl, SqT.of ep9, rfl, _, rfl, p2, _, _, _, rfl, rfl, hp2.same s9, rfl, _, _, rfl, rfl, _, rfl, ?_⟩
     by_cases hlt : r1 + 2 < r2
     · refine iteTc (decide_eq_true hlt) ⟨_, rfl, _, rfl, P2, fun t9 ht9 => ?_⟩
       have n9 := Same.new (o := .tup [.ref p9, .ref p2]) ht9
       exact q t9 _ _ _ _ _ _ _ (s9.trans n9) (SqT.of upd_same) ⟨p9, _, rfl, (SqT.of ep9).same n9, Same.seq n9 (SqL.of e9)⟩ ⟨p2, _, rfl, (hp2.same s9).same n9, Same.seq n9 (Same.seq s9 hl2)⟩ ⟨un.inv hlt, len1, len2, zer1, zer2, _, _, bda, bdb, by lia, by lia, by lia⟩
     · refine iteFc (decide_eq_false hlt) ⟨_, rfl, _, rfl, P2, fun t9 ht9 => ?_⟩
       have n9 := Same.new (o := .tup [.ref p2, .ref p9]) ht9
       exact q t9 _ _ _ _ _ _ _ (s9.trans n9) (SqT.of upd_same) ⟨p2, _, rfl, (hp2.same s9).same n9, Same.seq n9 (Same.seq s9 hl2)⟩ ⟨p9, _, rfl, (SqT.of ep9).same n9, Same.seq n9 (SqL.of e9)⟩ ⟨un.turn hlt, len2, len1, zer2, zer1, _, _, bdb, bda, by lia, by lia, by lia⟩
   · -- both
     refine ⟨_, rfl, rfl, _, rfl, iteFc (decide_eq_false fun z => h1 (V.int.inj z)) (iteF ?_)⟩
     refine ⟨_, rfl, rfl, _, rfl, iteTc (by rw [decide_eq_false fun z => h1 (V.int.inj z)]; rfl) ⟨_, rfl, rfl, _, rfl, iteTc (by rw [decide_eq_false fun z => h2 (V.int.inj z)]; rfl) ?_⟩⟩
     refine ⟨_, rfl, p2, _, _, _, rfl, rfl, hp2.same s2, rfl, ?_⟩
     refine lc_of ⟨_, rfl, p1, _, _, _, rfl, rfl, hp1.same s2, rfl, _, rfl, p2, _, _, _, rfl, rfl, hp2.same s2, rfl, l1, l2, ts1.map V.int, ts2.map V.int, rfl, Same.seq s2 hl1, Same.seq s2 hl2, ?_⟩
     have tl1 : (ts1.map V.int).length = 2 * R := by rw [List.length_map]; exact I.l1
     have tl2 : (ts2.map V.int).length = 2 * R := by rw [List.length_map]; exact I.l2
     have hmin : min (ts1.map V.int).length (ts2.map V.int).length = 2 * R := by lia
     refine lc_zip (xs := ts1.map V.int) (ys := ts2.map V.int) (L5 H2 L1 ts2 L2 ts1 fun H2 L1 ts2 L2 ts1 i zs G => Same H2 G ∧ zs = ((List.range i).map fun k => L1 * ts2.getD k 0 - L2 * ts1.getD k 0).map V.int) ⟨Same.refl _, rfl⟩ (fun i zs G _ h => ⟨Same.seq (s2.trans h.1) hl1, Same.seq (s2.trans h.1) hl2, by rw [h.2, List.length_map, List.length_map, List.length_range]⟩) (Nat.le_of_lt (small1000 (by lia))) ?_ ?_
     · rintro i u1 u2 T zs G hu1 hu2 hT ⟨sg, rfl⟩
       have hi : i < 2 * R := by have := (List.getElem?_eq_some_iff.mp hu1).1; lia
       have g1 : ts1[i]? = some (ts1.getD i 0) := by rw [List.getD_eq_getElem?_getD, List.getElem?_eq_getElem (by have := I.l1; lia)]; rfl
       have g2 : ts2[i]? = some (ts2.getD i 0) := by rw [List.getD_eq_getElem?_getD, List.getElem?_eq_getElem (by have := I.l2; lia)]; rfl
       rw [List.getElem?_map, g1] at hu1
       rw [List.getElem?_map, g2] at hu2
       cases hu1
       cases hu2
       refine ⟨_, rfl, _, rfl, _, _, rfl, rfl, MulC.bd bL1 (getD_bd ba2 i) (by lia), _, rfl, _, rfl, _, _, rfl, rfl, MulC.bd bL2 (getD_bd ba1 i) (by lia), _, _, rfl, rfl, sg.trans (Same.new hT), ?_⟩
       rw [List.range_succ, List.map_append, List.map_append]
       rfl
     rintro zs G ⟨sg, rfl⟩ m9 hm9
     rw [hmin]
     generalize hms : ((List.range (2 * R)).map fun k => L1 * ts2.getD k 0 - L2 * ts1.getD k 0) = ms
     have msl : ms.length = 2 * R := by rw [← hms, List.length_map, List.length_range]
     have msg : ∀ j, ms.getD j 0 = L1 * ts2.getD j 0 - L2 * ts1.getD j 0 := fun j => by
       rcases Nat.lt_or_ge j (2 * R) with z | z
       · rw [← hms, List.getD_eq_getElem?_getD, List.getElem?_map, List.getElem?_range z]; rfl
       · rw [getD_far (by lia), getD_far (by have := I.l2; lia), getD_far (by have := I.l1; lia), Int.mul_zero, Int.mul_zero]; rfl
     have bms : ∀ t ∈ ms, Bd (a1 + a2 + (c0 + 2)) t := fun t ht => by
       rw [← hms] at ht
       obtain ⟨k, _, rfl⟩ := (List.mem_map.mp ht)
       exact Bd.sub (n := a1 + a2 + (c0 + 1)) ((bL1.mul (getD_bd ba2 k)).mono (by lia)) ((bL2.mul (getD_bd ba1 k)).mono (by lia))
     have hne : ∃ t ∈ ms, t ≠ 0 := by
       have top := RkTop.mix (m := 1) (a := (L1 : Rat)) (b := (L2 : Rat)) I.inv.top2 I.inv.le1 I.inv.lt (ic_ne h1) (N' := ic (ms.take R)) (D' := ic (ms.drop R)) (mix_take (g := 1) R fun j => by rw [Int.one_mul, msg]) (mix_drop (g := 1) R fun j => by rw [Int.one_mul, msg])
       have key : ∀ j, ((ms.getD j 0 : Int) : Rat) ≠ 0 → ∃ t ∈ ms, t ≠ 0 := fun j hj => by
         have h0 : ms.getD j 0 ≠ 0 := fun z => hj (by rw [z]; exact Rat.intCast_zero)
         rcases Nat.lt_or_ge j ms.length with z | z
         · exact ⟨_, getD_mem z, h0⟩
         · exact absurd (getD_far z) h0
       rcases top with ⟨j, _, hj⟩ | ⟨j, _, hj⟩
       · rw [ic_getD, getD_takeI] at hj
         split at hj
         · exact key j hj
         · exact absurd Rat.intCast_zero hj
       · rw [ic_getD, getD_dropI] at hj
         exact key _ hj
     refine ⟨m9, ms, a1 + a2 + (c0 + 2), rfl, SqL.of upd_same, hne, by rw [msl]; lia, bms, fun l8 G8 g us s8 e8 g0 usl husg bus => ⟨P2, fun p8 hp8 => ?_⟩⟩
     have s8 := ((s2.trans sg).trans (Same.new (o := .lst (ms.map V.int)) hm9)).trans s8
     have n8 := Same.new (o := .tup [.int r2, .ref l8]) hp8
     have ep8 : (upd G8 p8 (.tup [.int r2, .ref l8])) p8 = some (.tup [.int r2, .ref l8]) := upd_same
     have e8 := n8 _ _ e8
     have s8 := s8.trans n8
     generalize upd G8 p8 (.tup [.int r2, .ref l8]) = G7 at ep8 e8 s8 ⊢
     have husg : ∀ j, g * us.getD j 0 = L1 * ts2.getD j 0 - L2 * ts1.getD j 0 := fun j => by rw [husg j, msg j]
     have usl : us.length = 2 * R := usl.trans msl
     clear n8 hp8 hne bms msg hms msl sg hm9
     refine ⟨_, rfl, rfl, _, rfl, iteTc (by rw [decide_eq_false fun z => h1 (V.int.inj z)]; rfl) ?_⟩
     refine ⟨_, rfl, p1, _, _, _, rfl, rfl, hp1.same s8, rfl, _, _, rfl, rfl, _, rfl, p1, _, _, _, rfl, rfl, hp1.same s8, rfl, _, rfl, ?_⟩
     refine ⟨l1, rx, ts1, x, a1, nx, rfl, Same.seq s8 hl1, hx.same s8, by rw [I.l1]; lia, by rw [I.l1]; lia, last1, ba1, bx, by lia, fun l9 G9 s9 e9 b9 => ⟨P2, fun p9 hp9 => ?_⟩⟩
     have s9G := s9.trans (Same.new (o := .tup [.int (r1 + 2), .ref l9]) hp9)
     have s9 := s8.trans s9
     have n9 := Same.new (o := .tup [.int (r1 + 2), .ref l9]) hp9
     have ep9 : (upd G9 p9 (.tup [.int (r1 + 2), .ref l9])) p9 = some (.tup [.int (r1 + 2), .ref l9]) := upd_same
     have e9 := n9 _ _ e9
     have s9 := s9.trans n9
     generalize upd G9 p9 (.tup [.int (r1 + 2), .ref l9]) = G at ep9 e9 s9 s9G ⊢
     clear n9 hp9
     have un := I.inv.stepC (y := y) (s := (((y.den : Int) * (x.den : Int) ^ R : Int) : Rat)) den0 denx (ic_ne h1) (ic_ne g0) eL1 eL2 (shf_take I.l1 hR1 z1a) (shf_drop I.l1 hR1 z1a z1b) (mix_take R husg) (mix_drop R husg)
     have len1 := (shI_length x.num x.den ts1).trans I.l1
     have len2 := usl
     have zer1 : ∀ j, (ps ++ [(x, y)]).length + 1 ≤ j → j < R → (shI x.num x.den ts1).getD j 0 = 0 ∧ (shI x.num x.den ts1).getD (R + j) 0 = 0 := by rw [List.length_append]; exact shI_zero (c := x.num) (d := x.den) I.z1
     have zer2 : ∀ j, (ps ++ [(x, y)]).length + 1 ≤ j → j < R → us.getD j 0 = 0 ∧ us.getD (R + j) 0 = 0 := fun j h hj => by
       rw [List.length_append] at h
       have q1 := I.z1 j (by lia) hj
       have q2 := I.z2 j (by lia) hj
       exact ⟨mix_zero g0 husg q1.1 q2.1, mix_zero g0 husg q1.2 q2.2⟩
     have bda := b9
     have bdb := bus
     have sG : Same G7 G := s9G
     refine ⟨_, rfl, p9, _, _, _, rfl, rfl, SqT.of ep9, rfl, _, rfl, p8, _, _, _, rfl, rfl, (SqT.of (K := K) ep8).same sG, rfl, _, _, rfl, rfl, _, rfl, ?_⟩
     by_cases hlt : r1 + 2 < r2
     · refine iteTc (decide_eq_true hlt) ⟨_, rfl, _, rfl, P2, fun t9 ht9 => ?_⟩
       have n9 := Same.new (o := .tup [.ref p9, .ref p8]) ht9
       exact q t9 _ _ _ _ _ _ _ (s9.trans n9) (SqT.of upd_same) ⟨p9, _, rfl, (SqT.of ep9).same n9, Same.seq n9 (SqL.of e9)⟩ ⟨p8, _, rfl, ((SqT.of (K := K) ep8).same sG).same n9, Same.seq n9 (Same.seq sG (SqL.of (K := K) e8))⟩ ⟨un.inv hlt, len1, len2, zer1, zer2, _, _, bda, bdb, by lia, by lia, by lia⟩
     · refine iteFc (decide_eq_false hlt) ⟨_, rfl, _, rfl, P2, fun t9 ht9 => ?_⟩
       have n9 := Same.new (o := .tup [.ref p8, .ref p9]) ht9
       exact q t9 _ _ _ _ _ _ _ (s9.trans n9) (SqT.of upd_same) ⟨p8, _, rfl, ((SqT.of (K := K) ep8).same sG).same n9, Same.seq n9 (Same.seq sG (SqL.of (K := K) e8))⟩ ⟨p9, _, rfl, (SqT.of ep9).same n9, Same.seq n9 (SqL.of e9)⟩ ⟨un.turn hlt, len2, len1, zer2, zer1, _, _, bdb, bda, by lia, by lia, by lia⟩
theorem sc_pair_through : FnScope ["places", "heights", "width", "room", "first", "second", "both", "x", "y", "tops"] ["places", "heights", "width"] (defScope (top 36)) := ⟨rfl, rfl, rfl, by decide +kernel, rfl, by decide +kernel, by decide +kernel⟩
set_option maxHeartbeats 4000000 in
theorem ok_pair_through {f : Addr} {fd : FuncData} (F : Fun K "pair_through" "pair_through" (top 36) f fd) (F_both_with : Fd P w K mg base 35 "both_with" ["both", "x", "y"] (spBoth K)) (F_curve_over : Fd P w K mg base 35 "curve_over" ["tops", "bottom"] (spCurveOver K)) (b_zip : mg "zip" = none) (b_len : mg "len" = none) (hT : P.given.tree = none) :
   FnOk P w K mg base CX0 36 f fd ["places", "heights", "width"] (spPair K) := by
 refine F.ok sc_pair_through (fun vs H Q E h => ?_) (fun cdv A outer s H vs Q E hr h => ?_)
 · obtain ⟨_, _, _, _, _, _, _, _, _, _, _, rfl, _⟩ := h; rfl
 refine ⟨_, (@pss_consC _ _ _ _ _ K _ (@ps_set _ _ 3 _ _ _ _ sc_pair_through.nd rfl (Or.inl rfl) (@pe_op _ _ _ _ _ _ _ _ op_add (@pe_callB _ _ _ _ _ _ _ _ _ (lenK K) rfl b_len bt_len (@pa_cons _ _ _ _ _ (pv 0) pa_nil (by rfl)) (by decide) (by decide) (by rfl) (by rfl)) pe_int) (by rfl) (by first   | exact .inl rfl   | exact .inr rfl   | assumption)) (@pss_consC _ _ _ _ _ K _ (@ps_set _ _ 4 _ _ _ _ sc_pair_through.nd rfl (Or.inl rfl) (@pe_tup _ _ _ _ _ (@pa_cons _ _ _ _ _ (@pe_op _ _ _ _ _ _ _ _ op_mulC pe_int (@pe_op _ _ _ _ _ _ _ _ op_sub pe_int (pv 2))) (@pa_cons _ _ _ _ _ (@pe_op _ _ _ _ _ _ _ _ op_cat (@pe_lst _ _ _ _ (@pa_cons _ _ _ _ _ pe_int pa_nil (by rfl))) (@pe_op _ _ _ _ _ _ _ _ op_rep (@pe_lst _ _ _ _ (@pa_cons _ _ _ _ _ pe_int pa_nil (by rfl))) (@pe_op _ _ _ _ _ _ _ _ op_sub (@pe_op _ _ _ _ _ _ _ _ op_mulC pe_int (pv 3)) pe_int))) pa_nil (by rfl)) (by rfl))) (by rfl) (by first   | exact .inl rfl   | exact .inr rfl   | assumption)) (@pss_consC _ _ _ _ _ K _ (@ps_set _ _ 5 _ _ _ _ sc_pair_through.nd rfl (Or.inl rfl) (@pe_tup _ _ _ _ _ (@pa_cons _ _ _ _ _ (@pe_op _ _ _ _ _ _ _ _ op_add (@pe_op _ _ _ _ _ _ _ _ op_mulC pe_int (@pe_op _ _ _ _ _ _ _ _ op_sub pe_int (@pe_op _ _ _ _ _ _ _ _ op_sub (pv 3) (pv 2)))) pe_int) (@pa_cons _ _ _ _ _ (@pe_op _ _ _ _ _ _ _ _ op_cat (@pe_op _ _ _ _ _ _ _ _ op_cat (@pe_op _ _ _ _ _ _ _ _ op_rep (@pe_lst _ _ _ _ (@pa_cons _ _ _ _ _ pe_int pa_nil (by rfl))) (pv 3)) (@pe_lst _ _ _ _ (@pa_cons _ _ _ _ _ pe_int pa_nil (by rfl)))) (@pe_op _ _ _ _ _ _ _ _ op_rep (@pe_lst _ _ _ _ (@pa_cons _ _ _ _ _ pe_int pa_nil (by rfl))) (@pe_op _ _ _ _ _ _ _ _ op_sub (pv 3) pe_int))) pa_nil (by rfl)) (by rfl))) (by rfl) (by first   | exact .inl rfl   | exact .inr rfl   | assumption)) (@pss_consC _ _ _ _ _ K _ (@ps_set _ _ 6 _ _ _ _ sc_pair_through.nd rfl (Or.inl rfl) (@pe_ifExp _ _ _ _ _ _ _ _ (@pt_cmpR _ _ _ _ _ _ _ _ op_lt (@pe_ix _ _ _ _ _ _ _ (ixT K) (pv 4) pe_int (fun u v => rfl)) (@pe_ix _ _ _ _ _ _ _ (ixT K) (pv 5) pe_int (fun u v => rfl)) (nomark _)) (@pe_tup _ _ _ _ _ (@pa_cons _ _ _ _ _ (pv 4) (@pa_cons _ _ _ _ _ (pv 5) pa_nil (by rfl)) (by rfl))) (@pe_tup _ _ _ _ _ (@pa_cons _ _ _ _ _ (pv 5) (@pa_cons _ _ _ _ _ (pv 4) pa_nil (by rfl)) (by rfl)))) (by rfl) (by first   | exact .inl rfl   | exact .inr rfl   | assumption)) (@pss_consC _ _ _ _ _ K _ (@ps_forC _ _ _ _ _ _ _ _ K _ PassesOwn.never rfl (@piZip _ K _ _ _ _ _ _ _ _ rfl b_zip (@pa_cons _ _ _ _ _ (pv 0) (@pa_cons _ _ _ _ _ (pv 1) pa_nil (by rfl)) (by rfl)) (by rfl) (by rfl) (by rfl)) (@pgT _ K _ _ _ 2 _ rfl (pgs_cons (@pg_name _ _ 7 _ sc_pair_through.nd rfl (Or.inl rfl) (by first   | exact .inl rfl   | exact .inr rfl   | assumption)) (pgs_cons (@pg_name _ _ 8 _ sc_pair_through.nd rfl (Or.inl rfl) (by first   | exact .inl rfl   | exact .inr rfl   | assumption)) pgs_nil)) (by rfl) (by rfl) (by rfl)) (@pss_one _ _ _ (@ps_set _ _ 6 _ _ _ _ sc_pair_through.nd rfl (Or.inl rfl) (@pe_fn _ _ _ _ _ _ _ _ _ _ _ F_both_with hr rfl (@pa_cons _ _ _ _ _ (pv 6) (@pa_cons _ _ _ _ _ (pv 7) (@pa_cons _ _ _ _ _ (pv 8) pa_nil (by rfl)) (by rfl)) (by rfl)) (by decide) (by decide) (by rfl) (by rfl)) (by rfl) (by first   | exact .inl rfl   | exact .inr rfl   | assumption))) (by rfl) (by intro _; rfl)) (@pss_consC _ _ _ _ _ K _ (@ps_set _ _ 9 _ _ _ _ sc_pair_through.nd rfl (Or.inl rfl) (@pe_ix _ _ _ _ _ _ _ (ixT K) (@pe_ix _ _ _ _ _ _ _ (ixT K) (pv 6) pe_int (fun u v => rfl)) pe_int (fun u v => rfl)) (by rfl) (by first   | exact .inl rfl   | exact .inr rfl   | assumption)) (@pss_one _ _ _ (@ps_ret _ _ _ _ (@pe_tup _ _ _ _ _ (@pa_cons _ _ _ _ _ (@pe_fn _ _ _ _ _ _ _ _ _ _ _ F_curve_over hr rfl (@pa_cons _ _ _ _ _ (@pe_slice _ _ _ _ _ _ _ _ _ _ (slL K) (pv 9) po_none (@po_some _ _ _ (pv 3))) (@pa_cons _ _ _ _ _ pe_int pa_nil (by rfl)) (by rfl)) (by decide) (by decide) (by rfl) (by rfl)) (@pa_cons _ _ _ _ _ (@pe_fn _ _ _ _ _ _ _ _ _ _ _ F_curve_over hr rfl (@pa_cons _ _ _ _ _ (@pe_slice _ _ _ _ _ _ _ _ _ _ (slL K) (pv 9) (@po_some _ _ _ (pv 3)) po_none) (@pa_cons _ _ _ _ _ pe_int pa_nil (by rfl)) (by rfl)) (by decide) (by decide) (by rfl) (by rfl)) pa_nil (by rfl)) (by rfl))))) (by rfl)) (by rfl)) (by rfl)) (by rfl)) (by rfl)) (by rfl)), ?_⟩
 obtain ⟨lp, lh, zs, ys, qs, hs, W, n, nx, ny, C, rfl, hP, hZ, hH, hY, hql, hhl, hn1, hn12, hnd, hW1, hWn, bq, bh, hC, hG, q⟩ := h
 have P1 : 1 ≤ sizeLine := by decide
 have P2 : 2 ≤ sizeLine := by decide
 have P60 : 60 ≤ sizeLine := by decide
 have hzl := hZ.length
 refine ⟨_, rfl, lp, _, rfl, .inl hP, _, _, rfl, rfl, ?_⟩
 have eR : ((zs.length : Nat) : Int) + 1 = ((n + 1 : Nat) : Int) := by lia
 rw [eR]
 refine ⟨_, rfl, _, _, rfl, rfl, _, _, rfl, rfl, .inl ⟨by decide, by decide⟩, P1, fun o1 ho1 => ⟨P1, fun o2 ho2 => ?_⟩⟩
 have n1 := Same.new (o := .lst [.int 1]) ho1
 have n2 := Same.new (o := .lst [.int 0]) ho2
 refine ⟨_, rfl, _, _, rfl, rfl, .inl ⟨by decide, by decide⟩, _, _, rfl, rfl, o2, _, [.int 0], rfl, rfl, upd_same, by lia, by lia, Nat.le_trans (show _ ≤ 60 by show 1 * _ ≤ 60; lia) P60, fun o3 ho3 => ?_⟩
 have e3 : (List.replicate (2 * ((n + 1 : Nat) : Int) - 1).toNat [V.int 0]).flatten = (List.replicate (2 * (n + 1) - 1) (0 : Int)).map V.int := by rw [show (2 * ((n + 1 : Nat) : Int) - 1).toNat = 2 * (n + 1) - 1 by lia, rep0]
 rw [e3]
 have n3 := Same.new (o := .lst ((List.replicate (2 * (n + 1) - 1) (0 : Int)).map V.int)) ho3
 refine ⟨o1, o3, [.int 1], _, rfl, rfl, n3 _ _ (n2 _ _ upd_same), upd_same, Nat.le_trans (show _ ≤ 60 by rw [List.length_singleton, List.length_map, List.length_replicate]; lia) P60, fun k1 hk1 => ⟨P2, fun f1 hf1 => ?_⟩⟩
 have n4 := Same.new (o := .lst ([V.int 1] ++ (List.replicate (2 * (n + 1) - 1) (0 : Int)).map V.int)) hk1
 have n5 := Same.new (o := .tup [.int (2 * (1 - (W : Int))), .ref k1]) hf1
 have sF := (((n1.trans n2).trans n3).trans n4).trans n5
 have ek1 := n5 _ _ (upd_same (H := upd (upd (upd H o1 (.lst [.int 1])) o2 (.lst [.int 0])) o3 (.lst ((List.replicate (2 * (n + 1) - 1) (0 : Int)).map V.int))) (a := k1) (o := .lst ([V.int 1] ++ (List.replicate (2 * (n + 1) - 1) (0 : Int)).map V.int)))
 have ef1 := upd_same (H := upd (upd (upd (upd H o1 (.lst [.int 1])) o2 (.lst [.int 0])) o3 (.lst ((List.replicate (2 * (n + 1) - 1) (0 : Int)).map V.int))) k1 (.lst ([V.int 1] ++ (List.replicate (2 * (n + 1) - 1) (0 : Int)).map V.int))) (a := f1) (o := .tup [.int (2 * (1 - (W : Int))), .ref k1])
 generalize upd (upd (upd (upd (upd H o1 (.lst [.int 1])) o2 (.lst [.int 0])) o3 (.lst ((List.replicate (2 * (n + 1) - 1) (0 : Int)).map V.int))) k1 (.lst ([V.int 1] ++ (List.replicate (2 * (n + 1) - 1) (0 : Int)).map V.int))) f1 (.tup [.int (2 * (1 - (W : Int))), .ref k1]) = HF at sF ek1 ef1 ⊢
 have ek1 : HF k1 = some (.lst ((first0 (n + 1)).map V.int)) := ek1
 clear n1 n2 n3 n4 n5 e3 ho1 ho2 ho3 hk1 hf1
 refine ⟨_, rfl, _, rfl, _, _, rfl, rfl, _, _, rfl, rfl, _, _, rfl, rfl, .inl ⟨by decide, by decide⟩, _, _, rfl, rfl, P1, fun o5 ho5 => ?_⟩
 have s8 := Same.new (o := .lst [.int 0]) ho5
 have e5 := upd_same (H := HF) (a := o5) (o := .lst [.int 0])
 generalize upd HF o5 (.lst [.int 0]) = A1 at s8 e5 ⊢
 refine ⟨_, rfl, o5, _, [.int 0], rfl, rfl, e5, by lia, by lia, Nat.le_trans (show _ ≤ 60 by show 1 * _ ≤ 60; lia) P60, fun o6 ho6 => ?_⟩
 rw [Int.toNat_natCast, rep0]
 have s8 := s8.trans (Same.new (o := .lst ((List.replicate (n + 1) (0 : Int)).map V.int)) ho6)
 have e6 := upd_same (H := A1) (a := o6) (o := .lst ((List.replicate (n + 1) (0 : Int)).map V.int))
 generalize upd A1 o6 (.lst ((List.replicate (n + 1) (0 : Int)).map V.int)) = A2 at s8 e6 ⊢
 refine ⟨P1, fun o7 ho7 => ?_⟩
 have n3 := Same.new (o := .lst [.int 1]) ho7
 have e7 := upd_same (H := A2) (a := o7) (o := .lst [.int 1])
 have e6 := n3 _ _ e6
 have s8 := s8.trans n3
 generalize upd A2 o7 (.lst [.int 1]) = A3 at s8 e6 e7 ⊢
 refine ⟨o6, o7, _, _, rfl, rfl, e6, e7, Nat.le_trans (show _ ≤ 60 by rw [List.length_singleton, List.length_map, List.length_replicate]; lia) P60, fun o8 ho8 => ?_⟩
 have s8 := s8.trans (Same.new (o := .lst ((List.replicate (n + 1) (0 : Int)).map V.int ++ [V.int 1])) ho8)
 have e8 := upd_same (H := A3) (a := o8) (o := .lst ((List.replicate (n + 1) (0 : Int)).map V.int ++ [V.int 1]))
 generalize upd A3 o8 (.lst ((List.replicate (n + 1) (0 : Int)).map V.int ++ [V.int 1])) = A4 at s8 e8 ⊢
 refine ⟨P1, fun o9 ho9 => ?_⟩
 have n5 := Same.new (o := .lst [.int 0]) ho9
 have e9 := upd_same (H := A4) (a := o9) (o := .lst [.int 0])
 have e8 := n5 _ _ e8
 have s8 := s8.trans n5
 generalize upd A4 o9 (.lst [.int 0]) = A5 at s8 e8 e9 ⊢
 refine ⟨_, rfl, _, _, rfl, rfl, o9, _, [.int 0], rfl, rfl, e9, by lia, by lia, Nat.le_trans (show _ ≤ 60 by show 1 * _ ≤ 60; lia) P60, fun o10 ho10 => ?_⟩
 have e10 : (List.replicate (((n + 1 : Nat) : Int) - 1).toNat [V.int 0]).flatten = (List.replicate (n + 1 - 1) (0 : Int)).map V.int := by rw [show (((n + 1 : Nat) : Int) - 1).toNat = n + 1 - 1 by lia, rep0]
 rw [e10]
 have n6 := Same.new (o := .lst ((List.replicate (n + 1 - 1) (0 : Int)).map V.int)) ho10
 have e8 := n6 _ _ e8
 have ea := upd_same (H := A5) (a := o10) (o := .lst ((List.replicate (n + 1 - 1) (0 : Int)).map V.int))
 have s8 := s8.trans n6
 generalize upd A5 o10 (.lst ((List.replicate (n + 1 - 1) (0 : Int)).map V.int)) = A6 at s8 e8 ea ⊢
 refine ⟨o8, o10, _, _, rfl, rfl, e8, ea, Nat.le_trans (show _ ≤ 60 by rw [List.length_append, List.length_singleton, List.length_map, List.length_replicate, List.length_map, List.length_replicate]; lia) P60, fun k2 hk2 => ?_⟩
 have esec : (List.replicate (n + 1) (0 : Int)).map V.int ++ [V.int 1] ++ (List.replicate (n + 1 - 1) (0 : Int)).map V.int = (second0 (n + 1)).map V.int := by unfold second0; rw [List.map_append, List.map_append]; rfl
 rw [esec]
 have s8 := s8.trans (Same.new (o := .lst ((second0 (n + 1)).map V.int)) hk2)
 have ek2 := upd_same (H := A6) (a := k2) (o := .lst ((second0 (n + 1)).map V.int))
 generalize upd A6 k2 (.lst ((second0 (n + 1)).map V.int)) = A7 at s8 ek2 ⊢
 refine ⟨P2, fun f2 hf2 => ?_⟩
 have n8 := Same.new (o := .tup [.int (2 * (1 - (((n + 1 : Nat) : Int) - (W : Int))) + 1), .ref k2]) hf2
 have ef2 := upd_same (H := A7) (a := f2) (o := .tup [.int (2 * (1 - (((n + 1 : Nat) : Int) - (W : Int))) + 1), .ref k2])
 have ek2 := n8 _ _ ek2
 have s8 := s8.trans n8
 generalize upd A7 f2 (.tup [.int (2 * (1 - (((n + 1 : Nat) : Int) - (W : Int))) + 1), .ref k2]) = HG at s8 ek2 ef2 ⊢
 have sG := sF.trans s8
 have ef1 := s8 _ _ ef1
 have ek1 := s8 _ _ ek1
 clear n3 n5 n6 n8 esec e10 sF s8
 have er2 : (2 * (1 - (((n + 1 : Nat) : Int) - (W : Int))) + 1) = 2 * (1 - ((n : Int) + 1 - W)) + 1 := by lia
 rw [er2] at ef2
 have un := pun0 (n := n) hW1 hWn
 refine ⟨_, rfl, f1, _, _, _, rfl, rfl, SqT.of ef1, rfl, _, rfl, f2, _, _, _, rfl, rfl, SqT.of ef2, rfl, _, _, rfl, rfl, _, rfl, ?_⟩
 by_cases hlt : 2 * (1 - (W : Int)) < 2 * (1 - ((n : Int) + 1 - W)) + 1
 · refine iteTc (decide_eq_true hlt) ⟨_, rfl, _, rfl, P2, fun b0 hb0 => ?_⟩
   have nb := Same.new (o := .tup [.ref f1, .ref f2]) hb0
   obtain ⟨va, vb, ra, rb, Ta, Tb, hb0, R1, R2, S0⟩ : ∃ (va vb : V) (ra rb : Int) (Ta Tb : List Int), SqT K (upd HG b0 (.tup [.ref f1, .ref f2])) b0 [va, vb] ∧ Rpr K (upd HG b0 (.tup [.ref f1, .ref f2])) va ra Ta ∧ Rpr K (upd HG b0 (.tup [.ref f1, .ref f2])) vb rb Tb ∧ PSt (W : Int) ((n : Int) + 1 - W) n (n + 1) ((qs.zip hs).take 0) (gAS C 0).1 (gAS C 0).2 ra Ta rb Tb :=
     ⟨_, _, _, _, _, _, SqT.of upd_same, ⟨f1, k1, rfl, SqT.of (nb _ _ ef1), SqL.of (nb _ _ ek1)⟩, ⟨f2, k2, rfl, SqT.of (nb _ _ ef2), SqL.of (nb _ _ ek2)⟩, ⟨un.inv hlt, first_length n, second_length n, first_zero n, second_zero n, 1, 1, first_bd _, second_bd _, Nat.le_refl 1, Nat.le_refl 1, Nat.le_refl 2⟩⟩
   have sB := sG.trans nb
   generalize upd HG b0 (.tup [.ref f1, .ref f2]) = H0 at sB hb0 R1 R2 ⊢
   refine ⟨_, rfl, _, rfl, lp, lh, zs, ys, rfl, Same.seq sB hP, Same.seq sB hH, for_zip (xs := zs) (ys := ys) (L11 H lp lh W n f1 f2 K qs hs C fun H lp lh W n f1 f2 K qs hs C i σ G => Same H G ∧ ∃ (b : Addr) (va vb : V) (ra rb : Int) (Ta Tb : List Int) (z7 z8 : Option V), σ = [some (.ref lp), some (.ref lh), some (.int (W : Int)), some (.int ((n + 1 : Nat) : Int)), some (.ref f1), some (.ref f2), some (.ref b), z7, z8, none] ∧ SqT K G b [va, vb] ∧ Rpr K G va ra Ta ∧ Rpr K G vb rb Tb ∧ PSt (W : Int) ((n : Int) + 1 - W) n (n + 1) ((qs.zip hs).take i) (gAS C i).1 (gAS C i).2 ra Ta rb Tb) ⟨sB, b0, va, vb, ra, rb, Ta, Tb, none, none, rfl, hb0, R1, R2, S0⟩ (fun i σ G _ h => ⟨Same.seq h.1 hP, Same.seq h.1 hH⟩) ?_ ?_⟩
   · rintro i x y T σ G hx hy hT hR1
     refine anE2 hR1 fun sg hz67 => ?_
     refine exE9 hz67 fun b va vb ra rb Ta Tb z7 z8 hz67' => ?_
     clear hz67
     refine anE5 hz67' fun hq66 hb R1 R2 S => ?_
     clear hz67'
     obtain rfl := hq66
     try clear hR1
     obtain ⟨qx, hqx, rx, rfl, hrx⟩ := (Paired.get hZ hx)
     obtain ⟨hv, hhv, ry, rfl, hry⟩ := (Paired.get hY hy)
     have hi : i < n := by have := (List.getElem?_eq_some_iff.mp hqx).1; lia
     have nT := Same.new (o := .tup [.ref rx, .ref ry]) hT
     have sT := sg.trans nT
     refine ⟨T, _, rfl, SqT.of upd_same, rfl, _, _, rfl, _, _, rfl, rfl, ?_⟩
     have ezip : (qs.zip hs)[i]? = some (qx, hv) := by rw [List.getElem?_zip_eq_some]; exact ⟨hqx, hhv⟩
     have etake : (qs.zip hs).take (i + 1) = (qs.zip hs).take i ++ [(qx, hv)] := by rw [List.take_add_one, ezip]; rfl
     have hlen : ((qs.zip hs).take i).length = i := by rw [List.length_take, List.length_zip]; lia
     have hm := gAS_mono C (i := i) (n := n) (by lia)
     have hl := gAS_le C i
     refine ⟨_, rfl, _, rfl, _, rfl, b, rx, ry, va, vb, ra, rb, Ta, Tb, (W : Int), (n : Int) + 1 - W, n, n + 1, (qs.zip hs).take i, (gAS C i).1, (gAS C i).2, C, nx, ny, qx, hv, rfl, hb.same nT, R1.same nT, R2.same nT, S, rfl, by lia, NumV.same ⟨rx, rfl, hrx⟩ sT, NumV.same ⟨ry, rfl, hry⟩ sT, bq qx (List.mem_of_getElem? hqx), bh hv (List.mem_of_getElem? hhv), ?_, by lia, hn12, hC, by lia, by lia, fun b' G' v1' v2' r1' r2' us1 us2 s' hb' R1' R2' S' => ?_⟩
     · rw [← etake, List.map_take, List.map_fst_zip (by lia)]
       exact (List.take_sublist _ _).nodup hnd
     · refine ⟨sT.trans s', b', v1', v2', r1', r2', us1, us2, _, _, rfl, hb', R1', R2', ?_⟩
       rw [etake]
       exact S'
   rintro σ G hR2
   refine anE2 hR2 fun sg hz74 => ?_
   refine exE9 hz74 fun b va vb ra rb Ta Tb z7 z8 hz74' => ?_
   clear hz74
   refine anE5 hz74' fun hq72 hb hq73 R2 S => ?_
   clear hz74'
   obtain rfl := hq72
   refine exE2 hq73 fun pa la hz76' => ?_
   refine anE3 hz76' fun hq75 hpa hla => ?_
   clear hz76'
   obtain rfl := hq75
   try clear hR2
   have hmin : min zs.length ys.length = n := by rw [hZ.length, hY.length]; lia
   rw [hmin, List.take_of_length_le (by rw [List.length_zip]; lia)] at S
   have hR := S.l1
   refine exE2 S.bd fun a1 a2 hz77' => ?_
   refine anE5 hz77' fun ba1 ba2 hA1 hA2 hAS => ?_
   clear hz77'
   have hgl := gAS_le C n
   refine ⟨_, rfl, b, _, _, _, rfl, rfl, hb, rfl, pa, _, _, _, rfl, rfl, hpa, rfl, ?_⟩
   refine ⟨_, rfl, _, rfl, _, rfl, la, _, rfl, hla, fun s1 hs1 => ?_⟩
   have c1 : cutV (Ta.map V.int) none (some ((n + 1 : Nat) : Int)) = (Ta.take (n + 1)).map V.int := by rw [cut_to, List.map_take]
   rw [c1]
   have n1 := Same.new (o := .lst ((Ta.take (n + 1)).map V.int)) hs1
   refine ⟨s1, Ta.take (n + 1), 1, rfl, SqL.of upd_same, by decide, by rw [List.length_take]; lia, fun pN G1 sN cN => ?_⟩
   have sgN := n1.trans sN
   refine ⟨_, rfl, _, rfl, _, rfl, la, _, rfl, Same.seq sgN hla, fun s2 hs2 => ?_⟩
   have c2 : cutV (Ta.map V.int) (some ((n + 1 : Nat) : Int)) none = (Ta.drop (n + 1)).map V.int := by rw [cut_from, List.map_drop]
   rw [c2]
   have n2 := Same.new (o := .lst ((Ta.drop (n + 1)).map V.int)) hs2
   refine ⟨s2, Ta.drop (n + 1), 1, rfl, SqL.of upd_same, by decide, by rw [List.length_drop]; lia, fun pD G2 sD cD => ⟨P2, fun t ht => ?_⟩⟩
   have n3 := Same.new (o := .tup [.ref pN, .ref pD]) ht
   rw [ic_one] at cN cD
   refine q t pN pD _ ra rb _ _ _ _ ((((sg.trans sgN).trans n2).trans sD).trans n3) (SqT.of upd_same) (((cN.same n2).same sD).same n3) (cD.same n3) ?_ ?_ S.inv
   · exact ic_bd (fun t ht => ba1 t (List.mem_of_mem_take ht)) (by lia)
   · exact ic_bd (fun t ht => ba1 t (List.mem_of_mem_drop ht)) (by lia)
 · refine iteFc (decide_eq_false hlt) ⟨_, rfl, _, rfl, P2, fun b0 hb0 => ?_⟩
   have nb := Same.new (o := .tup [.ref f2, .ref f1]) hb0
   obtain ⟨va, vb, ra, rb, Ta, Tb, hb0, R1, R2, S0⟩ : ∃ (va vb : V) (ra rb : Int) (Ta Tb : List Int), SqT K (upd HG b0 (.tup [.ref f2, .ref f1])) b0 [va, vb] ∧ Rpr K (upd HG b0 (.tup [.ref f2, .ref f1])) va ra Ta ∧ Rpr K (upd HG b0 (.tup [.ref f2, .ref f1])) vb rb Tb ∧ PSt (W : Int) ((n : Int) + 1 - W) n (n + 1) ((qs.zip hs).take 0) (gAS C 0).1 (gAS C 0).2 ra Ta rb Tb :=
     ⟨_, _, _, _, _, _, SqT.of upd_same, ⟨f2, k2, rfl, SqT.of (nb _ _ ef2), SqL.of (nb _ _ ek2)⟩, ⟨f1, k1, rfl, SqT.of (nb _ _ ef1), SqL.of (nb _ _ ek1)⟩, ⟨un.turn hlt, second_length n, first_length n, second_zero n, first_zero n, 1, 1, second_bd _, first_bd _, Nat.le_refl 1, Nat.le_refl 1, Nat.le_refl 2⟩⟩
   have sB := sG.trans nb
   generalize upd HG b0 (.tup [.ref f2, .ref f1]) = H0 at sB hb0 R1 R2 ⊢
   refine ⟨_, rfl, _, rfl, lp, lh, zs, ys, rfl, Same.seq sB hP, Same.seq sB hH, for_zip (xs := zs) (ys := ys) (L11 H lp lh W n f1 f2 K qs hs C fun H lp lh W n f1 f2 K qs hs C i σ G => Same H G ∧ ∃ (b : Addr) (va vb : V) (ra rb : Int) (Ta Tb : List Int) (z7 z8 : Option V), σ = [some (.ref lp), some (.ref lh), some (.int (W : Int)), some (.int ((n + 1 : Nat) : Int)), some (.ref f1), some (.ref f2), some (.ref b), z7, z8, none] ∧ SqT K G b [va, vb] ∧ Rpr K G va ra Ta ∧ Rpr K G vb rb Tb ∧ PSt (W : Int) ((n : Int) + 1 - W) n (n + 1) ((qs.zip hs).take i) (gAS C i).1 (gAS C i).2 ra Ta rb Tb) ⟨sB, b0, va, vb, ra, rb, Ta, Tb, none, none, rfl, hb0, R1, R2, S0⟩ (fun i σ G _ h => ⟨Same.seq h.1 hP, Same.seq h.1 hH⟩) ?_ ?_⟩
   · rintro i x y T σ G hx hy hT hR3
     refine anE2 hR3 fun sg hz79 => ?_
     refine exE9 hz79 fun b va vb ra rb Ta Tb z7 z8 hz79' => ?_
     clear hz79
     refine anE5 hz79' fun hq78 hb R1 R2 S => ?_
     clear hz79'
     obtain rfl := hq78
     try clear hR3
     obtain ⟨qx, hqx, rx, rfl, hrx⟩ := (Paired.get hZ hx)
     obtain ⟨hv, hhv, ry, rfl, hry⟩ := (Paired.get hY hy)
     have hi : i < n := by have := (List.getElem?_eq_some_iff.mp hqx).1; lia
     have nT := Same.new (o := .tup [.ref rx, .ref ry]) hT
     have sT := sg.trans nT
     refine ⟨T, _, rfl, SqT.of upd_same, rfl, _, _, rfl, _, _, rfl, rfl, ?_⟩
     have ezip : (qs.zip hs)[i]? = some (qx, hv) := by rw [List.getElem?_zip_eq_some]; exact ⟨hqx, hhv⟩
     have etake : (qs.zip hs).take (i + 1) = (qs.zip hs).take i ++ [(qx, hv)] := by rw [List.take_add_one, ezip]; rfl
     have hlen : ((qs.zip hs).take i).length = i := by rw [List.length_take, List.length_zip]; lia
     have hm := gAS_mono C (i := i) (n := n) (by lia)
     have hl := gAS_le C i
     refine ⟨_, rfl, _, rfl, _, rfl, b, rx, ry, va, vb, ra, rb, Ta, Tb, (W : Int), (n : Int) + 1 - W, n, n + 1, (qs.zip hs).take i, (gAS C i).1, (gAS C i).2, C, nx, ny, qx, hv, rfl, hb.same nT, R1.same nT, R2.same nT, S, rfl, by lia, NumV.same ⟨rx, rfl, hrx⟩ sT, NumV.same ⟨ry, rfl, hry⟩ sT, bq qx (List.mem_of_getElem? hqx), bh hv (List.mem_of_getElem? hhv), ?_, by lia, hn12, hC, by lia, by lia, fun b' G' v1' v2' r1' r2' us1 us2 s' hb' R1' R2' S' => ?_⟩
     · rw [← etake, List.map_take, List.map_fst_zip (by lia)]
       exact (List.take_sublist _ _).nodup hnd
     · refine ⟨sT.trans s', b', v1', v2', r1', r2', us1, us2, _, _, rfl, hb', R1', R2', ?_⟩
       rw [etake]
       exact S'
   rintro σ G hR4
   refine anE2 hR4 fun sg hz86 => ?_
   refine exE9 hz86 fun b va vb ra rb Ta Tb z7 z8 hz86' => ?_
   clear hz86
   refine anE5 hz86' fun hq84 hb hq85 R2 S => ?_
   clear hz86'
   obtain rfl := hq84
   refine exE2 hq85 fun pa la hz88' => ?_
   refine anE3 hz88' fun hq87 hpa hla => ?_
   clear hz88'
   obtain rfl := hq87
   try clear hR4
   have hmin : min zs.length ys.length = n := by rw [hZ.length, hY.length]; lia
   rw [hmin, List.take_of_length_le (by rw [List.length_zip]; lia)] at S
   have hR := S.l1
   refine exE2 S.bd fun a1 a2 hz89' => ?_
   refine anE5 hz89' fun ba1 ba2 hA1 hA2 hAS => ?_
   clear hz89'
   have hgl := gAS_le C n
   refine ⟨_, rfl, b, _, _, _, rfl, rfl, hb, rfl, pa, _, _, _, rfl, rfl, hpa, rfl, ?_⟩
   refine ⟨_, rfl, _, rfl, _, rfl, la, _, rfl, hla, fun s1 hs1 => ?_⟩
   have c1 : cutV (Ta.map V.int) none (some ((n + 1 : Nat) : Int)) = (Ta.take (n + 1)).map V.int := by rw [cut_to, List.map_take]
   rw [c1]
   have n1 := Same.new (o := .lst ((Ta.take (n + 1)).map V.int)) hs1
   refine ⟨s1, Ta.take (n + 1), 1, rfl, SqL.of upd_same, by decide, by rw [List.length_take]; lia, fun pN G1 sN cN => ?_⟩
   have sgN := n1.trans sN
   refine ⟨_, rfl, _, rfl, _, rfl, la, _, rfl, Same.seq sgN hla, fun s2 hs2 => ?_⟩
   have c2 : cutV (Ta.map V.int) (some ((n + 1 : Nat) : Int)) none = (Ta.drop (n + 1)).map V.int := by rw [cut_from, List.map_drop]
   rw [c2]
   have n2 := Same.new (o := .lst ((Ta.drop (n + 1)).map V.int)) hs2
   refine ⟨s2, Ta.drop (n + 1), 1, rfl, SqL.of upd_same, by decide, by rw [List.length_drop]; lia, fun pD G2 sD cD => ⟨P2, fun t ht => ?_⟩⟩
   have n3 := Same.new (o := .tup [.ref pN, .ref pD]) ht
   rw [ic_one] at cN cD
   refine q t pN pD _ ra rb _ _ _ _ ((((sg.trans sgN).trans n2).trans sD).trans n3) (SqT.of upd_same) (((cN.same n2).same sD).same n3) (cD.same n3) ?_ ?_ S.inv
   · exact ic_bd (fun t ht => ba1 t (List.mem_of_mem_take ht)) (by lia)
   · exact ic_bd (fun t ht => ba1 t (List.mem_of_mem_drop ht)) (by lia)
theorem sc_rising : FnScope ["places", "bottom"] ["places"] (defScope (top 31)) := ⟨rfl, rfl, rfl, by decide +kernel, rfl, by decide +kernel, by decide +kernel⟩
set_option maxHeartbeats 4000000 in
theorem ok_rising {f : Addr} {fd : FuncData} (F : Fun K "rising" "rising" (top 31) f fd) (F_bottom_of : Fd P w K mg base 34 "bottom_of" ["numbers"] (spBot K)) (b_sorted : mg "sorted" = none) (hT : P.given.tree = none) (hbm : Bm mg base) (hl : codeOf K f 194 = true) :
   FnOk P w K mg base CX0 38 f fd ["places"] (spRise K 194) := by
 refine F.okL hl sc_rising (fun vs H Q E h => ?_) (fun cdc A outer s H vs Q E hcd hr h => ?_)
 · obtain ⟨_, _, _, _, rfl, _⟩ := h; rfl
 refine ⟨_, (@pss_consC _ _ _ _ _ K _ (@ps_set _ _ 1 _ _ _ _ sc_rising.nd rfl (Or.inr rfl) (@pe_fn _ _ _ _ _ _ _ _ _ _ _ F_bottom_of hr rfl (@pa_cons _ _ _ _ _ (pv 0) pa_nil (by rfl)) (by decide) (by decide) (by rfl) (by rfl)) (by rfl) (by first   | exact .inl rfl   | exact .inr rfl   | assumption)) (@pss_one _ _ _ (@ps_ret _ _ _ _ (@pe_sortK K _ _ _ _ _ 33 _ _ _ _ hr (fun _ => rfl) rfl b_sorted (pv 0) (@pe_lamD _ _ _ _ (defScope (top 31)) _ _ _ hcd hbm (by rfl) (by rfl) (by decide +kernel) (by rfl)) (by decide) (by rfl) (by rfl)))) (by rfl)), ?_⟩
 obtain ⟨l, xs, qs, n, rfl, hS, hN, hb, hn6, h20, hct, q⟩ := h
 have hxl := hN.length
 have hn22 : n * (qs.length + 2) ≤ 1000000 * 22 := Nat.mul_le_mul hn6 (by lia)
 have hn20 : n * qs.length ≤ 1000000 * 20 := Nat.mul_le_mul hn6 h20
 refine ⟨_, rfl, true, l, xs, qs, n, rfl, hS, hN, fun q hq => (hb q hq).2, by lia, fun B hB hd bB => ?_⟩
 refine ⟨_, rfl, l, rfl, hct, fun f c' cl ctv H2 C hfree LN => ?_⟩
 have hS2 := seqL_but hS hct LN.old
 refine ⟨f, _, ["place"], cl, xs, qs.map (keyQ B), rfl, hS2, by rw [List.length_map]; lia, by lia, la_binds1 fun a => rfl, C, fun os hcn hci => ⟨_, lam_fn (k := 32) (fr := ["bottom"]) (ws := [.int B]) (Ok := fun vs r => ∃ x q, vs = [x] ∧ q ∈ qs ∧ NumV K H2 x q ∧ r = .int (keyQ B q)) LN C hfree hcn hci ⟨rfl, rfl, rfl, by decide +kernel, by decide +kernel⟩ (lk1 _) (.cons 1 rfl rfl rfl rfl .nil) (fun A outer s E vs r H' Q hr hvl ho hm hQ => ?_), fun i x kk hx hkk Q' hQ => ?_⟩, fun p ys hp hz => ?_⟩
 · refine exE2 ho fun x c hz93' => ?_
   refine anE4 hz93' fun hq90 hc hq91 hq92 => ?_
   clear hz93'
   obtain rfl := hq90
   obtain ⟨rx, rfl, hrx⟩ := hq91
   obtain rfl := hq92
   refine ⟨_, (pe_op op_mulC (pe_ix (ixT K) (pv 0) pe_int (fun u v => rfl)) (pe_op (op_fdivX hr hT) (pv 1) (pe_ix (ixT K) (pv 0) pe_int (fun u v => rfl)))), ?_⟩
   have hr' := hrx.same hm
   have hdc : (c.den : Int) ≠ 0 := Nm.den_ne c
   have bq : Bd (n * qs.length + 1) (B.fdiv (c.den : Int)) := by
     rw [Int.fdiv_eq_ediv_of_nonneg _ (by lia)]
     unfold Bd at bB ⊢
     exact Nat.lt_of_le_of_lt (Int.natAbs_ediv_le_natAbs ..) bB
   exact ⟨_, rfl, rx, _, _, _, rfl, rfl, hr', rfl, _, rfl, _, rfl, rx, _, _, _, rfl, rfl, hr', rfl, _, _, rfl, rfl, hdc, _, _, rfl, rfl, MulC.bd (hb c hc).1 bq (by lia), hQ⟩
 · rw [List.getElem?_map] at hkk
   obtain ⟨c, hc, hcn'⟩ := (Paired.get hN hx)
   rw [hc] at hkk
   cases hkk
   exact ⟨rfl, Same.refl _, _, ⟨x, c, rfl, List.mem_of_getElem? hc, hcn'.but hct LN.old, rfl⟩, hQ⟩
 · refine exE1 hz fun zs hz95' => ?_
   refine anE3 hz95' fun hperm hq94 hsort => ?_
   clear hz95'
   obtain rfl := hq94
   have hpz := rise_zip (B := B) (show Nums K H2 xs qs from Paired.mapP hN fun _ _ z => z.but hct LN.old)
   obtain ⟨rs, hrs, hpr⟩ := (paired_perm hperm.symm (paired_flip hpz))
   obtain ⟨ek, hnum⟩ := (rise_keys hpr)
   have nN := Same.new (o := .lst (zs.map Prod.snd)) hp
   refine q p _ _ rs (SameB.trans LN.old nN.b) (LN.tab.same nN) (free_but LN.tab LN.old hp) upd_same (Nums.same hnum nN) hrs ?_
   have h1 : (rs.map (keyQ B)).Pairwise (· ≤ ·) := by
     rw [ek]
     exact List.pairwise_map.mpr hsort
   refine List.Pairwise.imp_of_mem (fun {a b} ha hb' h => ?_) (List.pairwise_map.mp h1)
   exact keyQ_le hB (hd a (hrs.mem_iff.mp ha)) (hd b (hrs.mem_iff.mp hb')) h
theorem sc_reaches : FnScope ["quotient", "x", "y", "below"] ["quotient", "x", "y"] (defScope (top 42)) := ⟨rfl, rfl, rfl, by decide +kernel, rfl, by decide +kernel, by decide +kernel⟩
set_option maxHeartbeats 4000000 in
theorem ok_reaches {f : Addr} {fd : FuncData} (F : Fun K "reaches" "reaches" (top 42) f fd) (F_height_at : Fd P w K mg base 35 "height_at" ["curve", "x"] (spHeight2 K)) (F_times : Fd P w K mg base 35 "times" ["a", "b"] (spBin K (· * ·))) {a_NOUGHT : Addr} (c_NOUGHT : mg "NOUGHT" = some (.ref a_NOUGHT)) (n_NOUGHT : ∀ H : Hp, NumV K H (.ref a_NOUGHT) (0)) (hT : P.given.tree = none) :
   FnOk P w K mg base CX0 36 f fd ["quotient", "x", "y"] (spReaches K) := by
 refine F.ok sc_reaches (fun vs H Q E h => ?_) (fun cdv A outer s H vs Q E hr h => ?_)
 · obtain ⟨_, _, _, _, _, _, _, _, _, _, _, _, rfl, _⟩ := h; rfl
 refine ⟨_, (@pss_consC _ _ _ _ _ K _ (@ps_set _ _ 3 _ _ _ _ sc_reaches.nd rfl (Or.inl rfl) (@pe_fn _ _ _ _ _ _ _ _ _ _ _ F_height_at hr rfl (@pa_cons _ _ _ _ _ (@pe_ix _ _ _ _ _ _ _ (ixT K) (pv 0) pe_int (fun u v => rfl)) (@pa_cons _ _ _ _ _ (pv 1) pa_nil (by rfl)) (by rfl)) (by decide) (by decide) (by rfl) (by rfl)) (by rfl) (by first   | exact .inl rfl   | exact .inr rfl   | assumption)) (@pss_one _ _ _ (@ps_ret _ _ _ _ (@pe_and _ _ _ _ _ _ _ (@pe_cmpR _ _ _ _ _ _ _ _ (neD K hr.units) (pv 3) (@pe_glob _ _ (.ref a_NOUGHT) _ _ rfl c_NOUGHT rfl (by decide)) (nomark _)) (@pe_one _ _ _ _ _ (@pe_cmpR _ _ _ _ _ _ _ _ (eqD K hr.units) (@pe_fn _ _ _ _ _ _ _ _ _ _ _ F_height_at hr rfl (@pa_cons _ _ _ _ _ (@pe_ix _ _ _ _ _ _ _ (ixT K) (pv 0) pe_int (fun u v => rfl)) (@pa_cons _ _ _ _ _ (pv 1) pa_nil (by rfl)) (by rfl)) (by decide) (by decide) (by rfl) (by rfl)) (@pe_fn _ _ _ _ _ _ _ _ _ _ _ F_times hr rfl (@pa_cons _ _ _ _ _ (pv 2) (@pa_cons _ _ _ _ _ (pv 3) pa_nil (by rfl)) (by rfl)) (by decide) (by decide) (by rfl) (by rfl)) (nomark _)))))) (by rfl)), ?_⟩
 obtain ⟨t, rx, ry, pn, pd, n', d', x, y, E, nx, ny, rfl, hT, cn, cd, bn, bd, hnl, hdl, hx, hy, bx, by_, hE, hnx, hny, q⟩ := h
 have k1 : E * (d'.length + 2) ≤ 3000000 * 15 := Nat.mul_le_mul hE (by lia)
 have k2 : (nx + 1) * (d'.length + 4) ≤ 1001 * 17 := Nat.mul_le_mul (by lia) (by lia)
 have k3 : E * (n'.length + 2) ≤ 3000000 * 15 := Nat.mul_le_mul hE (by lia)
 have k4 : (nx + 1) * (n'.length + 4) ≤ 1001 * 17 := Nat.mul_le_mul (by lia) (by lia)
 refine ⟨_, rfl, t, _, _, _, rfl, rfl, hT, rfl, _, rfl, pd, rx, d', x, E, E, nx, rfl, cd, hx, bd, bx, by lia, by lia, fun p1 H1 s1 e1 b1 => ?_⟩
 refine ⟨_, rfl, ?_⟩
 refine eqN (NumV.of e1) (n_NOUGHT _) ?_
 refine ⟨_, rfl, ?_⟩
 by_cases h0 : Cv.ev d' x = 0
 · refine iteFc (by rw [decide_eq_true h0]; rfl) ?_
   have := q H1 s1
   rw [decide_eq_false (fun z => z.1 h0)] at this
   exact this
 · refine iteTc (by rw [decide_eq_false h0]; rfl) ?_
   refine ⟨_, rfl, t, _, _, _, rfl, rfl, hT.same s1, rfl, _, rfl, pn, rx, n', x, E, E, nx, rfl, cn.same s1, hx.same s1, bn, bx, by lia, by lia, fun p2 H2 s2 e2 b2 => ?_⟩
   refine ⟨_, rfl, _, rfl, _, _, y, Cv.ev d' x, ny, _, rfl, (hy.same s1).same s2, NumV.of (s2 _ _ e1), by_, b1, by lia, fun p3 h3 => ?_⟩
   have n3 := Same.new (o := nT (y * Cv.ev d' x)) h3
   refine eqN (NumV.of (n3 _ _ e2)) (NumV.of upd_same) ?_
   have := q _ ((s1.trans s2).trans n3)
   have e : decide (Cv.ev d' x ≠ 0 ∧ Cv.ev n' x = y * Cv.ev d' x) = decide (Cv.ev n' x = y * Cv.ev d' x) := by
     by_cases z : Cv.ev n' x = y * Cv.ev d' x
     · rw [decide_eq_true z, decide_eq_true ⟨h0, z⟩]
     · rw [decide_eq_false z, decide_eq_false fun w => z w.2]
   rw [e] at this
   exact this
theorem sc_quotient_through : FnScope ["places", "heights", "width", "quotient", "left"] ["places", "heights", "width"] (defScope (top 43)) := ⟨rfl, rfl, rfl, by decide +kernel, rfl, by decide +kernel, by decide +kernel⟩
set_option maxHeartbeats 4000000 in
theorem ok_quotient_through {f : Addr} {fd : FuncData} (F : Fun K "quotient_through" "quotient_through" (top 43) f fd) (F_check_heights : Fd P w K mg base 35 "check_heights" ["places", "heights"] (spCheckH K)) (F_lowest_terms : Fd P w K mg base 38 "lowest_terms" ["pair", "places"] (spLowest K)) (F_pair_through : Fd P w K mg base 36 "pair_through" ["places", "heights", "width"] (spPair K)) (F_rising : Fd P w K mg base 38 "rising" ["places"] (spRise K 194)) (F_reaches : Fd P w K mg base 36 "reaches" ["quotient", "x", "y"] (spReaches K)) (b_len : mg "len" = none) (b_zip : mg "zip" = none) (hT : P.given.tree = none) :
   FnOk P w K mg base CX0 39 f fd ["places", "heights", "width"] (spQuo K 194) := by
 refine F.ok sc_quotient_through (fun vs H Q E h => ?_) (fun cdv A outer s H vs Q E hr h => ?_)
 · obtain ⟨_, _, _, _, _, _, _, _, _, _, _, rfl, _⟩ := h; rfl
 refine ⟨_, (@pss_consC _ _ _ _ _ K _ (@ps_expr _ _ _ _ (@pe_fn _ _ _ _ _ _ _ _ _ _ _ F_check_heights hr rfl (@pa_cons _ _ _ _ _ (pv 0) (@pa_cons _ _ _ _ _ (pv 1) pa_nil (by rfl)) (by rfl)) (by decide) (by decide) (by rfl) (by rfl)) (by rfl)) (@pss_consC _ _ _ _ _ K _ (@ps_ifC _ _ _ _ _ _ _ _ K _ _ (@PW.pt _ _ _ (@pw_or _ _ _ _ _ _ _ (@pt_cmpR _ _ _ _ _ _ _ _ op_lt (pv 2) pe_int (nomark _)) (@pw_or1 _ _ _ _ (@pt_cmpR _ _ _ _ _ _ _ _ op_gt (pv 2) (@pe_callB _ _ _ _ _ _ _ _ _ (lenK K) rfl b_len bt_len (@pa_cons _ _ _ _ _ (pv 0) pa_nil (by rfl)) (by decide) (by decide) (by rfl) (by rfl)) (nomark _))))) (@pss_one _ _ _ ps_never) pss_nil (by rfl) (by rfl)) (@pss_consC _ _ _ _ _ K _ (@ps_set _ _ 3 _ _ _ _ sc_quotient_through.nd rfl (Or.inr rfl) (@pe_fn _ _ _ _ _ _ _ _ _ _ _ F_lowest_terms hr rfl (@pa_cons _ _ _ _ _ (@pe_fn _ _ _ _ _ _ _ _ _ _ _ F_pair_through hr rfl (@pa_cons _ _ _ _ _ (pv 0) (@pa_cons _ _ _ _ _ (pv 1) (@pa_cons _ _ _ _ _ (pv 2) pa_nil (by rfl)) (by rfl)) (by rfl)) (by decide) (by decide) (by rfl) (by rfl)) (@pa_cons _ _ _ _ _ (pv 0) pa_nil (by rfl)) (by rfl)) (by decide) (by decide) (by rfl) (by rfl)) (by rfl) (by first   | exact .inl rfl   | exact .inr rfl   | assumption)) (@pss_consC _ _ _ _ _ K _ (@ps_lc _ (["x", "y", "quotient"]) 2 ([3]) _ _ _ _ _ _ _ _ _ _ 4 _ _ _ rfl sc_quotient_through.nd rfl rfl (CompOk.look (NX := ["places", "heights", "width", "quotient", "left"]) (sc := defScope (top 43)) rfl rfl (by decide +kernel)) (@piZip _ K _ _ _ _ _ _ _ _ rfl b_zip (@pa_cons _ _ _ _ _ (pv 0) (@pa_cons _ _ _ _ _ (pv 1) pa_nil (by rfl)) (by rfl)) (by rfl) (by rfl) (by rfl)) (fun u1 u2 u3 u4 u5 => (@pgT _ K _ _ _ 2 _ rfl (pgs_cons (@pg_name _ _ 0 _ (show List.Nodup (["x", "y", "quotient"] : List Str) from by decide +kernel) rfl (Or.inl rfl) (by first   | exact .inl rfl   | exact .inr rfl   | assumption)) (pgs_cons (@pg_name _ _ 1 _ (show List.Nodup (["x", "y", "quotient"] : List Str) from by decide +kernel) rfl (Or.inl rfl) (by first   | exact .inl rfl   | exact .inr rfl   | assumption)) pgs_nil)) (by rfl) (by rfl) (by rfl))) (stays_tup (stays_consS (by decide) (stays_consS (by decide) stays_nilS))) (fun u1 u2 u3 u4 u5 => pts_one (@pt_not _ _ _ _ (@pt_val _ _ _ (@pe_fn _ _ _ _ _ _ _ _ _ _ _ F_reaches hr rfl (@pa_cons _ _ _ _ _ (pv 2) (@pa_cons _ _ _ _ _ (pv 0) (@pa_cons _ _ _ _ _ (pv 1) pa_nil (by rfl)) (by rfl)) (by rfl)) (by decide) (by decide) (by rfl) (by rfl)) (by intro _; rfl)))) (fun u1 u2 u3 u4 u5 => (pv 0)) rfl (by intro _; rfl)) (@pss_one _ _ _ (@ps_ret _ _ _ _ (@pe_tup _ _ _ _ _ (@pa_cons _ _ _ _ _ (@pe_ix _ _ _ _ _ _ _ (ixT K) (pv 3) pe_int (fun u v => rfl)) (@pa_cons _ _ _ _ _ (@pe_ix _ _ _ _ _ _ _ (ixT K) (pv 3) pe_int (fun u v => rfl)) (@pa_cons _ _ _ _ _ (@pe_fn _ _ _ _ _ _ _ _ _ _ _ F_rising hr rfl (@pa_cons _ _ _ _ _ (pv 4) pa_nil (by rfl)) (by decide) (by decide) (by rfl) (by rfl)) pa_nil (by rfl)) (by rfl)) (by rfl))))) (by rfl)) (by rfl)) (by rfl)) (by rfl)), ?_⟩
 obtain ⟨lp, lh, zs, ys, qs, hs, W, n, nx, ny, C, rfl, hP, hZT, hH, hY, hql, hhl, hn1, hn12, hnd, hW1, hWn, bq, bh, hnx1, hnx, hny, hC, hG, hct, q⟩ := h
 have P3 : 3 ≤ sizeLine := by decide
 have hZ : Nums K H zs qs := hZT.nums
 have hzl := hZ.length
 have hyl := hY.length
 refine ⟨_, rfl, _, rfl, lp, lh, zs, ys, qs, rfl, hP, hZT, hnd, by lia, by lia, hH, by lia, fun H1 s1 => ?_⟩
 refine ⟨_, rfl, _, _, rfl, rfl, _, rfl, iteFc (decide_eq_false (by lia)) ?_⟩
 refine ⟨_, rfl, _, rfl, lp, zs, rfl, .inl (Same.seq s1 hP), _, _, rfl, rfl, _, rfl, iteFc (decide_eq_false (by lia)) ?_⟩
 refine ⟨_, rfl, _, rfl, _, rfl, lp, lh, zs, ys, qs, hs, W, n, nx, ny, C, rfl, Same.seq s1 hP, Nums.same hZ s1, Same.seq s1 hH, Nums.same hY s1, hql, hhl, hn1, hn12, hnd, hW1, hWn, bq, bh, hC, by lia, fun t pN pD H2 r1 r2 N D N2 D2 s2 hT cN cD bN bD I => ?_⟩
 have s12 := s1.trans s2
 have hfst : (qs.zip hs).map Prod.fst = qs := List.map_fst_zip (by lia)
 have hzln : (qs.zip hs).length = n := by rw [List.length_zip]; lia
 have hr1 := I.fin hzln
 have hDne := I.below hzln (by lia) (by rw [hfst]; exact hnd)
 have hNl : (Cv.strip N).length ≤ W := strip_le fun j hj => I.le1.1 j (by lia)
 have hDl : (Cv.strip D).length ≤ n + 1 - W := strip_le fun j hj => I.le1.2 j (by lia)
 have eS : (qs.filter fun q => decide (Cv.ev (Cv.strip D) q = 0)) = qs.filter fun q => decide (Cv.ev D q = 0) := by
   congr 1
   funext q
   rw [Cv.ev_strip]
 refine ⟨_, rfl, t, lp, pN, pD, zs, qs, Cv.strip N, Cv.strip D, (gAS C n).2 + 1, nx, rfl, hT, cN, cD, good_strip N, good_strip D, hDne, Same.seq s12 hP, Nums.same hZ s12, hnd, by lia, by lia, by lia, fun c hc => bN c (Cv.strip_mem _ _ hc), fun c hc => bD c (Cv.strip_mem _ _ hc), bq, hnx1, by lia, by lia, fun x hx h0 => ?_, fun p a b H3 n' d' c s3 ep cn cd gn gd hlast hc0 evN evD hnl hdl bn bd => ?_⟩
 · rw [Cv.ev_strip] at h0 ⊢
   obtain ⟨i, hi, rfl⟩ := (List.getElem_of_mem hx)
   have hm : (qs[i], hs[i]) ∈ qs.zip hs := by
     have : (qs.zip hs)[i]'(by lia) = (qs[i], hs[i]) := List.getElem_zip ..
     rw [← this]; exact List.getElem_mem _
   have := I.on1 _ hm
   rw [this, h0, Rat.mul_zero]
 rw [eS] at evN evD
 have s13 := s12.trans s3
 have bn : ∀ y ∈ n', RB 3000000 y := fun y hy => (bn y hy).mono (by lia)
 have bd : ∀ y ∈ d', RB 3000000 y := fun y hy => (bd y hy).mono (by lia)
 refine lc_of ⟨_, rfl, _, rfl, lp, lh, zs, ys, rfl, Same.seq s13 hP, Same.seq s13 hH, ?_⟩
 have hmin : min zs.length ys.length = n := by lia
 refine lc_zipF (xs := zs) (ys := ys) (fun i us W => Same H3 W ∧ us.length ≤ i ∧ Nums K W us (leftL (qs.take i) (hs.take i) n' d')) ⟨Same.refl _, Nat.le_refl _, .nil⟩ (fun i us W _ h => ⟨Same.seq (s13.trans h.1) hP, Same.seq (s13.trans h.1) hH, h.2.1⟩) (Nat.le_of_lt (small1000 (by lia))) ?_ ?_
 · rintro i v u T us W hv hu hTn ⟨sw, hul, hun⟩
   obtain ⟨x, hx, rx, rfl, hrx⟩ := (Paired.get hZ hv)
   obtain ⟨y, hy, ry, rfl, hry⟩ := (Paired.get hY hu)
   have nT := Same.new (o := .tup [.ref rx, .ref ry]) hTn
   have sW := sw.trans nT
   refine ⟨_, rfl, _, rfl, _, rfl, p, rx, ry, a, b, n', d', x, y, 3000000, nx, ny, rfl, SqT.of (sW _ _ ep), cn.same sW, cd.same sW, bn, bd, by lia, by lia, NumV.same ⟨rx, rfl, hrx⟩ (s13.trans sW), NumV.same ⟨ry, rfl, hry⟩ (s13.trans sW), bq x (List.mem_of_getElem? hx), bh y (List.mem_of_getElem? hy), by lia, by lia, hny, fun W1 s1' => ⟨_, rfl, ?_⟩⟩
   have hxl := (List.getElem?_eq_some_iff.mp hx).1
   have et : leftL (qs.take (i + 1)) (hs.take (i + 1)) n' d' = leftL (qs.take i) (hs.take i) n' d' ++ leftL [x] [y] n' d' := by
     unfold leftL
     rw [List.take_add_one, List.take_add_one, hx, hy, List.zip_append (by rw [List.length_take, List.length_take]; lia), List.filter_append, List.map_append]; rfl
   have sW1 := sW.trans s1'
   rw [et]
   by_cases h0 : Cv.ev d' x ≠ 0 ∧ Cv.ev n' x = y * Cv.ev d' x
   · refine iteFc (by rw [decide_eq_true h0]; rfl) ⟨sW1, by lia, ?_⟩
     have : leftL [x] [y] n' d' = [] := by
       unfold leftL
       show (([(x, y)] : List (Rat × Rat)).filter _).map Prod.fst = []
       rw [List.filter_cons_of_neg (by show ¬ (!decide (Cv.ev d' x ≠ 0 ∧ Cv.ev n' x = y * Cv.ev d' x)) = true; rw [decide_eq_true h0]; decide)]; rfl
     rw [this, List.append_nil]
     exact Nums.same hun (nT.trans s1')
   · refine iteTc (by rw [decide_eq_false h0]; rfl) ⟨_, rfl, sW1, by rw [List.length_append, List.length_singleton]; lia, ?_⟩
     have : leftL [x] [y] n' d' = [x] := by
       unfold leftL
       show (([(x, y)] : List (Rat × Rat)).filter _).map Prod.fst = [x]
       rw [List.filter_cons_of_pos (by show (!decide (Cv.ev d' x ≠ 0 ∧ Cv.ev n' x = y * Cv.ev d' x)) = true; rw [decide_eq_false h0]; rfl)]; rfl
     rw [this]
     exact Paired.snoc (Nums.same hun (nT.trans s1')) (NumV.same ⟨rx, rfl, hrx⟩ (s13.trans sW1))
 rintro us W ⟨sw, hul, hun⟩ l1 hl1
 rw [hmin, List.take_of_length_le (by lia), List.take_of_length_le (by lia)] at hun
 rw [hmin] at hul
 have n1 := Same.new (o := .lst us) hl1
 have sL := (s13.trans sw).trans n1
 have s3L := sw.trans n1
 have hls := hun.length
 have hleft : ∀ x ∈ leftL qs hs n' d', x ∈ qs := fun x hx => by
   unfold leftL at hx
   obtain ⟨pr, hpr, rfl⟩ := (List.mem_map.mp hx)
   rw [← hfst]
   exact List.mem_map_of_mem (List.mem_filter.mp hpr).1
 refine ⟨_, rfl, p, _, _, _, rfl, rfl, SqT.of (s3L _ _ ep), rfl, _, rfl, p, _, _, _, rfl, rfl, SqT.of (s3L _ _ ep), rfl, ?_⟩
 refine ⟨_, rfl, l1, us, leftL qs hs n' d', nx, rfl, SqL.of upd_same, Nums.same hun n1, fun x hx => bq x (hleft x hx), by lia, by lia, hct.same sL, fun pr H5 rsV rs m5 ct5 _ e5 hn5 hperm hpw => ⟨P3, fun tf htf => ?_⟩⟩
 have nf := Same.new (o := .tup [.ref a, .ref b, .ref pr]) htf
 have hctL := hct.same sL
 exact q tf a b pr _ r1 r2 N D N2 D2 n' d' rs rsV c (SameB.trans (Same.b sL) (SameB.trans m5 nf.b)) (ct5.same nf) (SqT.of upd_same) (((cn.same s3L).but hctL m5).same nf) (((cd.same s3L).but hctL m5).same nf) gn gd hlast hc0 I hDne (fun x => by rw [← Cv.ev_strip]; exact evN x) (fun x => by rw [← Cv.ev_strip]; exact evD x) (by lia) (by lia) (nf _ _ e5) (Nums.same hn5 nf) hperm hpw bn bd
theorem sc__law_times : FnScope ["_law_a", "_law_b"] ["_law_a", "_law_b"] (defScope (top 50)) := ⟨rfl, rfl, rfl, by decide +kernel, rfl, by decide +kernel, by decide +kernel⟩
set_option maxHeartbeats 4000000 in
theorem ok__law_times {f : Addr} {fd : FuncData} (F : Fun K "_law_times" "_law_times" (top 50) f fd) (F__law_lowest : Fd P w K mg base 33 "_law_lowest" ["_law_top", "_law_bottom"] (spLow)) (hT : P.given.tree = none) :
   FnOk P w K mg base CX0 34 f fd ["_law_a", "_law_b"] (spBin K (· * ·)) := by
 refine F.ok sc__law_times (fun vs H Q E h => ?_) (fun cdv A outer s H vs Q E hr h => ?_)
 · obtain ⟨_, _, _, _, _, _, rfl, _⟩ := h; rfl
 refine ⟨_, (@pss_one _ _ _ (@ps_ret _ _ _ _ (@pe_fn _ _ _ _ _ _ _ _ _ _ _ F__law_lowest hr rfl (@pa_cons _ _ _ _ _ (@pe_op _ _ _ _ _ _ _ _ op_mulC (@pe_ix _ _ _ _ _ _ _ (ixT K) (pv 0) pe_int (fun u v => rfl)) (@pe_ix _ _ _ _ _ _ _ (ixT K) (pv 1) pe_int (fun u v => rfl))) (@pa_cons _ _ _ _ _ (@pe_op _ _ _ _ _ _ _ _ op_mulC (@pe_ix _ _ _ _ _ _ _ (ixT K) (pv 0) pe_int (fun u v => rfl)) (@pe_ix _ _ _ _ _ _ _ (ixT K) (pv 1) pe_int (fun u v => rfl))) pa_nil (by rfl)) (by rfl)) (by decide) (by decide) (by rfl) (by rfl)))), ?_⟩
 obtain ⟨x, y, p, q, m, n, rfl, ⟨r, rfl, hr⟩, ⟨u, rfl, hu⟩, hp, hq, hmn, k⟩ := h
 refine ⟨_, rfl, r, _, _, _, rfl, rfl, hr, rfl, _, rfl, u, _, _, _, rfl, rfl, hu, rfl, _, _, rfl, rfl, MulC.bd hp.1 hq.1, ?_⟩
 refine ⟨_, rfl, r, _, _, _, rfl, rfl, hr, rfl, _, rfl, u, _, _, _, rfl, rfl, hu, rfl, _, _, rfl, rfl, MulC.bd hp.2 hq.2, ?_⟩
 refine ⟨_, _, rfl, Int.mul_ne_zero (Nm.den_ne p) (Nm.den_ne q), fun z hz => ?_⟩
 have e := k z hz
 try dsimp only at e
 rw [← Nm.times_eq] at e
 exact e
theorem sc__law_at : FnScope ["_law_curve", "_law_x", "_law_found", "_law_power", "_law_number_here"] ["_law_curve", "_law_x"] (defScope (top 52)) := ⟨rfl, rfl, rfl, by decide +kernel, rfl, by decide +kernel, by decide +kernel⟩
set_option maxHeartbeats 4000000 in
theorem ok__law_at {f : Addr} {fd : FuncData} (F : Fun K "_law_at" "_law_at" (top 52) f fd) (F__law_plus : Fd P w K mg base 34 "_law_plus" ["_law_a", "_law_b"] (spBin K (· + ·))) (F__law_times : Fd P w K mg base 34 "_law_times" ["_law_a", "_law_b"] (spBin K (· * ·))) (hT : P.given.tree = none) :
   FnOk P w K mg base CX0 35 f fd ["_law_curve", "_law_x"] (spAt2 K) := by
 refine F.ok sc__law_at (fun vs H Q E h => ?_) (fun cdv A outer s H vs Q E hr h => ?_)
 · obtain ⟨_, _, _, _, _, _, _, _, rfl, _⟩ := h; rfl
 refine ⟨_, (@pss_consC _ _ _ _ _ K _ (@ps_set _ _ 2 _ _ _ _ sc__law_at.nd rfl (Or.inl rfl) (@pe_tup _ _ _ _ _ (@pa_cons _ _ _ _ _ pe_int (@pa_cons _ _ _ _ _ pe_int pa_nil (by rfl)) (by rfl))) (by rfl) (by first   | exact .inl rfl   | exact .inr rfl   | assumption)) (@pss_consC _ _ _ _ _ K _ (@ps_set _ _ 3 _ _ _ _ sc__law_at.nd rfl (Or.inl rfl) (@pe_tup _ _ _ _ _ (@pa_cons _ _ _ _ _ pe_int (@pa_cons _ _ _ _ _ pe_int pa_nil (by rfl)) (by rfl))) (by rfl) (by first   | exact .inl rfl   | exact .inr rfl   | assumption)) (@pss_consC _ _ _ _ _ K _ (@ps_forC _ _ _ _ _ _ _ _ K _ PassesOwn.never rfl (@piS _ K _ _ _ (pv 0) (by rfl)) (@pg_name _ _ 4 _ sc__law_at.nd rfl (Or.inl rfl) (by first   | exact .inl rfl   | exact .inr rfl   | assumption)) (@pss_consC _ _ _ _ _ K _ (@ps_set _ _ 2 _ _ _ _ sc__law_at.nd rfl (Or.inl rfl) (@pe_fn _ _ _ _ _ _ _ _ _ _ _ F__law_plus hr rfl (@pa_cons _ _ _ _ _ (pv 2) (@pa_cons _ _ _ _ _ (@pe_fn _ _ _ _ _ _ _ _ _ _ _ F__law_times hr rfl (@pa_cons _ _ _ _ _ (pv 4) (@pa_cons _ _ _ _ _ (pv 3) pa_nil (by rfl)) (by rfl)) (by decide) (by decide) (by rfl) (by rfl)) pa_nil (by rfl)) (by rfl)) (by decide) (by decide) (by rfl) (by rfl)) (by rfl) (by first   | exact .inl rfl   | exact .inr rfl   | assumption)) (@pss_one _ _ _ (@ps_set _ _ 3 _ _ _ _ sc__law_at.nd rfl (Or.inl rfl) (@pe_fn _ _ _ _ _ _ _ _ _ _ _ F__law_times hr rfl (@pa_cons _ _ _ _ _ (pv 3) (@pa_cons _ _ _ _ _ (pv 1) pa_nil (by rfl)) (by rfl)) (by decide) (by decide) (by rfl) (by rfl)) (by rfl) (by first   | exact .inl rfl   | exact .inr rfl   | assumption))) (by rfl)) (by rfl) (by intro _; rfl)) (@pss_one _ _ _ (@ps_ret _ _ _ _ (pv 2))) (by rfl)) (by rfl)) (by rfl)), ?_⟩
 obtain ⟨b, r, rx, xs, qs, x, c0, n, rfl, hS, hn, hx, hB, hbx, hz, q⟩ := h
 have hl := hn.length
 generalize hM : c0 + n * qs.length + 4 = M at hz q
 have hle : M * 2 ≤ 90000000 := Nat.le_trans (Nat.mul_le_mul_left _ (by lia)) hz
 have hz' : (qs.length + 2) * M ≤ 90000000 := by rw [Nat.mul_comm]; exact hz
 refine ⟨(by decide : 2 ≤ sizeLine), fun f hf => ?_⟩
 refine ⟨(by decide : 2 ≤ sizeLine), fun g hg => ?_⟩
 have s0 : Same H (upd (upd H f (.tup [.int 0, .int 1])) g (.tup [.int 1, .int 1])) := (Same.new hf).trans (Same.new hg)
 refine for_seq (b := b) (a := r) (xs := xs) rfl (L7 H r rx qs x M n fun H r rx qs x M n i σ H' => Same H H' ∧ ∃ (f g : Addr) (z : Option V), σ = [some (.ref r), some (.ref rx), some (.ref f), some (.ref g), z] ∧ H' f = some (nT (Cv.ev (qs.take i) x)) ∧ H' g = some (nT (x ^ i)) ∧ RB ((i + 1) * M) (Cv.ev (qs.take i) x) ∧ RB (n * i + 1) (x ^ i))
   ⟨s0, f, g, none, rfl, (Same.new hg) _ _ upd_same, ?_, RB.zero (by lia), ?_⟩ (fun i σ H' _ p => Sq.same hS p.1) ?_ ?_
 · rw [Rat.pow_zero]; exact upd_same
 · rw [Rat.pow_zero]; exact RB.one (by lia)
 · rintro i v σ H' hv hR1
   refine anE2 hR1 fun sm hz101 => ?_
   refine exE3 hz101 fun f' g' z hz101' => ?_
   clear hz101
   refine anE5 hz101' fun hq100 ef eg bf bg => ?_
   clear hz101'
   obtain rfl := hq100
   try clear hR1
   obtain ⟨c, hc, hcn⟩ := (Paired.get hn hv)
   have hi : i < qs.length := (List.getElem?_eq_some_iff.mp hc).1
   have hcm : c ∈ qs := List.mem_of_getElem? hc
   have hni : n * i ≤ n * qs.length := Nat.mul_le_mul_left n (by lia)
   have hni1 : n * (i + 1) = n * i + n := by rw [Nat.mul_add, Nat.mul_one]
   have hni2 : n * (i + 1) ≤ n * qs.length := Nat.mul_le_mul_left n (by lia)
   have him : (i + 1 + 1) * M ≤ (qs.length + 2) * M := Nat.mul_le_mul_right _ (by lia)
   have him2 : (i + 1 + 1) * M = (i + 1) * M + M := by rw [Nat.add_mul, Nat.one_mul]
   have bt : RB (c0 + (n * i + 1)) (c * x ^ i) := (hB c hcm).times bg
   refine ⟨_, rfl, _, rfl, _, rfl, _, _, _, _, c0, n * i + 1, rfl, hcn.same sm, NumV.of eg, hB c hcm, bg, by lia, fun t ht => ?_⟩
   have s1 : Same H' (upd H' t (nT (c * x ^ i))) := Same.new ht
   refine ⟨_, _, _, _, (i + 1) * M, c0 + (n * i + 1), rfl, NumV.of (s1 _ _ ef), NumV.of upd_same, bf, bt, by lia, fun u hu => ?_⟩
   have s2 := s1.trans (Same.new (o := nT (Cv.ev (qs.take i) x + c * x ^ i)) hu)
   refine ⟨_, rfl, _, rfl, _, _, _, _, n * i + 1, n, rfl, NumV.of (s2 _ _ eg), (hx.same sm).same s2, bg, hbx, by lia, fun v' hv' => ?_⟩
   have s3 := s2.trans (Same.new (o := nT (x ^ i * x)) hv')
   have e1 : Cv.ev (qs.take (i + 1)) x = Cv.ev (qs.take i) x + c * x ^ i := by
     rw [List.take_add_one, hc]
     show Cv.ev (qs.take i ++ [c]) x = _
     rw [Cv.ev_snoc, List.length_take, Nat.min_eq_left (by lia)]
   refine ⟨sm.trans s3, u, v', _, rfl, ?_, ?_, ?_, ?_⟩
   · rw [e1]; exact (Same.new hv') _ _ upd_same
   · rw [Rat.pow_succ]; exact upd_same
   · rw [e1, him2]; exact (bf.plus bt).mono (by lia)
   · rw [Rat.pow_succ, hni1]; exact (bg.times hbx).mono (by lia)
 · rintro σ H' hR2
   refine anE2 hR2 fun sm hz103 => ?_
   refine exE3 hz103 fun f' g' z hz103' => ?_
   clear hz103
   refine anE5 hz103' fun hq102 ef eg bf bg => ?_
   clear hz103'
   obtain rfl := hq102
   try clear hR2
   rw [hl, List.take_length] at ef bf
   exact ⟨_, rfl, q _ _ sm ef (by rw [Nat.mul_comm]; exact bf)⟩
theorem sc_law : FnScope ["_law_script", "_law_pen_here", "_law_places_here", "_law_many", "_law_width", "_law_height", "_law_due", "_law_spot", "_law_by", "_law_heights", "_law_above", "_law_under", "_law_left"] ["_law_script"] (defScope (top 54)) := ⟨rfl, rfl, rfl, by decide +kernel, rfl, by decide +kernel, by decide +kernel⟩
set_option maxHeartbeats 4000000 in
theorem ok_law {f : Addr} {fd : FuncData} (F : Fun K "law" "law" (top 54) f fd) (F__law_pen : Fd P w K mg base 33 "_law_pen" ["_law_script", "_law_k"] (spPen K)) (F__law_places : Fd P w K mg base 35 "_law_places" ["_law_pen_here", "_law_many"] (spPlacesT K 8)) (F__law_draw : Fd P w K mg base 33 "_law_draw" ["_law_pen_here", "_law_many"] (spDraw)) (F_quotient_through : Fd P w K mg base 39 "quotient_through" ["places", "heights", "width"] (spQuo K 194)) (F__law_number : Fd P w K mg base 34 "_law_number" ["_law_pen_here"] (spNum 8)) (F__law_at : Fd P w K mg base 35 "_law_at" ["_law_curve", "_law_x"] (spAt2 K)) (b_len : mg "len" = none) (b_range : mg "range" = none) (hT : P.given.tree = none) :
   FnOk P w K mg base CX0 40 f fd ["_law_script"] (spLawT K 194) := by
 refine F.ok sc_law (fun vs H Q E h => ?_) (fun cdv A outer s H vs Q E hr h => ?_)
 · obtain ⟨_, _, rfl, _⟩ := h; rfl
 refine ⟨_, (@pss_consC _ _ _ _ _ K _ (@ps_set _ _ 1 _ _ _ _ sc_law.nd rfl (Or.inr rfl) (@pe_fn _ _ _ _ _ _ _ _ _ _ _ F__law_pen hr rfl (@pa_cons _ _ _ _ _ (pv 0) (@pa_cons _ _ _ _ _ pe_int pa_nil (by rfl)) (by rfl)) (by decide) (by decide) (by rfl) (by rfl)) (by rfl) (by first   | exact .inl rfl   | exact .inr rfl   | assumption)) (@pss_consC _ _ _ _ _ K _ (@ps_set _ _ 2 _ _ _ _ sc_law.nd rfl (Or.inr rfl) (@pe_fn _ _ _ _ _ _ _ _ _ _ _ F__law_places hr rfl (@pa_cons _ _ _ _ _ (pv 1) (@pa_cons _ _ _ _ _ (@pe_op _ _ _ _ _ _ _ _ op_add pe_int (@pe_fn _ _ _ _ _ _ _ _ _ _ _ F__law_draw hr rfl (@pa_cons _ _ _ _ _ (pv 1) (@pa_cons _ _ _ _ _ pe_int pa_nil (by rfl)) (by rfl)) (by decide) (by decide) (by rfl) (by rfl))) pa_nil (by rfl)) (by rfl)) (by decide) (by decide) (by rfl) (by rfl)) (by rfl) (by first   | exact .inl rfl   | exact .inr rfl   | assumption)) (@pss_consC _ _ _ _ _ K _ (@ps_ifC _ _ _ _ _ _ _ _ K _ _ (@pt_cmpR _ _ _ _ _ _ _ _ op_eq (@pe_fn _ _ _ _ _ _ _ _ _ _ _ F__law_draw hr rfl (@pa_cons _ _ _ _ _ (pv 1) (@pa_cons _ _ _ _ _ pe_int pa_nil (by rfl)) (by rfl)) (by decide) (by decide) (by rfl) (by rfl)) pe_int (nomark _)) (@pss_one _ _ _ (@ps_set _ _ 2 _ _ _ _ sc_law.nd rfl (Or.inr rfl) (@pe_lc _ (["_law_k", "_law_pen_here"]) 1 ([1]) _ _ _ _ _ _ _ _ _ _ rfl (CompOk.look (NX := ["_law_script", "_law_pen_here", "_law_places_here", "_law_many", "_law_width", "_law_height", "_law_due", "_law_spot", "_law_by", "_law_heights", "_law_above", "_law_under", "_law_left"]) (sc := defScope (top 54)) rfl rfl (by decide +kernel)) (@pi_range1 _ _ _ _ _ _ rfl b_range (@pa_cons _ _ _ _ _ (@pe_op _ _ _ _ _ _ _ _ op_add pe_int (@pe_fn _ _ _ _ _ _ _ _ _ _ _ F__law_draw hr rfl (@pa_cons _ _ _ _ _ (pv 1) (@pa_cons _ _ _ _ _ pe_int pa_nil (by rfl)) (by rfl)) (by decide) (by decide) (by rfl) (by rfl))) pa_nil (by rfl)) (by rfl)) (fun u1 u2 u3 u4 u5 => (@pg_name _ _ 0 _ (show List.Nodup (["_law_k", "_law_pen_here"] : List Str) from by decide +kernel) rfl (Or.inl rfl) (by first   | exact .inl rfl   | exact .inr rfl   | assumption))) (stays_name (by decide)) (fun u1 u2 u3 u4 u5 => pts_nil) (fun u1 u2 u3 u4 u5 => (@pe_tup _ _ _ _ _ (@pa_cons _ _ _ _ _ (@pe_op _ _ _ _ _ _ _ _ op_sub (@pe_op _ _ _ _ _ _ _ _ op_add (@pe_fn _ _ _ _ _ _ _ _ _ _ _ F__law_draw hr rfl (@pa_cons _ _ _ _ _ (pv 1) (@pa_cons _ _ _ _ _ pe_int pa_nil (by rfl)) (by rfl)) (by decide) (by decide) (by rfl) (by rfl)) (@pe_op _ _ _ _ _ _ _ _ op_mulC pe_int (pv 0))) pe_int) (@pa_cons _ _ _ _ _ pe_int pa_nil (by rfl)) (by rfl)))) (by intro _; rfl)) (by rfl) (by first   | exact .inl rfl   | exact .inr rfl   | assumption))) pss_nil (by rfl) (by rfl)) (@pss_consC _ _ _ _ _ K _ (@ps_set _ _ 3 _ _ _ _ sc_law.nd rfl (Or.inl rfl) (@pe_callB _ _ _ _ _ _ _ _ _ (lenK K) rfl b_len bt_len (@pa_cons _ _ _ _ _ (pv 2) pa_nil (by rfl)) (by decide) (by decide) (by rfl) (by rfl)) (by rfl) (by first   | exact .inl rfl   | exact .inr rfl   | assumption)) (@pss_consC _ _ _ _ _ K _ (@ps_set _ _ 4 _ _ _ _ sc_law.nd rfl (Or.inl rfl) (@pe_op _ _ _ _ _ _ _ _ op_add pe_int (@pe_fn _ _ _ _ _ _ _ _ _ _ _ F__law_draw hr rfl (@pa_cons _ _ _ _ _ (pv 1) (@pa_cons _ _ _ _ _ (pv 3) pa_nil (by rfl)) (by rfl)) (by decide) (by decide) (by rfl) (by rfl))) (by rfl) (by first   | exact .inl rfl   | exact .inr rfl   | assumption)) (@pss_consC _ _ _ _ _ K _ (@ps_set _ _ 5 _ _ _ _ sc_law.nd rfl (Or.inl rfl) (@pe_ix _ _ _ _ _ _ _ (ixL K) (@pe_lst _ _ _ _ (@pa_cons _ _ _ _ _ (@pe_fn _ _ _ _ _ _ _ _ _ _ _ F__law_number hr rfl (@pa_cons _ _ _ _ _ (pv 1) pa_nil (by rfl)) (by decide) (by decide) (by rfl) (by rfl)) (@pa_cons _ _ _ _ _ (@pe_tup _ _ _ _ _ (@pa_cons _ _ _ _ _ pe_int (@pa_cons _ _ _ _ _ pe_int pa_nil (by rfl)) (by rfl))) pa_nil (by rfl)) (by rfl))) (@pe_fn _ _ _ _ _ _ _ _ _ _ _ F__law_draw hr rfl (@pa_cons _ _ _ _ _ (pv 1) (@pa_cons _ _ _ _ _ pe_int pa_nil (by rfl)) (by rfl)) (by decide) (by decide) (by rfl) (by rfl)) (fun u v => rfl)) (by rfl) (by first   | exact .inl rfl   | exact .inr rfl   | assumption)) (@pss_consC _ _ _ _ _ K _ (@ps_set _ _ 6 _ _ _ _ sc_law.nd rfl (Or.inl rfl) (@pe_tup _ _ _ _ _ (@pa_cons _ _ _ _ _ (@pe_tup _ _ _ _ _ (@pa_cons _ _ _ _ _ (pv 5) pa_nil (by rfl))) (@pa_cons _ _ _ _ _ (@pe_tup _ _ _ _ _ (@pa_cons _ _ _ _ _ (@pe_tup _ _ _ _ _ (@pa_cons _ _ _ _ _ pe_int (@pa_cons _ _ _ _ _ pe_int pa_nil (by rfl)) (by rfl))) pa_nil (by rfl))) (@pa_cons _ _ _ _ _ (@pe_lst _ _ _ _ pa_nil) pa_nil (by rfl)) (by rfl)) (by rfl))) (by rfl) (by first   | exact .inl rfl   | exact .inr rfl   | assumption)) (@pss_consC _ _ _ _ _ K _ (@ps_ifC _ _ _ _ _ _ _ _ K _ _ (@pt_cmpR _ _ _ _ _ _ _ _ (eqD K hr.units) (pv 5) (@pe_tup _ _ _ _ _ (@pa_cons _ _ _ _ _ pe_int (@pa_cons _ _ _ _ _ pe_int pa_nil (by rfl)) (by rfl))) (nomark _)) (@pss_one _ _ _ (@ps_set _ _ 6 _ _ _ _ sc_law.nd rfl (Or.inl rfl) (@pe_tup _ _ _ _ _ (@pa_cons _ _ _ _ _ (@pe_tup _ _ _ _ _ pa_nil) (@pa_cons _ _ _ _ _ (@pe_tup _ _ _ _ _ (@pa_cons _ _ _ _ _ (@pe_tup _ _ _ _ _ (@pa_cons _ _ _ _ _ pe_int (@pa_cons _ _ _ _ _ pe_int pa_nil (by rfl)) (by rfl))) pa_nil (by rfl))) (@pa_cons _ _ _ _ _ (@pe_lst _ _ _ _ pa_nil) pa_nil (by rfl)) (by rfl)) (by rfl))) (by rfl) (by first   | exact .inl rfl   | exact .inr rfl   | assumption))) pss_nil (by rfl) (by rfl)) (@pss_consC _ _ _ _ _ K _ (@ps_ifC _ _ _ _ _ _ _ _ K _ _ (@pt_cmpR _ _ _ _ _ _ _ _ (neD K hr.units) (@pe_fn _ _ _ _ _ _ _ _ _ _ _ F_quotient_through hr rfl (@pa_cons _ _ _ _ _ (pv 2) (@pa_cons _ _ _ _ _ (@pe_op _ _ _ _ _ _ _ _ op_rep (@pe_lst _ _ _ _ (@pa_cons _ _ _ _ _ (pv 5) pa_nil (by rfl))) (pv 3)) (@pa_cons _ _ _ _ _ (pv 4) pa_nil (by rfl)) (by rfl)) (by rfl)) (by decide) (by decide) (by rfl) (by rfl)) (pv 6) (nomark _)) (@pss_one _ _ _ (@ps_ret _ _ _ _ pe_bl)) pss_nil (by rfl) (by rfl)) (@pss_consC _ _ _ _ _ K _ (@ps_set _ _ 7 _ _ _ _ sc_law.nd rfl (Or.inl rfl) (@pe_fn _ _ _ _ _ _ _ _ _ _ _ F__law_draw hr rfl (@pa_cons _ _ _ _ _ (pv 1) (@pa_cons _ _ _ _ _ (pv 3) pa_nil (by rfl)) (by rfl)) (by decide) (by decide) (by rfl) (by rfl)) (by rfl) (by first   | exact .inl rfl   | exact .inr rfl   | assumption)) (@pss_consC _ _ _ _ _ K _ (@ps_set _ _ 8 _ _ _ _ sc_law.nd rfl (Or.inl rfl) (@pe_ix _ _ _ _ _ _ _ (ixL K) (@pe_lst _ _ _ _ (@pa_cons _ _ _ _ _ (@pe_tup _ _ _ _ _ (@pa_cons _ _ _ _ _ pe_int (@pa_cons _ _ _ _ _ pe_int pa_nil (by rfl)) (by rfl))) (@pa_cons _ _ _ _ _ (@pe_tup _ _ _ _ _ (@pa_cons _ _ _ _ _ (@pe_op _ _ _ _ _ _ _ _ op_sub pe_int pe_int) (@pa_cons _ _ _ _ _ pe_int pa_nil (by rfl)) (by rfl))) pa_nil (by rfl)) (by rfl))) (@pe_fn _ _ _ _ _ _ _ _ _ _ _ F__law_draw hr rfl (@pa_cons _ _ _ _ _ (pv 1) (@pa_cons _ _ _ _ _ pe_int pa_nil (by rfl)) (by rfl)) (by decide) (by decide) (by rfl) (by rfl)) (fun u v => rfl)) (by rfl) (by first   | exact .inl rfl   | exact .inr rfl   | assumption)) (@pss_consC _ _ _ _ _ K _ (@ps_set _ _ 9 _ _ _ _ sc_law.nd rfl (Or.inr rfl) (@pe_op _ _ _ _ _ _ _ _ op_rep (@pe_lst _ _ _ _ (@pa_cons _ _ _ _ _ (@pe_tup _ _ _ _ _ (@pa_cons _ _ _ _ _ pe_int (@pa_cons _ _ _ _ _ pe_int pa_nil (by rfl)) (by rfl))) pa_nil (by rfl))) (pv 3)) (by rfl) (by first   | exact .inl rfl   | exact .inr rfl   | assumption)) (@pss_consC _ _ _ _ _ K _ (@ps_asg _ _ _ _ _ _ (pv 8) (@pg_sub _ _ _ _ _ _ _ (pv 9) (pv 7) set_list (by intro _; rfl)) (by rfl) (by rfl) (by rfl)) (@pss_consC _ _ _ _ _ K _ (@ps_asg _ _ _ _ _ _ (@pe_fn _ _ _ _ _ _ _ _ _ _ _ F_quotient_through hr rfl (@pa_cons _ _ _ _ _ (pv 2) (@pa_cons _ _ _ _ _ (pv 9) (@pa_cons _ _ _ _ _ (pv 4) pa_nil (by rfl)) (by rfl)) (by rfl)) (by decide) (by decide) (by rfl) (by rfl)) (@pgT _ K _ _ _ 3 _ rfl (pgs_cons (@pg_name _ _ 10 _ sc_law.nd rfl (Or.inr rfl) (by first   | exact .inl rfl   | exact .inr rfl   | assumption)) (pgs_cons (@pg_name _ _ 11 _ sc_law.nd rfl (Or.inl rfl) (by first   | exact .inl rfl   | exact .inr rfl   | assumption)) (pgs_cons (@pg_name _ _ 12 _ sc_law.nd rfl (Or.inl rfl) (by first   | exact .inl rfl   | exact .inr rfl   | assumption)) pgs_nil))) (by rfl) (by rfl) (by rfl)) (by rfl) (by rfl) (by rfl)) (@pss_consC _ _ _ _ _ K _ (@ps_ifC _ _ _ _ _ _ _ _ K _ _ (@pt_cmpR _ _ _ _ _ _ _ _ op_lt (pv 4) (pv 3) (nomark _)) (@pss_one _ _ _ (@ps_ret _ _ _ _ (@pe_cmpR _ _ _ _ _ _ _ _ (eqD K hr.units) (@pe_tup _ _ _ _ _ (@pa_cons _ _ _ _ _ (pv 10) (@pa_cons _ _ _ _ _ (pv 11) (@pa_cons _ _ _ _ _ (pv 12) pa_nil (by rfl)) (by rfl)) (by rfl))) (@pe_tup _ _ _ _ _ (@pa_cons _ _ _ _ _ (@pe_tup _ _ _ _ _ pa_nil) (@pa_cons _ _ _ _ _ (@pe_tup _ _ _ _ _ (@pa_cons _ _ _ _ _ (@pe_tup _ _ _ _ _ (@pa_cons _ _ _ _ _ pe_int (@pa_cons _ _ _ _ _ pe_int pa_nil (by rfl)) (by rfl))) pa_nil (by rfl))) (@pa_cons _ _ _ _ _ (@pe_lst _ _ _ _ (@pa_cons _ _ _ _ _ (@pe_ix _ _ _ _ _ _ _ (ixL K) (pv 2) (pv 7) (fun u v => rfl)) pa_nil (by rfl))) pa_nil (by rfl)) (by rfl)) (by rfl))) (nomark _)))) pss_nil (by rfl) (by rfl)) (@pss_consC _ _ _ _ _ K _ (@ps_ifC _ _ _ _ _ _ _ _ K _ _ (@PW.pt _ _ _ (@pw_or _ _ _ _ _ _ _ (@pt_cmpR _ _ _ _ _ _ _ _ (neD K hr.units) (pv 11) (@pe_tup _ _ _ _ _ (@pa_cons _ _ _ _ _ (@pe_tup _ _ _ _ _ (@pa_cons _ _ _ _ _ pe_int (@pa_cons _ _ _ _ _ pe_int pa_nil (by rfl)) (by rfl))) pa_nil (by rfl))) (nomark _)) (@pw_or _ _ _ _ _ _ _ (@pt_cmpR _ _ _ _ _ _ _ _ (neD K hr.units) (pv 12) (@pe_lst _ _ _ _ pa_nil) (nomark _)) (@pw_or1 _ _ _ _ (@pt_cmpR _ _ _ _ _ _ _ _ op_ne (@pe_callB _ _ _ _ _ _ _ _ _ (lenK K) rfl b_len bt_len (@pa_cons _ _ _ _ _ (pv 10) pa_nil (by rfl)) (by decide) (by decide) (by rfl) (by rfl)) (pv 3) (nomark _)))))) (@pss_one _ _ _ (@ps_ret _ _ _ _ pe_bl)) pss_nil (by rfl) (by rfl)) (@pss_one _ _ _ (@ps_ret _ _ _ _ (@pe_cmpR _ _ _ _ _ _ _ _ (eqD K hr.units) (@pe_lc _ (["_law_x", "_law_places_here", "_law_heights", "_law_above"]) 1 ([2, 9, 10]) _ _ _ _ _ _ _ _ _ _ rfl (CompOk.look (NX := ["_law_script", "_law_pen_here", "_law_places_here", "_law_many", "_law_width", "_law_height", "_law_due", "_law_spot", "_law_by", "_law_heights", "_law_above", "_law_under", "_law_left"]) (sc := defScope (top 54)) rfl rfl (by decide +kernel)) (@piL _ K _ _ _ (pv 2) (by rfl)) (fun u1 u2 u3 u4 u5 => (@pg_name _ _ 0 _ (show List.Nodup (["_law_x", "_law_places_here", "_law_heights", "_law_above"] : List Str) from by decide +kernel) rfl (Or.inl rfl) (by first   | exact .inl rfl   | exact .inr rfl   | assumption))) (stays_name (by decide)) (fun u1 u2 u3 u4 u5 => pts_one (@pt_cmpR _ _ _ _ _ _ _ _ (neD K hr.units) (@pe_fn _ _ _ _ _ _ _ _ _ _ _ F__law_at hr rfl (@pa_cons _ _ _ _ _ (pv 3) (@pa_cons _ _ _ _ _ (pv 0) pa_nil (by rfl)) (by rfl)) (by decide) (by decide) (by rfl) (by rfl)) (@pe_ix _ _ _ _ _ _ _ (ixL K) (pv 2) (@pe_bmK _ _ _ _ _ _ _ _ _ _ _ _ K PySem.F.plainAttrs_list PySem.F.slot_list_index PySem.F.type_list_index (mt_indexN K hr) (pv 1) (@pa_cons _ _ _ _ _ (pv 0) pa_nil (by rfl)) (by rfl) (by rfl) (by rfl) (by rfl) (by rfl) (by rfl)) (fun u v => rfl)) (nomark _))) (fun u1 u2 u3 u4 u5 => (pv 0)) (by intro _; rfl)) (@pe_lst _ _ _ _ pa_nil) (nomark _)))) (by rfl)) (by rfl)) (by rfl)) (by rfl)) (by rfl)) (by rfl)) (by rfl)) (by rfl)) (by rfl)) (by rfl)) (by rfl)) (by rfl)) (by rfl)) (by rfl)) (by rfl)) (by rfl)), ?_⟩
 obtain ⟨a0, ns, rfl, hS, h63, hTb, q⟩ := h
 have P0 : 0 ≤ sizeLine := by decide
 have P1 : 1 ≤ sizeLine := by decide
 have P2 : 2 ≤ sizeLine := by decide
 have P3 : 3 ≤ sizeLine := by decide
 have P60 : 60 ≤ sizeLine := by decide
 refine ⟨_, rfl, a0, ns, 0, rfl, hS, h63, by decide, by decide, fun p c0 c1 hp => ?_⟩
 have pn : Pen (upd H p (.lst [.int c0, .int c1, .int 0])) p := .put
 have tb : (upd H p (.lst [.int c0, .int c1, .int 0])) 194 = some (.tbl #[]) := (Same.new hp) _ _ hTb
 generalize upd H p (.lst [.int c0, .int c1, .int 0]) = H1 at pn tb ⊢
 clear hS hp hTb
 refine ⟨_, rfl, _, rfl, p, 7, rfl, pn, by decide, by decide, fun d H5 d0 d1 o5 p5 => ⟨_, _, rfl, rfl, p, _, rfl, p5, by lia, by lia, fun l H6 zs qs m6 p6 hl el hz hql hnd hb => ?_⟩⟩
 have lp : l ≠ p := p5.ne' hl
 have tb := tb_mv tb pn ((OnlyAt.mv o5).trans m6)
 clear hl m6 p5 o5
 try dsimp only
 refine seq_joinN (L2 a0 p fun a0 p σ' G => ∃ (l : Addr) (zs : List V) (qs : List Rat) (nx : Nat), σ' = [some (.ref a0), some (.ref p), some (.ref l), none, none, none, none, none, none, none, none, none, none] ∧ Pen G p ∧ l ≠ p ∧ G l = some (.lst zs) ∧ NumsT G zs qs ∧ qs.Nodup ∧ (∀ c ∈ qs, RB nx c) ∧ ((nx = 16 ∧ 1 ≤ qs.length ∧ qs.length ≤ 7) ∨ (nx = 6 ∧ 8 ≤ qs.length ∧ qs.length ≤ 12)) ∧ G 194 = some (.tbl #[])) (fun nx hnx => ?_) ?_
 · refine ⟨_, rfl, p, 3, rfl, p6, by decide, by decide, fun e H7 e0 e1 o7 p7 => ?_⟩
   have m7 := OnlyAt.mv o7
   have tb7 := tb_mv tb p6 m7
   refine ⟨rfl, _, rfl, ?_⟩
   by_cases he : e = 0
   · refine iteTc (decide_eq_true (by rw [he])) ?_
     refine lc_of ⟨_, rfl, p, 5, rfl, p7, by decide, by decide, fun f H8 f0 f1 o8 p8 => ⟨_, _, rfl, rfl, ?_⟩⟩
     obtain ⟨N, hN⟩ : ∃ N : Nat, 8 + f = (N : Int) := ⟨(8 + f).toNat, by lia⟩
     rw [hN]
     refine ⟨_, rfl, by lia, by lia, ?_⟩
     have m8 := OnlyAt.mv o8
     refine lc_itr (n := N) (L2 p H8 fun p H8 i ys G => Mv p H8 G ∧ Pen G p ∧ ys.length = i ∧ ∃ rs, NumsT G ys rs ∧ rs.Nodup ∧ ∀ c ∈ rs, ∃ z : Int, c = (z : Rat) ∧ -18 ≤ z ∧ z < 3 * (i : Int) - 18) ⟨Mv.refl _ _, p8, rfl, [], .nil, List.nodup_nil, (fun _ h => nomatch h)⟩ (fun i ys G _ h => h.2.2.1) (Nat.le_trans (show N ≤ 60 by lia) P60) ?_ ?_
     · rintro i ys G hi hR1
       obtain ⟨mg, pg, hyl, rs, hrs, hrn, hrz⟩ := hR1
       try clear hR1
       refine ⟨_, rfl, p, 3, rfl, pg, by decide, by decide, fun v G1 v0 v1 og pg1 => ⟨_, rfl, _, _, rfl, rfl, .inl ⟨by decide, by decide⟩, _, _, rfl, rfl, _, _, rfl, rfl, P2, fun t ht => ?_⟩⟩
       have nt := Same.new (o := .tup [.int (v + 3 * (0 + (i : Int)) - 18), .int 1]) ht
       refine ⟨(mg.trans (OnlyAt.mv og)).trans nt.mv, pg1.sm nt, by simp [hyl], rs ++ [((v + 3 * (0 + (i : Int)) - 18 : Int) : Rat)], Paired.snoc (NumsT.same (NumsT.mv hrs pg (OnlyAt.mv og)) nt) ⟨t, rfl, by rw [nT_i53]; exact upd_same⟩, ?_, fun c hc => ?_⟩
       · rw [List.nodup_append]
         refine ⟨hrn, List.pairwise_singleton .., fun c hc d hd e => ?_⟩
         refine exE1 (hrz c hc) fun z hz106' => ?_
         refine anE3 hz106' fun hq105 z1 z2 => ?_
         clear hz106'
         obtain rfl := hq105
         rw [List.mem_singleton.mp hd] at e
         have := i53_inj e
         lia
       · rcases List.mem_append.mp hc with z | z
         · refine exE1 (hrz c z) fun w hz108' => ?_
           refine anE3 hz108' fun hq107 w1 w2 => ?_
           clear hz108'
           obtain rfl := hq107
           exact ⟨w, rfl, w1, by lia⟩
         · rw [List.mem_singleton.mp z]
           exact ⟨_, rfl, by lia, by lia⟩
     rintro ys G hR2 l2 hl2
     obtain ⟨mg, pg, hyl, rs, hrs, hrn, hrz⟩ := hR2
     try clear hR2
     have n2 := Same.new (o := .lst ys) hl2
     have hrl := hrs.length
     refine hnx _ _ ⟨l2, ys, rs, 6, rfl, pg.sm n2, pg.ne' hl2, upd_same, NumsT.same hrs n2, hrn, fun c hc => ?_, .inr ⟨rfl, by lia, by lia⟩, n2 _ _ (tb_mv tb7 p7 (m8.trans mg))⟩
     refine exE1 (hrz c hc) fun z hz111' => ?_
     refine anE3 hz111' fun hq110 z1 z2 => ?_
     clear hz111'
     obtain rfl := hq110
     exact ⟨by rw [Rat.num_intCast]; unfold Bd; lia, by rw [Rat.den_intCast]; unfold Bd; decide⟩
   · refine iteFc (decide_eq_false fun z => he (V.int.inj z)) ?_
     exact hnx _ _ ⟨l, zs, qs, 16, rfl, p7, lp, m7 _ _ lp el, NumsT.mv hz p6 m7, hnd, hb, .inl ⟨rfl, by lia, by lia⟩, tb7⟩
 clear el hz hql hnd hb lp tb p6
 rintro σ' G0 hR3
 refine exE4 hR3 fun l zs qs nx hz113' => ?_
 refine anE9 hz113' fun hq112 pG lp el hz hnd hb hhi tb => ?_
 clear hz113'
 obtain rfl := hq112
 try clear hR3
 have hzl := hz.length
 refine ⟨_, rfl, l, zs, rfl, .inl (SqL.of el), ?_⟩
 refine ⟨_, rfl, _, rfl, p, _, rfl, pG, by lia, by lia, fun w G1 w0 w1 o1 p1 => ⟨_, _, rfl, rfl, ?_⟩⟩
 obtain ⟨W, hW, hW1, hWn⟩ : ∃ W : Nat, 1 + w = (W : Int) ∧ 1 ≤ W ∧ W ≤ qs.length := ⟨(1 + w).toNat, by lia, by lia, by lia⟩
 rw [hW]
 have tb := tb_mv tb pG (OnlyAt.mv o1)
 have hz := NumsT.mv hz pG (OnlyAt.mv o1)
 have el := OnlyAt.mv o1 _ _ lp el
 clear o1 pG
 refine ⟨_, rfl, p, rfl, p1, fun h rh G2 m2 p2 eh bh1 bh2 => ⟨P2, fun t1 h1 => ⟨P2, fun t2 h2 => ?_⟩⟩⟩
 have n1 := Same.new (o := .tup [.int 0, .int 1]) h1
 have n2 := Same.new (o := .lst [.ref rh, .ref t1]) h2
 have e1 := n2 _ _ (upd_same (H := G2) (a := t1) (o := .tup [.int 0, .int 1]))
 have eh := n2 _ _ (n1 _ _ eh)
 have n12 := n1.trans n2
 have tb := n12 _ _ (tb_mv tb p1 m2)
 have hz := NumsT.same (NumsT.mv hz p1 m2) n12
 have el := n12 _ _ (m2 _ _ lp el)
 have e2 := upd_same (H := upd G2 t1 (.tup [.int 0, .int 1])) (a := t2) (o := .lst [.ref rh, .ref t1])
 have p2' := p2.sm n12
 have l2p : t2 ≠ p := (p2.sm n1).ne' h2
 generalize upd (upd G2 t1 (.tup [.int 0, .int 1])) t2 (.lst [.ref rh, .ref t1]) = G3 at e1 e2 eh tb hz el p2' ⊢
 clear n1 n2 n12 h1 h2 m2 p1 p2
 refine ⟨_, rfl, p, 2, rfl, p2', by decide, by decide, fun b G4 b0 b1 o4 p4 => ?_⟩
 have m4 := OnlyAt.mv o4
 obtain ⟨rv, h, hat, ev, bh⟩ : ∃ rv h, atI [V.ref rh, V.ref t1] b = some (.ref rv) ∧ G4 rv = some (nT h) ∧ RB 8 h := by
   rcases show b = 0 ∨ b = 1 by lia with rfl | rfl
   · exact ⟨rh, h, rfl, m4 _ _ (p2'.ne eh fun _ _ _ z => by cases z) eh, bh1, bh2⟩
   · exact ⟨t1, 0, rfl, m4 _ _ (p2'.ne e1 fun _ _ _ z => by cases z) e1, ⟨by unfold Bd; decide, by unfold Bd; decide⟩⟩
 refine ⟨t2, _, b, _, rfl, rfl, SqL.of (m4 _ _ l2p e2), hat, ?_⟩
 have tb := tb_mv tb p2' m4
 have hz := NumsT.mv hz p2' m4
 have el := m4 _ _ lp el
 clear hat e1 e2 eh m4 o4 p2' l2p bh1 bh2
 refine ⟨_, rfl, P1, fun u1 g1 => ⟨P2, fun u2 g2 => ⟨P1, fun u3 g3 => ⟨P0, fun u4 g4 => ⟨P3, fun u5 g5 => ?_⟩⟩⟩⟩⟩
 have n1 := Same.new (o := .tup [.ref rv]) g1
 have n2 := Same.new (o := .tup [.int 1, .int 1]) g2
 have n3 := Same.new (o := .tup [.ref u2]) g3
 have n4 := Same.new (o := .lst []) g4
 have n5 := Same.new (o := .tup [.ref u1, .ref u3, .ref u4]) g5
 have f1 := n5 _ _ (n4 _ _ (n3 _ _ (n2 _ _ (upd_same (H := G4) (a := u1) (o := .tup [.ref rv])))))
 have f2 := n5 _ _ (n4 _ _ (n3 _ _ (upd_same (H := upd G4 u1 (.tup [.ref rv])) (a := u2) (o := .tup [.int 1, .int 1]))))
 have f3 := n5 _ _ (n4 _ _ (upd_same (H := upd (upd G4 u1 (.tup [.ref rv])) u2 (.tup [.int 1, .int 1])) (a := u3) (o := .tup [.ref u2])))
 have f4 := n5 _ _ (upd_same (H := upd (upd (upd G4 u1 (.tup [.ref rv])) u2 (.tup [.int 1, .int 1])) u3 (.tup [.ref u2])) (a := u4) (o := .lst []))
 have f5 := upd_same (H := upd (upd (upd (upd G4 u1 (.tup [.ref rv])) u2 (.tup [.int 1, .int 1])) u3 (.tup [.ref u2])) u4 (.lst [])) (a := u5) (o := .tup [.ref u1, .ref u3, .ref u4])
 have n15 := (((n1.trans n2).trans n3).trans n4).trans n5
 have tb := n15 _ _ tb
 have hz := NumsT.same hz n15
 have el := n15 _ _ el
 have ev := n15 _ _ ev
 have p5 := p4.sm n15
 generalize upd (upd (upd (upd (upd G4 u1 (.tup [.ref rv])) u2 (.tup [.int 1, .int 1])) u3 (.tup [.ref u2])) u4 (.lst [])) u5 (.tup [.ref u1, .ref u3, .ref u4]) = G5 at f1 f2 f3 f4 f5 tb hz el ev p5 ⊢
 clear n1 n2 n3 n4 n5 n15 g1 g2 g3 g4 g5 p4
 try dsimp only
 refine seq_joinN (L9 a0 p l zs W rv G5 K h fun a0 p l zs W rv G5 K h σ' G => ∃ dd a b l3 : Addr, σ' = [some (.ref a0), some (.ref p), some (.ref l), some (.int ((zs.length : Nat) : Int)), some (.int (W : Int)), some (.ref rv), some (.ref dd), none, none, none, none, none, none] ∧ Same G5 G ∧ SqT K G dd [.ref a, .ref b, .ref l3] ∧ Crv K G a (Cv.strip [h]) ∧ Crv K G b [1] ∧ SqL K G l3 []) (fun nx hnx => ?_) ?_
 · refine ⟨_, rfl, P2, fun u6 g6 => ?_⟩
   have n6 := Same.new (o := .tup [.int 0, .int 1]) g6
   refine eqN (NumV.of (n6 _ _ ev)) (NumV.of (upd_same (o := nT 0))) ?_
   refine ⟨_, rfl, ?_⟩
   by_cases h0 : h = 0
   · refine iteTc (decide_eq_true h0) ⟨P0, fun v1 k1 => ⟨P2, fun v2 k2 => ⟨P1, fun v3 k3 => ⟨P0, fun v4 k4 => ⟨P3, fun v5 k5 => ?_⟩⟩⟩⟩⟩
     have k1 := Same.new (o := .tup []) k1
     have k2 := Same.new (o := .tup [.int 1, .int 1]) k2
     have k3 := Same.new (o := .tup [.ref v2]) k3
     have k4 := Same.new (o := .lst []) k4
     have k5 := Same.new (o := .tup [.ref v1, .ref v3, .ref v4]) k5
     exact hnx _ _ ⟨v5, v1, v3, v4, rfl, ((((n6.trans k1).trans k2).trans k3).trans k4).trans k5, SqT.of upd_same, ⟨[], SqT.of (k5 _ _ (k4 _ _ (k3 _ _ (k2 _ _ upd_same)))), by rw [h0, strip_zero]; exact .nil⟩, ⟨[.ref v2], SqT.of (k5 _ _ (k4 _ _ upd_same)), .cons ⟨v2, rfl, SqT.of (k5 _ _ (k4 _ _ (k3 _ _ upd_same)))⟩ .nil⟩, SqL.of (k5 _ _ upd_same)⟩
   · refine iteFc (decide_eq_false h0) ?_
     exact hnx _ _ ⟨u5, u1, u3, u4, rfl, n6, SqT.of (n6 _ _ f5), ⟨[.ref rv], SqT.of (n6 _ _ f1), by rw [strip_good (.inr ⟨h, rfl, h0⟩)]; exact .cons (NumV.of (n6 _ _ ev)) .nil⟩, ⟨[.ref u2], SqT.of (n6 _ _ f3), .cons ⟨u2, rfl, SqT.of (n6 _ _ f2)⟩ .nil⟩, SqL.of (n6 _ _ f4)⟩
 clear f1 f2 f3 f4 f5
 rintro σ' G6 hR4
 refine exE4 hR4 fun dd da db dl hz115' => ?_
 refine anE6 hz115' fun hq114 s6 hdd cda cdb hdl => ?_
 clear hz115'
 obtain rfl := hq114
 try clear hR4
 have hC1 : (nx + 1) * (qs.length + 3) + 8 + 2 ≤ 180 := by
   rcases hhi with ⟨z, w, w'⟩ | ⟨z, w, w'⟩
   · have := Nat.mul_le_mul_left (nx + 1) (show qs.length + 3 ≤ 10 by lia)
     lia
   · have := Nat.mul_le_mul_left (nx + 1) (show qs.length + 3 ≤ 15 by lia)
     lia
 have hC2 : (gAS 180 qs.length).2 + 3 * 180 ≤ 700000 := Nat.le_trans (Nat.add_le_add_right (gAS_mono 180 (show qs.length ≤ 12 by lia)) _) (by decide)
 have hnx1 : 1 ≤ nx ∧ nx ≤ 16 := by lia
 have hn12 : 1 ≤ qs.length ∧ qs.length ≤ 12 := by lia
 clear hhi
 refine ⟨_, rfl, _, rfl, P1, fun o1 h1 => ?_⟩
 have n1 := Same.new (o := .lst [.ref rv]) h1
 refine ⟨_, rfl, o1, _, [.ref rv], rfl, rfl, upd_same, by lia, by lia, Nat.le_trans (show _ ≤ 60 by show 1 * _ ≤ 60; lia) P60, fun o2 h2 => ?_⟩
 rw [Int.toNat_natCast, repA]
 have n2 := Same.new (o := .lst (List.replicate zs.length (.ref rv))) h2
 have s62 := s6.trans (n1.trans n2)
 have n12 := n1.trans n2
 have e2 := upd_same (H := upd G6 o1 (.lst [.ref rv])) (a := o2) (o := .lst (List.replicate zs.length (.ref rv)))
 generalize upd (upd G6 o1 (.lst [.ref rv])) o2 (.lst (List.replicate zs.length (.ref rv))) = G7 at n12 e2 s62 ⊢
 have ct0 : CtOk 194 riseQ G7 := ct_new (s62 _ _ tb)
 have hz := NumsT.same hz s62
 have el := s62 _ _ el
 have p7 := p5.sm s62
 refine ⟨_, rfl, l, o2, zs, _, qs, List.replicate zs.length h, W, qs.length, nx, 8, 180, rfl, SqL.of el, hz, SqL.of e2, nums_rep (NumV.of (s62 _ _ ev)) _, rfl, by rw [List.length_replicate]; exact hzl, hn12.1, hn12.2, hnd, hW1, hWn, hb, fun c hc => by rw [List.eq_of_mem_replicate hc]; exact bh, hnx1.1, by lia, by lia, hC1, hC2, ct0, fun t a b l9 G8 r1 r2 N D N2 D2 n' d' fs ls c m8 ct8 hT cn cd gn gd hlast hc0 I hDne evN evD hnl hdl' el9 hls hperm hpw bn bd => ?_⟩
 obtain ⟨rfl, rfl, hleft⟩ := one_height rfl (by rw [List.length_replicate]; exact hzl) hnd hW1 hWn (fun y hy => List.eq_of_mem_replicate hy) I hDne hc0 gn gd hlast evN evD
 rw [hleft] at hperm
 have efs := hperm.eq_nil
 subst efs
 refine ⟨_, rfl, eq3 hT cn cd (SqL.of el9) hls ((hdd.same n12).but ct0 m8) ((cda.same n12).but ct0 m8) ((cdb.same n12).but ct0 m8) (seqL_but (Same.seq n12 hdl) ct0 m8) .nil ?_⟩
 refine ⟨_, rfl, iteFc rfl ?_⟩
 have hz := numsT_but hz ct0 m8
 have el := lst_but el ct0 m8
 have p8 := pen_but p7 ct0 m8
 clear I evN evD hDne hlast gn gd cn cd hls el9 hT hperm hpw bn bd hnl hdl' hleft m8 n12 n1 n2 s6 s62 hdd cda cdb hdl h1 h2 e2 p7 ct0 tb ev
 refine ⟨_, rfl, _, rfl, p, _, rfl, p8, by lia, by lia, fun s G9 s0 s1 o9 p9 => ?_⟩
 obtain ⟨S, rfl⟩ : ∃ S : Nat, s = (S : Int) := ⟨s.toNat, by lia⟩
 have m9 := OnlyAt.mv o9
 have hz := NumsT.mv hz p8 m9
 have el := m9 _ _ lp el
 have ct9 := ct_mv ct8 p8 m9
 clear m9 o9 p8 ct8
 refine ⟨P2, fun v1 k1 => ⟨_, _, rfl, rfl, P2, fun v2 k2 => ⟨P2, fun v3 k3 => ?_⟩⟩⟩
 have n1 := Same.new (o := .tup [.int 1, .int 1]) k1
 have n2 := Same.new (o := .tup [.int (0 - 2), .int 3]) k2
 have n3 := Same.new (o := .lst [.ref v1, .ref v2]) k3
 have f1 := n3 _ _ (n2 _ _ (upd_same (H := G9) (a := v1) (o := .tup [.int 1, .int 1])))
 have f2 := n3 _ _ (upd_same (H := upd G9 v1 (.tup [.int 1, .int 1])) (a := v2) (o := .tup [.int (0 - 2), .int 3]))
 have f3 := upd_same (H := upd (upd G9 v1 (.tup [.int 1, .int 1])) v2 (.tup [.int (0 - 2), .int 3])) (a := v3) (o := .lst [.ref v1, .ref v2])
 have v3p : v3 ≠ p := ((p9.sm n1).sm n2).ne' k3
 have n13 := (n1.trans n2).trans n3
 have hz := NumsT.same hz n13
 have el := n13 _ _ el
 have ct10 := ct9.same n13
 have p10 := p9.sm n13
 generalize upd (upd (upd G9 v1 (.tup [.int 1, .int 1])) v2 (.tup [.int (0 - 2), .int 3])) v3 (.lst [.ref v1, .ref v2]) = G10 at f1 f2 f3 hz el ct10 p10 ⊢
 clear n1 n2 n3 n13 k1 k2 k3 ct9 p9
 refine ⟨_, rfl, p, 2, rfl, p10, by decide, by decide, fun b G11 b0 b1 o11 p11 => ?_⟩
 have m11 := OnlyAt.mv o11
 obtain ⟨ry, y, hat, ey, hy, by8⟩ : ∃ ry y, atI [V.ref v1, V.ref v2] b = some (.ref ry) ∧ G11 ry = some (nT y) ∧ y ≠ 0 ∧ RB 8 y := by
   rcases show b = 0 ∨ b = 1 by lia with rfl | rfl
   · exact ⟨v1, 1, rfl, m11 _ _ (p10.ne f1 fun _ _ _ z => by cases z) f1, by decide, ⟨by unfold Bd; decide, by unfold Bd; decide⟩⟩
   · exact ⟨v2, r23, rfl, by rw [nT_r23]; exact m11 _ _ (p10.ne f2 fun _ _ _ z => by cases z) f2, rat23, rb_r23⟩
 refine ⟨v3, _, b, _, rfl, rfl, SqL.of (m11 _ _ v3p f3), hat, ?_⟩
 have hz := NumsT.mv hz p10 m11
 have el := m11 _ _ lp el
 have ct11 := ct_mv ct10 p10 m11
 clear hat f1 f2 f3 v3p m11 o11 p10 ct10
 refine ⟨P2, fun v4 k4 => ⟨P1, fun v5 k5 => ?_⟩⟩
 have n4 := Same.new (o := .tup [.int 0, .int 1]) k4
 have n5 := Same.new (o := .lst [.ref v4]) k5
 have f4 := n5 _ _ (upd_same (H := G11) (a := v4) (o := .tup [.int 0, .int 1]))
 refine ⟨_, rfl, v5, _, [.ref v4], rfl, rfl, upd_same, by lia, by lia, Nat.le_trans (show _ ≤ 60 by show 1 * _ ≤ 60; lia) P60, fun o6 k6 => ?_⟩
 rw [Int.toNat_natCast, repA]
 have n6 := Same.new (o := .lst (List.replicate zs.length (.ref v4))) k6
 have f6 := upd_same (H := upd (upd G11 v4 (.tup [.int 0, .int 1])) v5 (.lst [.ref v4])) (a := o6) (o := .lst (List.replicate zs.length (.ref v4)))
 have n46 := (n4.trans n5).trans n6
 have f4 := n6 _ _ f4
 have hlo : l ≠ o6 := fun z => by
   rw [z] at el
   rw [n5 _ _ (n4 _ _ el)] at k6
   cases k6
 have s12 : Same G11 (upd (upd (upd (upd G11 v4 (.tup [.int 0, .int 1])) v5 (.lst [.ref v4])) o6 (.lst (List.replicate zs.length (.ref v4)))) o6 (.lst ((List.replicate zs.length (.ref v4)).set S (.ref ry)))) := fun a o e => by
   have hne : a ≠ o6 := fun z => by
     rw [z] at e
     rw [n5 _ _ (n4 _ _ e)] at k6
     cases k6
   rw [upd_ne hne]
   exact n46 _ _ e
 have f4 : (upd (upd (upd (upd G11 v4 (.tup [.int 0, .int 1])) v5 (.lst [.ref v4])) o6 (.lst (List.replicate zs.length (.ref v4)))) o6 (.lst ((List.replicate zs.length (.ref v4)).set S (.ref ry)))) v4 = some (nT 0) := by
   rw [upd_ne (ne_of f4 f6 fun z => by cases z)]; exact f4
 refine ⟨_, rfl, _, rfl, _, rfl, o6, _, _, S, rfl, rfl, f6, by unfold ixN; rw [if_pos (by lia), if_pos (by rw [List.length_replicate]; lia), Int.toNat_natCast], ?_⟩
 have f7 := upd_same (H := upd (upd (upd G11 v4 (.tup [.int 0, .int 1])) v5 (.lst [.ref v4])) o6 (.lst (List.replicate zs.length (.ref v4)))) (a := o6) (o := .lst ((List.replicate zs.length (.ref v4)).set S (.ref ry)))
 generalize upd (upd (upd (upd G11 v4 (.tup [.int 0, .int 1])) v5 (.lst [.ref v4])) o6 (.lst (List.replicate zs.length (.ref v4)))) o6 (.lst ((List.replicate zs.length (.ref v4)).set S (.ref ry))) = G12 at s12 f4 f7 ⊢
 have hz := NumsT.same hz s12
 have el := s12 _ _ el
 have ey := s12 _ _ ey
 have ct12 := ct11.same s12
 clear f6 n4 n5 n6 n46 k4 k5 k6 s12 ct11 hlo
 have hSl : S < qs.length := by lia
 have hys : ∀ k, S < k → Nums K G12 ((List.replicate k (.ref v4)).set S (.ref ry)) ((List.replicate k (0 : Rat)).set S y) := fun k hk => by
   have h1 : Nums K G12 (List.replicate k (.ref v4)) (List.replicate k (0 : Rat)) := nums_rep (NumV.of f4) k
   exact Paired.set (NumV.of ey) S h1
 have hys := hys qs.length hSl
 rw [← hzl] at hys
 have hbs : ∀ c ∈ (List.replicate qs.length (0 : Rat)).set S y, RB 8 c := fun c hc => by
   rcases List.mem_or_eq_of_mem_set hc with z | z
   · rw [List.eq_of_mem_replicate z]; exact ⟨by unfold Bd; decide, by unfold Bd; decide⟩
   · rw [z]; exact by8
 rw [hzl] at hys
 refine ⟨_, rfl, _, rfl, _, rfl, l, o6, zs, _, qs, (List.replicate qs.length (0 : Rat)).set S y, W, qs.length, nx, 8, 180, rfl, SqL.of el, hz, SqL.of f7, by rw [hzl]; exact hys, rfl, by rw [List.length_set, List.length_replicate], hn12.1, hn12.2, hnd, hW1, hWn, hb, hbs, hnx1.1, by lia, by lia, hC1, hC2, ct12, fun t a b l9 G8 r1 r2 N D N2 D2 n' d' fs ls c m8 ct8 hT cn cd gn gd hlast hc0 I hDne evN evD hnl hdl' el9 hls hperm hpw bn bd => ?_⟩
 have el := lst_but el ct12 m8
 have hz := numsT_but hz ct12 m8
 have f7 := lst_but f7 ct12 m8
 have hys := Paired.mapP hys fun _ _ z => z.but ct12 m8
 refine ⟨t, _, rfl, hT, rfl, _, _, rfl, _, _, rfl, _, _, rfl, rfl, ?_⟩
 refine ⟨_, rfl, _, rfl, _, _, rfl, rfl, _, rfl, ?_⟩
 clear m8 ct8 ct12 hT f4 ey
 by_cases hlt : W < qs.length
 · refine iteTc (decide_eq_true (by lia)) ?_
   obtain ⟨rfl, rfl, hleft⟩ := (one_other rfl hnd hlt hSl hy I hc0 gn gd hlast evN evD)
   rw [hleft, List.perm_singleton] at hperm
   subst hperm
   clear I evN evD hDne gn gd
   refine ⟨_, rfl, _, rfl, _, rfl, P3, fun w1 k1 => ⟨P0, fun w2 k2 => ⟨P2, fun w3 k3 => ⟨P1, fun w4 k4 => ?_⟩⟩⟩⟩
   have n1 := Same.new (o := .tup [.ref a, .ref b, .ref l9]) k1
   have n2 := Same.new (o := .tup []) k2
   have n3 := Same.new (o := .tup [.int 1, .int 1]) k3
   have n4 := Same.new (o := .tup [.ref w3]) k4
   have n14 := ((n1.trans n2).trans n3).trans n4
   obtain ⟨rx, hx, hrx⟩ : ∃ rx, zs[S]? = some (.ref rx) ∧ G8 rx = some (nT qs[S]) := by
     obtain ⟨v, hv, rx, rfl, hrx⟩ := (Paired.get' hz (List.getElem?_eq_getElem hSl))
     exact ⟨rx, hv, hrx⟩
   refine ⟨_, rfl, _, rfl, l, zs, _, _, rfl, rfl, SqL.of (n14 _ _ el), atI_nat hx, P1, fun w5 k5 => ⟨P3, fun w6 k6 => ?_⟩⟩
   have n5 := Same.new (o := .lst [.ref rx]) k5
   have n6 := Same.new (o := .tup [.ref w2, .ref w4, .ref w5]) k6
   have n16 := (n14.trans n5).trans n6
   have n36 := ((n3.trans n4).trans n5).trans n6
   have n46 := (n4.trans n5).trans n6
   refine eq3 (SqT.of ((n2.trans n36) _ _ upd_same)) (cn.same n16) (cd.same n16) (SqL.of (n16 _ _ el9)) (Nums.same hls n16) (SqT.of upd_same) ⟨[], SqT.of (n36 _ _ upd_same), .nil⟩ ⟨[.ref w3], SqT.of ((n5.trans n6) _ _ upd_same), .cons ⟨w3, rfl, SqT.of (n46 _ _ upd_same)⟩ .nil⟩ (SqL.of (n6 _ _ upd_same)) (.cons ⟨rx, rfl, SqT.of (n16 _ _ hrx)⟩ .nil) ?_
   exact q _
 · refine iteFc (decide_eq_false (by lia)) ?_
   have eW : W = qs.length := by lia
   subst eW
   obtain ⟨rfl, hat, hleft⟩ := (full_found rfl (by rw [List.length_set, List.length_replicate]) I hc0 gd hlast evN evD)
   rw [hleft] at hperm
   have efs := hperm.eq_nil
   subst efs
   have hlong := full_long hSl hnd hy hnl hat
   clear I evN evD hDne gn gd
   refine ⟨_, rfl, P2, fun w1 k1 => ⟨P1, fun w2 k2 => ?_⟩⟩
   have n1 := Same.new (o := .tup [.int 1, .int 1]) k1
   have n2 := Same.new (o := .tup [.ref w1]) k2
   have n12 := n1.trans n2
   refine eqT (qs := [1]) (cd.same n12) ⟨[.ref w1], SqT.of upd_same, .cons ⟨w1, rfl, SqT.of (n2 _ _ upd_same)⟩ .nil⟩ ?_
   refine ⟨_, rfl, iteFc rfl ?_⟩
   refine ⟨_, rfl, P0, fun w3 k3 => ?_⟩
   have n3 := n12.trans (Same.new (o := .lst []) k3)
   refine eqL (SqL.of (n3 _ _ el9)) (Nums.same hls n3) (SqL.of upd_same) .nil ?_
   refine ⟨_, rfl, iteFc rfl ?_⟩
   obtain ⟨vn, hvn, hnn⟩ := (cn.same n3)
   have lvn := hnn.length
   refine ⟨_, rfl, a, vn, rfl, .inr hvn, _, rfl, rfl, _, rfl, iteFc (by rw [show (vn.length : Int) = (zs.length : Int) by lia, decide_eq_true rfl]; rfl) ?_⟩
   have el := n3 _ _ el
   have hz := NumsT.same hz n3
   have f7 := n3 _ _ f7
   have hys := Nums.same hys n3
   generalize upd (upd (upd G8 w1 (.tup [.int 1, .int 1])) w2 (.tup [.ref w1])) w3 (.lst []) = G13 at el hz f7 hys hvn hnn ⊢
   have kk : (3000000 + nx * n'.length + 4) * (n'.length + 2) ≤ 3000200 * 14 := Nat.mul_le_mul (by have := Nat.mul_le_mul hnx1.2 (show n'.length ≤ 12 by lia); lia) (by lia)
   refine lc_of ⟨_, rfl, l, rfl, ⟨_, SqL.of el⟩, ?_⟩
   refine lc_filt (xs := zs) (fun i us W => Same G13 W ∧ us = []) ⟨Same.refl _, rfl⟩ (fun i us W _ h => ⟨SqL.of (h.1 _ _ el), by rw [h.2]; exact Nat.zero_le _⟩) (Nat.le_of_lt (small1000 (by lia))) ?_ ?_
   · rintro i v us W' hv ⟨sw, rfl⟩
     obtain ⟨x, hx, rx, rfl, hrx⟩ := (Paired.get hz hv)
     have hi := (List.getElem?_eq_some_iff.mp hx).1
     have hxi := (List.getElem?_eq_some_iff.mp hx).2
     refine ⟨_, rfl, _, rfl, false, a, rx, vn, n', x, 3000000, nx, rfl, hvn.same sw, Nums.same hnn sw, NumV.of (sw _ _ hrx), bn, hb x (List.mem_of_getElem? hx), by lia, fun p1 W1 s1 e1 _ => ?_⟩
     have sw1 := sw.trans s1
     have hgy : ((List.replicate qs.length (0 : Rat)).set S y)[i]? = some (Cv.ev n' x) := by
       rw [List.getElem?_eq_getElem (by rw [List.length_set, List.length_replicate]; exact hi), ← hat i hi, hxi]
     obtain ⟨vy, hvy, hny⟩ := (Paired.get' hys hgy)
     rw [← hzl] at hvy
     refine ⟨_, rfl, _, rfl, .inl ⟨rfl, _, SqL.of (sw1 _ _ el)⟩, _, rfl, l, zs, _, qs, x, i, rfl, rfl, SqL.of (sw1 _ _ el), (NumsT.same hz sw1).nums, NumV.of (sw1 _ _ hrx), hx, fun j hj z => ?_, by lia, o6, _, _, _, rfl, rfl, SqL.of (sw1 _ _ f7), atI_nat hvy, ?_⟩
     · obtain ⟨hj2, hjx⟩ := (List.getElem?_eq_some_iff.mp z)
       have := (List.pairwise_iff_getElem.mp hnd) j i hj2 hi hj
       exact this (by rw [hjx, hxi])
     refine eqN (NumV.of e1) (NumV.same hny sw1) ?_
     exact ⟨_, rfl, iteFc (by rw [decide_eq_true rfl]; rfl) ⟨sw1, rfl⟩⟩
   rintro us W' ⟨sw, rfl⟩ l7 hl7
   refine ⟨P0, fun l8 hl8 => ?_⟩
   have n7 := Same.new (o := .lst []) hl8
   exact eqL (SqL.of (n7 _ _ upd_same)) .nil (SqL.of upd_same) .nil (q _)
end
set_option maxHeartbeats 4000000 in
theorem all_mk {l : PySem.W.OpenLaw} {w : World} {K : PySem.W.Frag} {h : Heap} {mg : Str → Option Value} {fa f1 f2 f3 f4 f5 f6 f7 f8 f9 f10 f11 f12 f13 f14 f15 f16 f17 f18 f19 f20 f21 f22 f23 f24 f25 f26 f27 f28 f29 f30 f31 f32 f33 f34 f35 f36 f37 f38 : Addr} (hT : l.prog.given.tree = none) (X : K.In h) (G : h.Ns mainGlobals mg) (hfa : mg "law" = some (.ref fa))
   {od1 an1 od2 an2 od3 an3 od4 an4 od5 an5 od6 an6 od7 an7 od8 an8 od9 an9 od10 an10 od11 an11 od12 an12 od13 an13 od14 an14 od15 an15 od16 an16 od17 an17 od18 an18 od19 an19 od20 an20 od21 an21 od22 an22 od23 an23 od24 an24 od25 an25 od26 an26 od27 an27 od28 an28 od29 an29 od30 an30 od31 an31 od32 an32 od33 an33 od34 an34 od35 an35 od36 an36 od37 an37 od38 an38 : Option Addr} {sl1 sl2 sl3 sl4 sl5 sl6 sl7 sl8 sl9 sl10 sl11 sl12 sl13 sl14 sl15 sl16 sl17 sl18 sl19 sl20 sl21 sl22 sl23 sl24 sl25 sl26 sl27 sl28 sl29 sl30 sl31 sl32 sl33 sl34 sl35 sl36 sl37 sl38 : Array (Option Value)} {oc1 kV1 dc1 pm1 cd1 ct1 oc2 kV2 dc2 pm2 cd2 ct2 oc3 kV3 dc3 pm3 cd3 ct3 oc4 kV4 dc4 pm4 cd4 ct4 oc5 kV5 dc5 pm5 cd5 ct5 oc6 kV6 dc6 pm6 cd6 ct6 oc7 kV7 dc7 pm7 cd7 ct7 oc8 kV8 dc8 pm8 cd8 ct8 oc9 kV9 dc9 pm9 cd9 ct9 oc10 kV10 dc10 pm10 cd10 ct10 oc11 kV11 dc11 pm11 cd11 ct11 oc12 kV12 dc12 pm12 cd12 ct12 oc13 kV13 dc13 pm13 cd13 ct13 oc14 kV14 dc14 pm14 cd14 ct14 oc15 kV15 dc15 pm15 cd15 ct15 oc16 kV16 dc16 pm16 cd16 ct16 oc17 kV17 dc17 pm17 cd17 ct17 oc18 kV18 dc18 pm18 cd18 ct18 oc19 kV19 dc19 pm19 cd19 ct19 oc20 kV20 dc20 pm20 cd20 ct20 oc21 kV21 dc21 pm21 cd21 ct21 oc22 kV22 dc22 pm22 cd22 ct22 oc23 kV23 dc23 pm23 cd23 ct23 oc24 kV24 dc24 pm24 cd24 ct24 oc25 kV25 dc25 pm25 cd25 ct25 oc26 kV26 dc26 pm26 cd26 ct26 oc27 kV27 dc27 pm27 cd27 ct27 oc28 kV28 dc28 pm28 cd28 ct28 oc29 kV29 dc29 pm29 cd29 ct29 oc30 kV30 dc30 pm30 cd30 ct30 oc31 kV31 dc31 pm31 cd31 ct31 oc32 kV32 dc32 pm32 cd32 ct32 oc33 kV33 dc33 pm33 cd33 ct33 oc34 kV34 dc34 pm34 cd34 ct34 oc35 kV35 dc35 pm35 cd35 ct35 oc36 kV36 dc36 pm36 cd36 ct36 oc37 kV37 dc37 pm37 cd37 ct37 oc38 kV38 dc38 pm38 cd38 ct38 : Value}
   (a1 : PySem.W.nsIn K mainGlobals "_law_pen" = some (some (.ref f1))) (l1 : K.lookup f1 = some ⟨oc1, od1, .func (PySem.W.fnOf "_law_pen" "_law_pen" (defArgs (top 45)) (defBody (top 45)) (defScope (top 45)) .none kV1 dc1 pm1 an1 cd1 ct1), sl1⟩) (c1 : PySem.W.codeIn K cd1 "_law_pen" = true) (k1 : PySem.W.keepIn K (.ref f1) = true)
   (a2 : PySem.W.nsIn K mainGlobals "_law_lowest" = some (some (.ref f2))) (l2 : K.lookup f2 = some ⟨oc2, od2, .func (PySem.W.fnOf "_law_lowest" "_law_lowest" (defArgs (top 47)) (defBody (top 47)) (defScope (top 47)) .none kV2 dc2 pm2 an2 cd2 ct2), sl2⟩) (c2 : PySem.W.codeIn K cd2 "_law_lowest" = true) (k2 : PySem.W.keepIn K (.ref f2) = true)
   (a3 : PySem.W.nsIn K mainGlobals "_law_draw" = some (some (.ref f3))) (l3 : K.lookup f3 = some ⟨oc3, od3, .func (PySem.W.fnOf "_law_draw" "_law_draw" (defArgs (top 46)) (defBody (top 46)) (defScope (top 46)) .none kV3 dc3 pm3 an3 cd3 ct3), sl3⟩) (c3 : PySem.W.codeIn K cd3 "_law_draw" = true) (k3 : PySem.W.keepIn K (.ref f3) = true)
   (a4 : PySem.W.nsIn K mainGlobals "_law_number" = some (some (.ref f4))) (l4 : K.lookup f4 = some ⟨oc4, od4, .func (PySem.W.fnOf "_law_number" "_law_number" (defArgs (top 51)) (defBody (top 51)) (defScope (top 51)) .none kV4 dc4 pm4 an4 cd4 ct4), sl4⟩) (c4 : PySem.W.codeIn K cd4 "_law_number" = true) (k4 : PySem.W.keepIn K (.ref f4) = true)
   (a5 : PySem.W.nsIn K mainGlobals "_law_plus" = some (some (.ref f5))) (l5 : K.lookup f5 = some ⟨oc5, od5, .func (PySem.W.fnOf "_law_plus" "_law_plus" (defArgs (top 48)) (defBody (top 48)) (defScope (top 48)) .none kV5 dc5 pm5 an5 cd5 ct5), sl5⟩) (c5 : PySem.W.codeIn K cd5 "_law_plus" = true) (k5 : PySem.W.keepIn K (.ref f5) = true)
   (a6 : PySem.W.nsIn K mainGlobals "_law_places" = some (some (.ref f6))) (l6 : K.lookup f6 = some ⟨oc6, od6, .func (PySem.W.fnOf "_law_places" "_law_places" (defArgs (top 53)) (defBody (top 53)) (defScope (top 53)) .none kV6 dc6 pm6 an6 cd6 ct6), sl6⟩) (c6 : PySem.W.codeIn K cd6 "_law_places" = true) (k6 : PySem.W.keepIn K (.ref f6) = true)
   (a7 : PySem.W.nsIn K mainGlobals "are_unlike" = some (some (.ref f7))) (l7 : K.lookup f7 = some ⟨oc7, od7, .func (PySem.W.fnOf "are_unlike" "are_unlike" (defArgs (top 27)) (defBody (top 27)) (defScope (top 27)) .none kV7 dc7 pm7 an7 cd7 ct7), sl7⟩) (c7 : PySem.W.codeIn K cd7 "are_unlike" = true) (k7 : PySem.W.keepIn K (.ref f7) = true)
   (a8 : PySem.W.nsIn K mainGlobals "check_places" = some (some (.ref f8))) (l8 : K.lookup f8 = some ⟨oc8, od8, .func (PySem.W.fnOf "check_places" "check_places" (defArgs (top 28)) (defBody (top 28)) (defScope (top 28)) .none kV8 dc8 pm8 an8 cd8 ct8), sl8⟩) (c8 : PySem.W.codeIn K cd8 "check_places" = true) (k8 : PySem.W.keepIn K (.ref f8) = true)
   (a9 : PySem.W.nsIn K mainGlobals "check_heights" = some (some (.ref f9))) (l9 : K.lookup f9 = some ⟨oc9, od9, .func (PySem.W.fnOf "check_heights" "check_heights" (defArgs (top 30)) (defBody (top 30)) (defScope (top 30)) .none kV9 dc9 pm9 an9 cd9 ct9), sl9⟩) (c9 : PySem.W.codeIn K cd9 "check_heights" = true) (k9 : PySem.W.keepIn K (.ref f9) = true)
   (a10 : PySem.W.nsIn K mainGlobals "common_measure" = some (some (.ref f10))) (l10 : K.lookup f10 = some ⟨oc10, od10, .func (PySem.W.fnOf "common_measure" "common_measure" (defArgs (top 7)) (defBody (top 7)) (defScope (top 7)) .none kV10 dc10 pm10 an10 cd10 ct10), sl10⟩) (c10 : PySem.W.codeIn K cd10 "common_measure" = true) (k10 : PySem.W.keepIn K (.ref f10) = true)
   (a11 : PySem.W.nsIn K mainGlobals "bottom_of" = some (some (.ref f11))) (l11 : K.lookup f11 = some ⟨oc11, od11, .func (PySem.W.fnOf "bottom_of" "bottom_of" (defArgs (top 14)) (defBody (top 14)) (defScope (top 14)) .none kV11 dc11 pm11 an11 cd11 ct11), sl11⟩) (c11 : PySem.W.codeIn K cd11 "bottom_of" = true) (k11 : PySem.W.keepIn K (.ref f11) = true)
   (a12 : PySem.W.nsIn K mainGlobals "tops_over" = some (some (.ref f12))) (l12 : K.lookup f12 = some ⟨oc12, od12, .func (PySem.W.fnOf "tops_over" "tops_over" (defArgs (top 15)) (defBody (top 15)) (defScope (top 15)) .none kV12 dc12 pm12 an12 cd12 ct12), sl12⟩) (c12 : PySem.W.codeIn K cd12 "tops_over" = true) (k12 : PySem.W.keepIn K (.ref f12) = true)
   (a13 : PySem.W.nsIn K mainGlobals "curve_of" = some (some (.ref f13))) (l13 : K.lookup f13 = some ⟨oc13, od13, .func (PySem.W.fnOf "curve_of" "curve_of" (defArgs (top 13)) (defBody (top 13)) (defScope (top 13)) .none kV13 dc13 pm13 an13 cd13 ct13), sl13⟩) (c13 : PySem.W.codeIn K cd13 "curve_of" = true) (k13 : PySem.W.keepIn K (.ref f13) = true)
   (a14 : PySem.W.nsIn K mainGlobals "number_of" = some (some (.ref f14))) (l14 : K.lookup f14 = some ⟨oc14, od14, .func (PySem.W.fnOf "number_of" "number_of" (defArgs (top 8)) (defBody (top 8)) (defScope (top 8)) .none kV14 dc14 pm14 an14 cd14 ct14), sl14⟩) (c14 : PySem.W.codeIn K cd14 "number_of" = true) (k14 : PySem.W.keepIn K (.ref f14) = true)
   (a15 : PySem.W.nsIn K mainGlobals "curve_over" = some (some (.ref f15))) (l15 : K.lookup f15 = some ⟨oc15, od15, .func (PySem.W.fnOf "curve_over" "curve_over" (defArgs (top 16)) (defBody (top 16)) (defScope (top 16)) .none kV15 dc15 pm15 an15 cd15 ct15), sl15⟩) (c15 : PySem.W.codeIn K cd15 "curve_over" = true) (k15 : PySem.W.keepIn K (.ref f15) = true)
   (a16 : PySem.W.nsIn K mainGlobals "whole_product" = some (some (.ref f16))) (l16 : K.lookup f16 = some ⟨oc16, od16, .func (PySem.W.fnOf "whole_product" "whole_product" (defArgs (top 19)) (defBody (top 19)) (defScope (top 19)) .none kV16 dc16 pm16 an16 cd16 ct16), sl16⟩) (c16 : PySem.W.codeIn K cd16 "whole_product" = true) (k16 : PySem.W.keepIn K (.ref f16) = true)
   (a17 : PySem.W.nsIn K mainGlobals "by_steps" = some (some (.ref f17))) (l17 : K.lookup f17 = some ⟨oc17, od17, .func (PySem.W.fnOf "by_steps" "by_steps" (defArgs (top 38)) (defBody (top 38)) (defScope (top 38)) .none kV17 dc17 pm17 an17 cd17 ct17), sl17⟩) (c17 : PySem.W.codeIn K cd17 "by_steps" = true) (k17 : PySem.W.keepIn K (.ref f17) = true)
   (a18 : PySem.W.nsIn K mainGlobals "nought_at" = some (some (.ref f18))) (l18 : K.lookup f18 = some ⟨oc18, od18, .func (PySem.W.fnOf "nought_at" "nought_at" (defArgs (top 40)) (defBody (top 40)) (defScope (top 40)) .none kV18 dc18 pm18 an18 cd18 ct18), sl18⟩) (c18 : PySem.W.codeIn K cd18 "nought_at" = true) (k18 : PySem.W.keepIn K (.ref f18) = true)
   (a19 : PySem.W.nsIn K mainGlobals "over" = some (some (.ref f19))) (l19 : K.lookup f19 = some ⟨oc19, od19, .func (PySem.W.fnOf "over" "over" (defArgs (top 10)) (defBody (top 10)) (defScope (top 10)) .none kV19 dc19 pm19 an19 cd19 ct19), sl19⟩) (c19 : PySem.W.codeIn K cd19 "over" = true) (k19 : PySem.W.keepIn K (.ref f19) = true)
   (a20 : PySem.W.nsIn K mainGlobals "whole_division" = some (some (.ref f20))) (l20 : K.lookup f20 = some ⟨oc20, od20, .func (PySem.W.fnOf "whole_division" "whole_division" (defArgs (top 23)) (defBody (top 23)) (defScope (top 23)) .none kV20 dc20 pm20 an20 cd20 ct20), sl20⟩) (c20 : PySem.W.codeIn K cd20 "whole_division" = true) (k20 : PySem.W.keepIn K (.ref f20) = true)
   (a21 : PySem.W.nsIn K mainGlobals "raised" = some (some (.ref f21))) (l21 : K.lookup f21 = some ⟨oc21, od21, .func (PySem.W.fnOf "raised" "raised" (defArgs (top 22)) (defBody (top 22)) (defScope (top 22)) .none kV21 dc21 pm21 an21 cd21 ct21), sl21⟩) (c21 : PySem.W.codeIn K cd21 "raised" = true) (k21 : PySem.W.keepIn K (.ref f21) = true)
   (a22 : PySem.W.nsIn K mainGlobals "divided" = some (some (.ref f22))) (l22 : K.lookup f22 = some ⟨oc22, od22, .func (PySem.W.fnOf "divided" "divided" (defArgs (top 24)) (defBody (top 24)) (defScope (top 24)) .none kV22 dc22 pm22 an22 cd22 ct22), sl22⟩) (c22 : PySem.W.codeIn K cd22 "divided" = true) (k22 : PySem.W.keepIn K (.ref f22) = true)
   (a23 : PySem.W.nsIn K mainGlobals "times" = some (some (.ref f23))) (l23 : K.lookup f23 = some ⟨oc23, od23, .func (PySem.W.fnOf "times" "times" (defArgs (top 9)) (defBody (top 9)) (defScope (top 9)) .none kV23 dc23 pm23 an23 cd23 ct23), sl23⟩) (c23 : PySem.W.codeIn K cd23 "times" = true) (k23 : PySem.W.keepIn K (.ref f23) = true)
   (a24 : PySem.W.nsIn K mainGlobals "scaled" = some (some (.ref f24))) (l24 : K.lookup f24 = some ⟨oc24, od24, .func (PySem.W.fnOf "scaled" "scaled" (defArgs (top 20)) (defBody (top 20)) (defScope (top 20)) .none kV24 dc24 pm24 an24 cd24 ct24), sl24⟩) (c24 : PySem.W.codeIn K cd24 "scaled" = true) (k24 : PySem.W.keepIn K (.ref f24) = true)
   (a25 : PySem.W.nsIn K mainGlobals "whole_height" = some (some (.ref f25))) (l25 : K.lookup f25 = some ⟨oc25, od25, .func (PySem.W.fnOf "whole_height" "whole_height" (defArgs (top 17)) (defBody (top 17)) (defScope (top 17)) .none kV25 dc25 pm25 an25 cd25 ct25), sl25⟩) (c25 : PySem.W.codeIn K cd25 "whole_height" = true) (k25 : PySem.W.keepIn K (.ref f25) = true)
   (a26 : PySem.W.nsIn K mainGlobals "height_at" = some (some (.ref f26))) (l26 : K.lookup f26 = some ⟨oc26, od26, .func (PySem.W.fnOf "height_at" "height_at" (defArgs (top 18)) (defBody (top 18)) (defScope (top 18)) .none kV26 dc26 pm26 an26 cd26 ct26), sl26⟩) (c26 : PySem.W.codeIn K cd26 "height_at" = true) (k26 : PySem.W.keepIn K (.ref f26) = true)
   (a27 : PySem.W.nsIn K mainGlobals "lowest_terms" = some (some (.ref f27))) (l27 : K.lookup f27 = some ⟨oc27, od27, .func (PySem.W.fnOf "lowest_terms" "lowest_terms" (defArgs (top 41)) (defBody (top 41)) (defScope (top 41)) .none kV27 dc27 pm27 an27 cd27 ct27), sl27⟩) (c27 : PySem.W.codeIn K cd27 "lowest_terms" = true) (k27 : PySem.W.keepIn K (.ref f27) = true)
   (a28 : PySem.W.nsIn K mainGlobals "lack_at" = some (some (.ref f28))) (l28 : K.lookup f28 = some ⟨oc28, od28, .func (PySem.W.fnOf "lack_at" "lack_at" (defArgs (top 32)) (defBody (top 32)) (defScope (top 32)) .none kV28 dc28 pm28 an28 cd28 ct28), sl28⟩) (c28 : PySem.W.codeIn K cd28 "lack_at" = true) (k28 : PySem.W.keepIn K (.ref f28) = true)
   (a29 : PySem.W.nsIn K mainGlobals "with_nought_at" = some (some (.ref f29))) (l29 : K.lookup f29 = some ⟨oc29, od29, .func (PySem.W.fnOf "with_nought_at" "with_nought_at" (defArgs (top 33)) (defBody (top 33)) (defScope (top 33)) .none kV29 dc29 pm29 an29 cd29 ct29), sl29⟩) (c29 : PySem.W.codeIn K cd29 "with_nought_at" = true) (k29 : PySem.W.keepIn K (.ref f29) = true)
   (a30 : PySem.W.nsIn K mainGlobals "without_common" = some (some (.ref f30))) (l30 : K.lookup f30 = some ⟨oc30, od30, .func (PySem.W.fnOf "without_common" "without_common" (defArgs (top 34)) (defBody (top 34)) (defScope (top 34)) .none kV30 dc30 pm30 an30 cd30 ct30), sl30⟩) (c30 : PySem.W.codeIn K cd30 "without_common" = true) (k30 : PySem.W.keepIn K (.ref f30) = true)
   (a31 : PySem.W.nsIn K mainGlobals "both_with" = some (some (.ref f31))) (l31 : K.lookup f31 = some ⟨oc31, od31, .func (PySem.W.fnOf "both_with" "both_with" (defArgs (top 35)) (defBody (top 35)) (defScope (top 35)) .none kV31 dc31 pm31 an31 cd31 ct31), sl31⟩) (c31 : PySem.W.codeIn K cd31 "both_with" = true) (k31 : PySem.W.keepIn K (.ref f31) = true)
   (a32 : PySem.W.nsIn K mainGlobals "pair_through" = some (some (.ref f32))) (l32 : K.lookup f32 = some ⟨oc32, od32, .func (PySem.W.fnOf "pair_through" "pair_through" (defArgs (top 36)) (defBody (top 36)) (defScope (top 36)) .none kV32 dc32 pm32 an32 cd32 ct32), sl32⟩) (c32 : PySem.W.codeIn K cd32 "pair_through" = true) (k32 : PySem.W.keepIn K (.ref f32) = true)
   (a33 : PySem.W.nsIn K mainGlobals "rising" = some (some (.ref f33))) (l33 : K.lookup f33 = some ⟨oc33, od33, .func (PySem.W.fnOf "rising" "rising" (defArgs (top 31)) (defBody (top 31)) (defScope (top 31)) .none kV33 dc33 pm33 an33 cd33 ct33), sl33⟩) (c33 : PySem.W.codeIn K cd33 "rising" = true) (k33 : PySem.W.keepIn K (.ref f33) = true)
   (a34 : PySem.W.nsIn K mainGlobals "reaches" = some (some (.ref f34))) (l34 : K.lookup f34 = some ⟨oc34, od34, .func (PySem.W.fnOf "reaches" "reaches" (defArgs (top 42)) (defBody (top 42)) (defScope (top 42)) .none kV34 dc34 pm34 an34 cd34 ct34), sl34⟩) (c34 : PySem.W.codeIn K cd34 "reaches" = true) (k34 : PySem.W.keepIn K (.ref f34) = true)
   (a35 : PySem.W.nsIn K mainGlobals "quotient_through" = some (some (.ref f35))) (l35 : K.lookup f35 = some ⟨oc35, od35, .func (PySem.W.fnOf "quotient_through" "quotient_through" (defArgs (top 43)) (defBody (top 43)) (defScope (top 43)) .none kV35 dc35 pm35 an35 cd35 ct35), sl35⟩) (c35 : PySem.W.codeIn K cd35 "quotient_through" = true) (k35 : PySem.W.keepIn K (.ref f35) = true)
   (a36 : PySem.W.nsIn K mainGlobals "_law_times" = some (some (.ref f36))) (l36 : K.lookup f36 = some ⟨oc36, od36, .func (PySem.W.fnOf "_law_times" "_law_times" (defArgs (top 50)) (defBody (top 50)) (defScope (top 50)) .none kV36 dc36 pm36 an36 cd36 ct36), sl36⟩) (c36 : PySem.W.codeIn K cd36 "_law_times" = true) (k36 : PySem.W.keepIn K (.ref f36) = true)
   (a37 : PySem.W.nsIn K mainGlobals "_law_at" = some (some (.ref f37))) (l37 : K.lookup f37 = some ⟨oc37, od37, .func (PySem.W.fnOf "_law_at" "_law_at" (defArgs (top 52)) (defBody (top 52)) (defScope (top 52)) .none kV37 dc37 pm37 an37 cd37 ct37), sl37⟩) (c37 : PySem.W.codeIn K cd37 "_law_at" = true) (k37 : PySem.W.keepIn K (.ref f37) = true)
   (a38 : PySem.W.nsIn K mainGlobals "law" = some (some (.ref f38))) (l38 : K.lookup f38 = some ⟨oc38, od38, .func (PySem.W.fnOf "law" "law" (defArgs (top 54)) (defBody (top 54)) (defScope (top 54)) .none kV38 dc38 pm38 an38 cd38 ct38), sl38⟩) (c38 : PySem.W.codeIn K cd38 "law" = true) (k38 : PySem.W.keepIn K (.ref f38) = true)
   (z_len : PySem.W.nsIn K mainGlobals "len" = some none)
   (z_abs : PySem.W.nsIn K mainGlobals "abs" = some none)
   (z_range : PySem.W.nsIn K mainGlobals "range" = some none)
   (z_set : PySem.W.nsIn K mainGlobals "set" = some none)
   (z_tuple : PySem.W.nsIn K mainGlobals "tuple" = some none)
   (z_list : PySem.W.nsIn K mainGlobals "list" = some none)
   (z_reversed : PySem.W.nsIn K mainGlobals "reversed" = some none)
   (z_zip : PySem.W.nsIn K mainGlobals "zip" = some none)
   (z_sorted : PySem.W.nsIn K mainGlobals "sorted" = some none)
   {t_MOST_TOLD : Tok} (x_MOST_TOLD : PySem.W.nsIn K mainGlobals "MOST_TOLD" = some (some (.int 12 t_MOST_TOLD)))
   {g_NOUGHT : Addr} {o_NOUGHT : Obj} {v_NOUGHT : Array Value} {m_NOUGHT : Nat} (x_NOUGHT : PySem.W.nsIn K mainGlobals "NOUGHT" = some (some (.ref g_NOUGHT))) (y_NOUGHT : K.lookup g_NOUGHT = some o_NOUGHT) (w_NOUGHT : o_NOUGHT.cls = .type "tuple") (d_NOUGHT : o_NOUGHT.data = .seq v_NOUGHT m_NOUGHT) (e_NOUGHT : v_NOUGHT.toList.map absV = [some (.int (0 : Rat).num), some (.int ((0 : Rat).den : Int))])
   (h33 : codeOf K f33 194 = true) :
   ∃ (fd : FuncData) (c : Addr), PySem.W.codeHdIn K c 194 = true ∧ (∀ (s : Shared) (v : Value), BindsTo s fd ⟨[v], []⟩ [("_law_script", v)]) ∧ ∀ base : Heap, K.In base → base.Ns mainGlobals mg → Bm mg base → FnOk l.prog w K mg base CX0 40 fa fd ["_law_script"] (spLawT K 194) := by
 obtain ⟨cc, hcc⟩ := codeOf_hd h33
 have e := hfa.symm.trans (PySem.W.mg_of X G a38)
 cases e
 have b_len := PySem.W.mg_none_of X G z_len
 have b_abs := PySem.W.mg_none_of X G z_abs
 have b_range := PySem.W.mg_none_of X G z_range
 have b_set := PySem.W.mg_none_of X G z_set
 have b_tuple := PySem.W.mg_none_of X G z_tuple
 have b_list := PySem.W.mg_none_of X G z_list
 have b_reversed := PySem.W.mg_none_of X G z_reversed
 have b_zip := PySem.W.mg_none_of X G z_zip
 have b_sorted := PySem.W.mg_none_of X G z_sorted
 have c_MOST_TOLD := PySem.W.mg_of X G x_MOST_TOLD
 have c_NOUGHT := PySem.W.mg_of X G x_NOUGHT
 have n_NOUGHT : ∀ H : Hp, NumV K H (.ref g_NOUGHT) (0) := fun H => ⟨_, rfl, const_num y_NOUGHT w_NOUGHT d_NOUGHT e_NOUGHT⟩
 have F1 := fun_mk (st := top 45) l1 c1 k1
 have B1 := Fun.binds2 "_law_script" "_law_k" F1 fun _ _ _ _ _ _ _ _ => rfl
 have F2 := fun_mk (st := top 47) l2 c2 k2
 have B2 := Fun.binds2 "_law_top" "_law_bottom" F2 fun _ _ _ _ _ _ _ _ => rfl
 have F3 := fun_mk (st := top 46) l3 c3 k3
 have B3 := Fun.binds2 "_law_pen_here" "_law_many" F3 fun _ _ _ _ _ _ _ _ => rfl
 have F4 := fun_mk (st := top 51) l4 c4 k4
 have B4 := Fun.binds1 "_law_pen_here" F4 fun _ _ _ _ _ _ _ => rfl
 have F5 := fun_mk (st := top 48) l5 c5 k5
 have B5 := Fun.binds2 "_law_a" "_law_b" F5 fun _ _ _ _ _ _ _ _ => rfl
 have F6 := fun_mk (st := top 53) l6 c6 k6
 have B6 := Fun.binds2 "_law_pen_here" "_law_many" F6 fun _ _ _ _ _ _ _ _ => rfl
 have F7 := fun_mk (st := top 27) l7 c7 k7
 have B7 := Fun.binds1 "places" F7 fun _ _ _ _ _ _ _ => rfl
 have F8 := fun_mk (st := top 28) l8 c8 k8
 have B8 := Fun.binds2 "places" "fewest" F8 fun _ _ _ _ _ _ _ _ => rfl
 have F9 := fun_mk (st := top 30) l9 c9 k9
 have B9 := Fun.binds2 "places" "heights" F9 fun _ _ _ _ _ _ _ _ => rfl
 have F10 := fun_mk (st := top 7) l10 c10 k10
 have B10 := Fun.binds2 "one" "other" F10 fun _ _ _ _ _ _ _ _ => rfl
 have F11 := fun_mk (st := top 14) l11 c11 k11
 have B11 := Fun.binds1 "numbers" F11 fun _ _ _ _ _ _ _ => rfl
 have F12 := fun_mk (st := top 15) l12 c12 k12
 have B12 := Fun.binds2 "numbers" "bottom" F12 fun _ _ _ _ _ _ _ _ => rfl
 have F13 := fun_mk (st := top 13) l13 c13 k13
 have B13 := Fun.binds1 "numbers" F13 fun _ _ _ _ _ _ _ => rfl
 have F14 := fun_mk (st := top 8) l14 c14 k14
 have B14 := Fun.binds2 "top" "bottom" F14 fun _ _ _ _ _ _ _ _ => rfl
 have F15 := fun_mk (st := top 16) l15 c15 k15
 have B15 := Fun.binds2 "tops" "bottom" F15 fun _ _ _ _ _ _ _ _ => rfl
 have F16 := fun_mk (st := top 19) l16 c16 k16
 have B16 := Fun.binds2 "first" "second" F16 fun _ _ _ _ _ _ _ _ => rfl
 have F17 := fun_mk (st := top 38) l17 c17 k17
 have B17 := Fun.binds2 "knots" "steps" F17 fun _ _ _ _ _ _ _ _ => rfl
 have F18 := fun_mk (st := top 40) l18 c18 k18
 have B18 := Fun.binds1 "places" F18 fun _ _ _ _ _ _ _ => rfl
 have F19 := fun_mk (st := top 10) l19 c19 k19
 have B19 := Fun.binds2 "a" "b" F19 fun _ _ _ _ _ _ _ _ => rfl
 have F20 := fun_mk (st := top 23) l20 c20 k20
 have B20 := Fun.binds2 "first" "second" F20 fun _ _ _ _ _ _ _ _ => rfl
 have F21 := fun_mk (st := top 22) l21 c21 k21
 have B21 := Fun.binds2 "base" "many" F21 fun _ _ _ _ _ _ _ _ => rfl
 have F22 := fun_mk (st := top 24) l22 c22 k22
 have B22 := Fun.binds2 "one" "other" F22 fun _ _ _ _ _ _ _ _ => rfl
 have F23 := fun_mk (st := top 9) l23 c23 k23
 have B23 := Fun.binds2 "a" "b" F23 fun _ _ _ _ _ _ _ _ => rfl
 have F24 := fun_mk (st := top 20) l24 c24 k24
 have B24 := Fun.binds2 "curve" "number" F24 fun _ _ _ _ _ _ _ _ => rfl
 have F25 := fun_mk (st := top 17) l25 c25 k25
 have B25 := Fun.binds2 "tops" "x" F25 fun _ _ _ _ _ _ _ _ => rfl
 have F26 := fun_mk (st := top 18) l26 c26 k26
 have B26 := Fun.binds2 "curve" "x" F26 fun _ _ _ _ _ _ _ _ => rfl
 have F27 := fun_mk (st := top 41) l27 c27 k27
 have B27 := Fun.binds2 "pair" "places" F27 fun _ _ _ _ _ _ _ _ => rfl
 have F28 := fun_mk (st := top 32) l28 c28 k28
 have B28 := Fun.binds3 "pair" "x" "y" F28 fun _ _ _ _ _ _ _ _ _ => rfl
 have F29 := fun_mk (st := top 33) l29 c29 k29
 have B29 := Fun.binds2 "pair" "x" F29 fun _ _ _ _ _ _ _ _ => rfl
 have F30 := fun_mk (st := top 34) l30 c30 k30
 have B30 := Fun.binds1 "tops" F30 fun _ _ _ _ _ _ _ => rfl
 have F31 := fun_mk (st := top 35) l31 c31 k31
 have B31 := Fun.binds3 "both" "x" "y" F31 fun _ _ _ _ _ _ _ _ _ => rfl
 have F32 := fun_mk (st := top 36) l32 c32 k32
 have B32 := Fun.binds3 "places" "heights" "width" F32 fun _ _ _ _ _ _ _ _ _ => rfl
 have F33 := fun_mk (st := top 31) l33 c33 k33
 have B33 := Fun.binds1 "places" F33 fun _ _ _ _ _ _ _ => rfl
 have F34 := fun_mk (st := top 42) l34 c34 k34
 have B34 := Fun.binds3 "quotient" "x" "y" F34 fun _ _ _ _ _ _ _ _ _ => rfl
 have F35 := fun_mk (st := top 43) l35 c35 k35
 have B35 := Fun.binds3 "places" "heights" "width" F35 fun _ _ _ _ _ _ _ _ _ => rfl
 have F36 := fun_mk (st := top 50) l36 c36 k36
 have B36 := Fun.binds2 "_law_a" "_law_b" F36 fun _ _ _ _ _ _ _ _ => rfl
 have F37 := fun_mk (st := top 52) l37 c37 k37
 have B37 := Fun.binds2 "_law_curve" "_law_x" F37 fun _ _ _ _ _ _ _ _ => rfl
 have F38 := fun_mk (st := top 54) l38 c38 k38
 refine ⟨PySem.W.fnOf "law" "law" (defArgs (top 54)) (defBody (top 54)) (defScope (top 54)) .none kV38 dc38 pm38 an38 cd38 ct38, cc, hcc, fun s v => .of_eq rfl, fun base _ _ hbm => ?_⟩
 have E__law_pen : Fd l.prog w K mg base 33 "_law_pen" ["_law_script", "_law_k"] (spPen K) := ⟨_, _, ok__law_pen F1 b_len hT, B1, k1, PySem.W.mg_of X G a1⟩
 have E__law_lowest : Fd l.prog w K mg base 33 "_law_lowest" ["_law_top", "_law_bottom"] (spLow) := ⟨_, _, ok__law_lowest F2 b_abs hT, B2, k2, PySem.W.mg_of X G a2⟩
 have E__law_draw : Fd l.prog w K mg base 33 "_law_draw" ["_law_pen_here", "_law_many"] (spDraw) := ⟨_, _, ok__law_draw F3 hT, B3, k3, PySem.W.mg_of X G a3⟩
 have E__law_number : Fd l.prog w K mg base 34 "_law_number" ["_law_pen_here"] (spNum 8) := ⟨_, _, ok__law_number F4 E__law_lowest E__law_draw hT, B4, k4, PySem.W.mg_of X G a4⟩
 have E__law_plus : Fd l.prog w K mg base 34 "_law_plus" ["_law_a", "_law_b"] (spBin K (· + ·)) := ⟨_, _, ok__law_plus F5 E__law_lowest hT, B5, k5, PySem.W.mg_of X G a5⟩
 have E__law_places : Fd l.prog w K mg base 35 "_law_places" ["_law_pen_here", "_law_many"] (spPlacesT K 8) := ⟨_, _, ok__law_places F6 E__law_number E__law_plus b_range hT, B6, k6, PySem.W.mg_of X G a6⟩
 have E_are_unlike : Fd l.prog w K mg base 33 "are_unlike" ["places"] (spUnlike K) := ⟨_, _, ok_are_unlike F7 b_len b_set hT, B7, k7, PySem.W.mg_of X G a7⟩
 have E_check_places : Fd l.prog w K mg base 34 "check_places" ["places", "fewest"] (spCheck K) := ⟨_, _, ok_check_places F8 E_are_unlike b_len c_MOST_TOLD hT, B8, k8, PySem.W.mg_of X G a8⟩
 have E_check_heights : Fd l.prog w K mg base 35 "check_heights" ["places", "heights"] (spCheckH K) := ⟨_, _, ok_check_heights F9 E_check_places b_len hT, B9, k9, PySem.W.mg_of X G a9⟩
 have E_common_measure : Fd l.prog w K mg base 33 "common_measure" ["one", "other"] (spGcd) := ⟨_, _, ok_common_measure F10 b_abs hT, B10, k10, PySem.W.mg_of X G a10⟩
 have E_bottom_of : Fd l.prog w K mg base 34 "bottom_of" ["numbers"] (spBot K) := ⟨_, _, ok_bottom_of F11 E_common_measure hT, B11, k11, PySem.W.mg_of X G a11⟩
 have E_tops_over : Fd l.prog w K mg base 33 "tops_over" ["numbers", "bottom"] (spTops K) := ⟨_, _, ok_tops_over F12 hT, B12, k12, PySem.W.mg_of X G a12⟩
 have E_curve_of : Fd l.prog w K mg base 33 "curve_of" ["numbers"] (spCurveOf K) := ⟨_, _, ok_curve_of F13 b_len b_tuple c_NOUGHT n_NOUGHT hT, B13, k13, PySem.W.mg_of X G a13⟩
 have E_number_of : Fd l.prog w K mg base 34 "number_of" ["top", "bottom"] (spLow) := ⟨_, _, ok_number_of F14 E_common_measure hT, B14, k14, PySem.W.mg_of X G a14⟩
 have E_curve_over : Fd l.prog w K mg base 35 "curve_over" ["tops", "bottom"] (spCurveOver K) := ⟨_, _, ok_curve_over F15 E_curve_of E_number_of hT, B15, k15, PySem.W.mg_of X G a15⟩
 have E_whole_product : Fd l.prog w K mg base 33 "whole_product" ["first", "second"] (spProd K) := ⟨_, _, ok_whole_product F16 b_range b_len hT, B16, k16, PySem.W.mg_of X G a16⟩
 have E_by_steps : Fd l.prog w K mg base 36 "by_steps" ["knots", "steps"] (spBySteps K) := ⟨_, _, ok_by_steps F17 E_bottom_of E_tops_over E_curve_over E_whole_product b_range b_len hT, B17, k17, PySem.W.mg_of X G a17⟩
 have E_nought_at : Fd l.prog w K mg base 37 "nought_at" ["places"] (spNoughtAt K) := ⟨_, _, ok_nought_at F18 E_by_steps b_len c_NOUGHT n_NOUGHT hT, B18, k18, PySem.W.mg_of X G a18⟩
 have E_over : Fd l.prog w K mg base 35 "over" ["a", "b"] (spOver K) := ⟨_, _, ok_over F19 E_number_of hT, B19, k19, PySem.W.mg_of X G a19⟩
 have E_whole_division : Fd l.prog w K mg base 33 "whole_division" ["first", "second"] (spDiv K) := ⟨_, _, ok_whole_division F20 b_list b_range b_len hT, B20, k20, PySem.W.mg_of X G a20⟩
 have E_raised : Fd l.prog w K mg base 33 "raised" ["base", "many"] (spRaised) := ⟨_, _, ok_raised F21 b_range hT, B21, k21, PySem.W.mg_of X G a21⟩
 have E_divided : Fd l.prog w K mg base 36 "divided" ["one", "other"] (spDivd3 K) := ⟨_, _, ok_divided F22 E_bottom_of E_tops_over E_whole_division E_curve_over E_raised b_len hT, B22, k22, PySem.W.mg_of X G a22⟩
 have E_times : Fd l.prog w K mg base 35 "times" ["a", "b"] (spBin K (· * ·)) := ⟨_, _, ok_times F23 E_number_of hT, B23, k23, PySem.W.mg_of X G a23⟩
 have E_scaled : Fd l.prog w K mg base 36 "scaled" ["curve", "number"] (spScaled K) := ⟨_, _, ok_scaled F24 E_curve_of E_times hT, B24, k24, PySem.W.mg_of X G a24⟩
 have E_whole_height : Fd l.prog w K mg base 33 "whole_height" ["tops", "x"] (spWH K) := ⟨_, _, ok_whole_height F25 b_reversed hT, B25, k25, PySem.W.mg_of X G a25⟩
 have E_height_at : Fd l.prog w K mg base 35 "height_at" ["curve", "x"] (spHeight2 K) := ⟨_, _, ok_height_at F26 E_bottom_of E_whole_height E_number_of E_tops_over hT, B26, k26, PySem.W.mg_of X G a26⟩
 have E_lowest_terms : Fd l.prog w K mg base 38 "lowest_terms" ["pair", "places"] (spLowest K) := ⟨_, _, ok_lowest_terms F27 E_nought_at E_over E_divided E_scaled E_height_at c_NOUGHT n_NOUGHT hT, B27, k27, PySem.W.mg_of X G a27⟩
 have E_lack_at : Fd l.prog w K mg base 34 "lack_at" ["pair", "x", "y"] (spLack K) := ⟨_, _, ok_lack_at F28 E_whole_height b_len hT, B28, k28, PySem.W.mg_of X G a28⟩
 have E_with_nought_at : Fd l.prog w K mg base 33 "with_nought_at" ["pair", "x"] (spShift K) := ⟨_, _, ok_with_nought_at F29 b_range b_len hT, B29, k29, PySem.W.mg_of X G a29⟩
 have E_without_common : Fd l.prog w K mg base 34 "without_common" ["tops"] (spWoC K) := ⟨_, _, ok_without_common F30 E_common_measure hT, B30, k30, PySem.W.mg_of X G a30⟩
 have E_both_with : Fd l.prog w K mg base 35 "both_with" ["both", "x", "y"] (spBoth K) := ⟨_, _, ok_both_with F31 E_lack_at E_with_nought_at E_without_common b_zip hT, B31, k31, PySem.W.mg_of X G a31⟩
 have E_pair_through : Fd l.prog w K mg base 36 "pair_through" ["places", "heights", "width"] (spPair K) := ⟨_, _, ok_pair_through F32 E_both_with E_curve_over b_zip b_len hT, B32, k32, PySem.W.mg_of X G a32⟩
 have E_rising : Fd l.prog w K mg base 38 "rising" ["places"] (spRise K 194) := ⟨_, _, ok_rising F33 E_bottom_of b_sorted hT hbm h33, B33, k33, PySem.W.mg_of X G a33⟩
 have E_reaches : Fd l.prog w K mg base 36 "reaches" ["quotient", "x", "y"] (spReaches K) := ⟨_, _, ok_reaches F34 E_height_at E_times c_NOUGHT n_NOUGHT hT, B34, k34, PySem.W.mg_of X G a34⟩
 have E_quotient_through : Fd l.prog w K mg base 39 "quotient_through" ["places", "heights", "width"] (spQuo K 194) := ⟨_, _, ok_quotient_through F35 E_check_heights E_lowest_terms E_pair_through E_rising E_reaches b_len b_zip hT, B35, k35, PySem.W.mg_of X G a35⟩
 have E__law_times : Fd l.prog w K mg base 34 "_law_times" ["_law_a", "_law_b"] (spBin K (· * ·)) := ⟨_, _, ok__law_times F36 E__law_lowest hT, B36, k36, PySem.W.mg_of X G a36⟩
 have E__law_at : Fd l.prog w K mg base 35 "_law_at" ["_law_curve", "_law_x"] (spAt2 K) := ⟨_, _, ok__law_at F37 E__law_plus E__law_times hT, B37, k37, PySem.W.mg_of X G a37⟩
 exact ok_law F38 E__law_pen E__law_places E__law_draw E_quotient_through E__law_number E__law_at b_len b_range hT
theorem walk {l : PySem.W.OpenLaw} {q : Program} {loose : List Str} {XP : (Str → Option Value) → Heap → Prop} {d : DefRec} {K : Params → PySem.W.Frag} {as : List Addr} {e : ∀ P, as = (K P).map (·.1)} (hI : PyProof.Rows.importsNone q = true) (hn : l.most = some 63) (hdf : d.params.defaults = []) (has : as.contains 194 = false)
   (F : ∀ (w : World) (mg : Str → Option Value) (fa : Addr) (h : Heap), (K w.params).In h → h.Ns mainGlobals mg → mg d.name = some (.ref fa) →
     ∃ (fd : FuncData) (c : Addr), PySem.W.codeHdIn (K w.params) c 194 = true ∧ (∀ (s : Shared) (u : Value), BindsTo s fd ⟨[u], []⟩ [("_law_script", u)]) ∧ ∀ base : Heap, (K w.params).In base → base.Ns mainGlobals mg → Bm mg base → FnOk l.prog w (K w.params) mg base CX0 40 fa fd ["_law_script"] ((fun (K : PySem.W.Frag) => (spLawT K 194 : Sp)) (K w.params))) :
   PySem.W.WalkO q loose XP (PySem.W.kmHook K as e [194]).says l.row.toRowW d [] (fun f vs => PySem.call f vs) :=
 L2.walk_ofT (n := 63) (k := 40) (x := "_law_script") (Pt := 194) (CX := fun _ => CX0) (sp := fun w => (fun (K : PySem.W.Frag) => (spLawT K 194 : Sp)) (K w.params)) hI hn (by decide) hdf ⟨rfl, by decide, by decide⟩ (fun w h Y => ⟨PySem.W.km_in_of Y, PySem.W.km_tabs_of Y _ List.mem_cons_self, lk_none (e _) has⟩) F (fun _ _ a ns hl _ hS hP => ⟨a, ns, rfl, hS, hl, hP, fun _ => rfl⟩) fun _ _ _ _ _ z => z
end Pf
def PySem.W.Fast.tw16798256394194054101 : Unit := ()
def PySem.W.Fast.tw2085300122502292011 : Unit := ()
def PySem.W.Fast.tw3334778160182563879 : Unit := ()
def PySem.W.Fast.tw6956766616857245606 : Unit := ()
def PySem.W.Fast.tw3343484162944194672 : Unit := ()
def PySem.W.Fast.tw2827443203307141328 : Unit := ()
def PySem.W.Fast.tw16213302353399241234 : Unit := ()
def PySem.W.Fast.tw17707664771174621377 : Unit := ()
def PySem.W.Fast.tw16020939263595144732 : Unit := ()
def PySem.W.Fast.tw2714898477797236867 : Unit := ()
def PySem.W.Fast.tw14379366947210830092 : Unit := ()
def PySem.W.Fast.tw12738585710260309676 : Unit := ()
def PySem.W.Fast.tw18295274295172266080 : Unit := ()
def PySem.W.Fast.tw985974145583876781 : Unit := ()
def PySem.W.Fast.tw1951784251507450207 : Unit := ()
def PySem.W.Fast.tw11573851179423616990 : Unit := ()
def PySem.W.Fast.tw369337015984319411 : Unit := ()
def PySem.W.Fast.tw15711982098465259107 : Unit := ()
def PySem.W.Fast.tw558944288382719937 : Unit := ()
def PySem.W.Fast.tw12991231360058385297 : Unit := ()
def PySem.W.Fast.tw5791060486285227855 : Unit := ()
def PySem.W.Fast.tw9807472337873103768 : Unit := ()
def PySem.W.Fast.tw2393125901207379211 : Unit := ()
def PySem.W.Fast.tw16717080028587492444 : Unit := ()
def PySem.W.Fast.tw16458752136891124904 : Unit := ()
def PySem.W.Fast.tw5942504361438094230 : Unit := ()
def PySem.W.Fast.tw15901414967763294136 : Unit := ()
def PySem.W.Fast.tw2596609695072064104 : Unit := ()
def PySem.W.Fast.tw8719864485839245231 : Unit := ()
def PySem.W.Fast.tw1904092800320294156 : Unit := ()
def PySem.W.Fast.tw3742273482344296295 : Unit := ()
def PySem.W.Fast.tw359050336657814338 : Unit := ()
def PySem.W.Fast.tw3644291995881550633 : Unit := ()
def PySem.W.Fast.tw9346141632836913780 : Unit := ()
def PySem.W.Fast.tw3815571289343161730 : Unit := ()
def PySem.W.Fast.tw2239542835275148067 : Unit := ()
def PySem.W.Fast.tw12739573627553732148 : Unit := ()
def PySem.W.Fast.tw2772374442772673186 : Unit := ()
def PySem.W.Fast.tw11460340029992695475 : Unit := ()
def PySem.W.Fast.tw15267963836294583100 : Unit := ()
def PySem.W.Fast.tw3912608445339995479 : Unit := ()
def PySem.W.Fast.tw10415529700717076915 : Unit := ()
def PySem.W.Fast.tw16907456443203010925 : Unit := ()
def PySem.W.Fast.tw974811333986258366 : Unit := ()
def PySem.W.Fast.tw4037579100062775918 : Unit := ()
def PySem.W.Fast.tw1952924939350391446 : Unit := ()
def PySem.W.Fast.tw15221763568651861729 : Unit := ()
def PySem.W.Fast.tw5062810868195372396 : Unit := ()
def PySem.W.Fast.tw6347508772226253541 : Unit := ()
def PySem.W.Fast.tw14507088377872175068 : Unit := ()
def PySem.W.Fast.tw14184624078091371839 : Unit := ()
def PySem.W.Fast.tw11871327132603092232 : Unit := ()
def PySem.W.Fast.tw14331011464831988742 : Unit := ()
def PySem.W.Fast.tw3751840603254193128 : Unit := ()
def PySem.W.Fast.tw1904951033037070532 : Unit := ()
def PySem.W.Fast.tw13492677960923640694 : Unit := ()
def PySem.W.Fast.tw9973685804716558775 : Unit := ()
def PySem.W.Fast.tw11652836095399488000 : Unit := ()
def PySem.W.Fast.tw7464500686274909266 : Unit := ()
def PySem.W.Fast.tw16175620882273598856 : Unit := ()
def PySem.W.Fast.tw11766086592279560685 : Unit := ()
def PySem.W.Fast.tw5331102558646523053 : Unit := ()
def PySem.W.Fast.tw10092675149498930481 : Unit := ()
def PySem.W.Fast.tw3933317122257814710 : Unit := ()
def PySem.W.Fast.tw1827904635221322943 : Unit := ()
def PySem.W.Fast.tw166233085346553193 : Unit := ()
def PySem.W.Fast.tw4281947858381395250 : Unit := ()
def PySem.W.Fast.tw3288691598456537186 : Unit := ()
def PySem.W.Fast.tw6045268735762244877 : Unit := ()
def PySem.W.Fast.tw6187600668828313863 : Unit := ()
def PySem.W.Fast.tw12476436450546768699 : Unit := ()
def PySem.W.Fast.tw14193436068160243140 : Unit := ()
def PySem.W.Fast.tw12483385369757415095 : Unit := ()
def PySem.W.Fast.tw5561093745919230910 : Unit := ()
def PySem.W.Fast.tw11695857598800287225 : Unit := ()
def PySem.W.Fast.tw15283067882178866757 : Unit := ()
def PySem.W.Fast.tw11973664285300097068 : Unit := ()
def PySem.W.Fast.tw1258139478521269068 : Unit := ()
def PySem.W.Fast.tw2659378936873774545 : Unit := ()
def PySem.W.Fast.tw9045092718410597018 : Unit := ()
def PySem.W.Fast.tw3246998750622402144 : Unit := ()
def PySem.W.Fast.tw2980233964810706208 : Unit := ()
def PySem.W.Fast.tw5255356215909936011 : Unit := ()
open PySem PySem.W PyProof.Rows
set_option maxRecDepth 100000 in
set_option maxHeartbeats 0 in
theorem PySem.Challenge.cw_onecurve_k54_quotients_of_one_height_holds : PySem.Challenge.rw_onecurve_k54_quotients_of_one_height.Holds := by
 w_on; o_law; k_head; (case hw => w_witness2)
 k_fill
 refine Pf.walk (l := PySem.Challenge.rw_onecurve_k54_quotients_of_one_height) (by decide +kernel) rfl rfl rfl ?F
 case F =>
   intro w mg fa h KX G hmg
   refine' Pf.all_mk rfl KX G hmg ?a1 ?l1 ?c1 ?k1 ?a2 ?l2 ?c2 ?k2 ?a3 ?l3 ?c3 ?k3 ?a4 ?l4 ?c4 ?k4 ?a5 ?l5 ?c5 ?k5 ?a6 ?l6 ?c6 ?k6 ?a7 ?l7 ?c7 ?k7 ?a8 ?l8 ?c8 ?k8 ?a9 ?l9 ?c9 ?k9 ?a10 ?l10 ?c10 ?k10 ?a11 ?l11 ?c11 ?k11 ?a12 ?l12 ?c12 ?k12 ?a13 ?l13 ?c13 ?k13 ?a14 ?l14 ?c14 ?k14 ?a15 ?l15 ?c15 ?k15 ?a16 ?l16 ?c16 ?k16 ?a17 ?l17 ?c17 ?k17 ?a18 ?l18 ?c18 ?k18 ?a19 ?l19 ?c19 ?k19 ?a20 ?l20 ?c20 ?k20 ?a21 ?l21 ?c21 ?k21 ?a22 ?l22 ?c22 ?k22 ?a23 ?l23 ?c23 ?k23 ?a24 ?l24 ?c24 ?k24 ?a25 ?l25 ?c25 ?k25 ?a26 ?l26 ?c26 ?k26 ?a27 ?l27 ?c27 ?k27 ?a28 ?l28 ?c28 ?k28 ?a29 ?l29 ?c29 ?k29 ?a30 ?l30 ?c30 ?k30 ?a31 ?l31 ?c31 ?k31 ?a32 ?l32 ?c32 ?k32 ?a33 ?l33 ?c33 ?k33 ?a34 ?l34 ?c34 ?k34 ?a35 ?l35 ?c35 ?k35 ?a36 ?l36 ?c36 ?k36 ?a37 ?l37 ?c37 ?k37 ?a38 ?l38 ?c38 ?k38 ?z_len ?z_abs ?z_range ?z_set ?z_tuple ?z_list ?z_reversed ?z_zip ?z_sorted ?x_MOST_TOLD ?x_NOUGHT ?y_NOUGHT ?w_NOUGHT ?d_NOUGHT ?e_NOUGHT ?h33
   (case a1 => k_is)
   (case l1 => k_is)
   (case c1 => k_is)
   (case k1 => k_is)
   (case a2 => k_is)
   (case l2 => k_is)
   (case c2 => k_is)
   (case k2 => k_is)
   (case a3 => k_is)
   (case l3 => k_is)
   (case c3 => k_is)
   (case k3 => k_is)
   (case a4 => k_is)
   (case l4 => k_is)
   (case c4 => k_is)
   (case k4 => k_is)
   (case a5 => k_is)
   (case l5 => k_is)
   (case c5 => k_is)
   (case k5 => k_is)
   (case a6 => k_is)
   (case l6 => k_is)
   (case c6 => k_is)
   (case k6 => k_is)
   (case a7 => k_is)
   (case l7 => k_is)
   (case c7 => k_is)
   (case k7 => k_is)
   (case a8 => k_is)
   (case l8 => k_is)
   (case c8 => k_is)
   (case k8 => k_is)
   (case a9 => k_is)
   (case l9 => k_is)
   (case c9 => k_is)
   (case k9 => k_is)
   (case a10 => k_is)
   (case l10 => k_is)
   (case c10 => k_is)
   (case k10 => k_is)
   (case a11 => k_is)
   (case l11 => k_is)
   (case c11 => k_is)
   (case k11 => k_is)
   (case a12 => k_is)
   (case l12 => k_is)
   (case c12 => k_is)
   (case k12 => k_is)
   (case a13 => k_is)
   (case l13 => k_is)
   (case c13 => k_is)
   (case k13 => k_is)
   (case a14 => k_is)
   (case l14 => k_is)
   (case c14 => k_is)
   (case k14 => k_is)
   (case a15 => k_is)
   (case l15 => k_is)
   (case c15 => k_is)
   (case k15 => k_is)
   (case a16 => k_is)
   (case l16 => k_is)
   (case c16 => k_is)
   (case k16 => k_is)
   (case a17 => k_is)
   (case l17 => k_is)
   (case c17 => k_is)
   (case k17 => k_is)
   (case a18 => k_is)
   (case l18 => k_is)
   (case c18 => k_is)
   (case k18 => k_is)
   (case a19 => k_is)
   (case l19 => k_is)
   (case c19 => k_is)
   (case k19 => k_is)
   (case a20 => k_is)
   (case l20 => k_is)
   (case c20 => k_is)
   (case k20 => k_is)
   (case a21 => k_is)
   (case l21 => k_is)
   (case c21 => k_is)
   (case k21 => k_is)
   (case a22 => k_is)
   (case l22 => k_is)
   (case c22 => k_is)
   (case k22 => k_is)
   (case a23 => k_is)
   (case l23 => k_is)
   (case c23 => k_is)
   (case k23 => k_is)
   (case a24 => k_is)
   (case l24 => k_is)
   (case c24 => k_is)
   (case k24 => k_is)
   (case a25 => k_is)
   (case l25 => k_is)
   (case c25 => k_is)
   (case k25 => k_is)
   (case a26 => k_is)
   (case l26 => k_is)
   (case c26 => k_is)
   (case k26 => k_is)
   (case a27 => k_is)
   (case l27 => k_is)
   (case c27 => k_is)
   (case k27 => k_is)
   (case a28 => k_is)
   (case l28 => k_is)
   (case c28 => k_is)
   (case k28 => k_is)
   (case a29 => k_is)
   (case l29 => k_is)
   (case c29 => k_is)
   (case k29 => k_is)
   (case a30 => k_is)
   (case l30 => k_is)
   (case c30 => k_is)
   (case k30 => k_is)
   (case a31 => k_is)
   (case l31 => k_is)
   (case c31 => k_is)
   (case k31 => k_is)
   (case a32 => k_is)
   (case l32 => k_is)
   (case c32 => k_is)
   (case k32 => k_is)
   (case a33 => k_is)
   (case l33 => k_is)
   (case c33 => k_is)
   (case k33 => k_is)
   (case a34 => k_is)
   (case l34 => k_is)
   (case c34 => k_is)
   (case k34 => k_is)
   (case a35 => k_is)
   (case l35 => k_is)
   (case c35 => k_is)
   (case k35 => k_is)
   (case a36 => k_is)
   (case l36 => k_is)
   (case c36 => k_is)
   (case k36 => k_is)
   (case a37 => k_is)
   (case l37 => k_is)
   (case c37 => k_is)
   (case k37 => k_is)
   (case a38 => k_is)
   (case l38 => k_is)
   (case c38 => k_is)
   (case k38 => k_is)
   (case z_len => k_is)
   (case z_abs => k_is)
   (case z_range => k_is)
   (case z_set => k_is)
   (case z_tuple => k_is)
   (case z_list => k_is)
   (case z_reversed => k_is)
   (case z_zip => k_is)
   (case z_sorted => k_is)
   (case x_MOST_TOLD => k_is)
   (case x_NOUGHT => k_is)
   (case y_NOUGHT => k_is)
   (case w_NOUGHT => rfl)
   (case d_NOUGHT => rfl)
   (case e_NOUGHT => rfl)
   (case h33 => first | rfl | with_unfolding_all rfl)
#print axioms PySem.Challenge.cw_onecurve_k54_quotients_of_one_height_holds
